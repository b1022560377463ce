import PyProof.Rows.All
import Wide.All
import OpenK.AllK
import Wide.FinOn
import Lean
import PyProof.EqAt
import PyProof.EqKinds
import PyProof.TupleCall
import PyProof.EqLayable
import PyProof.FitsBits
import PyProof.FitsInt
import PyProof.ReprLen
import PyProof.ReprReads
import PyProof.StrLawsRepr
import KE.KRevIter
import KE.KDictSum
import KE.KRevSl
import PyProof.Rows.ZipGen
import PyProof.Rows.SortWalk
import KE.KDictList
import PyProof.Rows.Tup
import PyProof.Rows.Range3
import PyProof.EnumMake
import PyProof.EnumFor
import PyProof.Rows.SortStr
import PyProof.Rows.SeqMore2
import PyProof.Rows.StrInSeq3
import PySem.Challenge.RW_waitloom_k08_names_and_taken
set_option Elab.async false
set_option linter.all false
set_option genSizeOf false
set_option maxRecDepth 100000
noncomputable section
open PySem.W(Frag)
local macro_rules|`(∅)=>`(by decide+kernel)
local macro_rules|`(⋯)=>`(by omega)
theorem O0 {p:Prop} (h:p:=by decide):p:=h
open PySem renaming wpAny_bind→Aa,wpAny_pure→Aq,mem_of_lookup→Bq,wpAny_field→B5,wpAny_truthy_bool→Cl,wpAny_call_entry→Co,wpAny_newObj_type→Cp,builtinLookup_eq_fast→Cq,wpAny_callSpecial?_slot→Cr,wpAny_of_eq→C5,wpAny_seqItems→De,typeLookup_type→Dh,wpAny_specialOf→Di,wpAny_holding→Dl,wpAny_setField_rec→Dr,wpAny_passesOwn→Du,isSubtype_type→D5,wpAny_getItem_str_slice→D9,wpAny_ite_split→Eb,wpAny_Call_Name_kw→Ec,wpAny_mono→Ed,wpAny_isInstance→El,wpAny_attempt→En,codeAny_mono→Er,wpAny_pyIter_tuple→Es,wpAny_setField→Et,wpAny_rule→Ez
open List renaming length_map→Ab,length_append→Ac,getElem?_eq_getElem→Af,map_append→Ah,length_cons→Ak,mem_singleton→Am,append_nil→An,mem_cons→Ao,getElem?_map→Ar,length_singleton→Av,size_toArray→Aw,mem_of_getElem?→Ay,mem_append→Az,mem_cons_self→A5,mem_append_right→A7,all_eq_true→A8,mem_cons_of_mem→A9,map_cons→Ba,take_add_one→Bb,getElem?_eq_some_iff→Be,length_reverse→Bf,append_assoc→Bi,getElem?_append_right→Bl,not_mem_nil→Bm,take_length→Bo,getElem?_append_left→Bp,mem_map→Bt,nil_append→Bv,map_map→Bx,mem_append_left→By,length_take_le→B0,length_nil→B1,contains_iff_mem→B2,foldl_cons→B4,mem_map_of_mem→B9,lookup_cons→Cb,getElem_mem→Cd,mem_flatMap→Cj,flatMap_append→Ck,getElem?_of_mem→Cn,mem_of_mem_take→Ct,length_take→Cu,any_cons→Cw,reverse_cons→C0,flatMap_cons→C1,find?_cons→C2,cons_append→C4,getElem?_cons_succ→C6,nodup_cons→C7,all_map→C9,any_eq_true→Db,mem_range→Dc,take_append_drop→Dd,map_id→Df,of_mem_zip→Dg,take_of_length_le→Do,append_eq_nil_iff→Dq,length_set→Dv,mem_filter→Dx,sum_cons→Dy,nodup_append→D1,getElem?_zip_eq_some→D3,getElem?_set_ne→D4,length_zip→Ee,foldl_append→Eg,nodup_nil→Ei,map_nil→Ej,flatten_append→Eo,forIn_cons→Ep,length_range→Eu,all_cons→Ex
open Bool renaming and_eq_true→Ae,false_ne_true→Ai,eq_false_iff→Bz,or_eq_true→B6,eq_iff_iff→Ca,true_and→Cv,false_and→Cz,and_false→D7,or_false→Ea,or_eq_false_iff→Em,not_eq_true'→Ev
open Nat renaming le_refl→Ag,le_trans→A0,ne_of_lt→Bn,lt_of_lt_of_le→Br,zero_le→Bw,succ_le_succ→B7,lt_of_le_of_lt→Cf,ne_of_gt→C8,sub_self→Da,le_succ_of_le→Dk,lt_succ_self→Dn,max_le→Dp,lt_irrefl→Dz,le_succ→Ef,lt_succ_of_lt→Eh,add_assoc→Ey
open PySem.Heap renaming get?_push_of_some→Aj,lt_size→Au,get?_push_size→A6,get?_update_other→Ce,size_push→Cy,get?_update_self→C3,get?_none_of_le→Ek
open PySem.W renaming mg_of→Ap,mg_none_of→B3,kia_one→Cg
open PySem.F renaming plainAttrs_list→Ax,type_list_append→Bs,slot_list_append→Bu,slot_list_extend→Ch,type_list_extend→Ci,slot_tuple_iterator_next→D0
open Int renaming emod_lt_of_pos→Bc,emod_nonneg→Bj,le_trans→B8,zero_add→E1
open Option.some renaming inj→Bg
open PySem.PassesOwn renaming never→Bh
open PyProof.Rows renaming callWith_type1→Cc
open PySem.Paired renaming length→Cm
open Array renaming length_toList→Dm
open PySem.Obj renaming data_mapFields→Ds
open PyProof.Rows.F renaming plain_set_update_loop→Dt
open Sum.inr renaming inj→Ew
def Al:=@decide_eq_true
def As:=@decide_eq_false
def A3:=@of_decide_eq_true
def A4:=@beq_iff_eq
def Bk:=@beq_eq_false_iff_ne
def Dj:=@decide_eq_true_eq
namespace L2
open PySem PySem.Spec PyProof.Rows
abbrev Key:=Sum Int Str
def WT:Key→Value→Bool
 | .inl k,v=>Value.isInt k v
 | .inr x,v=>Value.isStrOf x v
def keyH (w:World):Key→Int
 | .inl k=>hashInt k
 | .inr x=>hashStr w x
theorem zB:∀ {k:Key} {v:Value},WT k v=true→(∃ i t,k=Sum.inl i∧v=Value.int i t)∨(∃ x t,k=Sum.inr x∧v=Value.str x t)
 | .inl i,v,h=>by
  obtain ⟨t,e⟩:=Value.isInt_shape (k:=i) (v:=v) h;exact .inl ⟨i,t,rfl,e⟩
 | .inr x,v,h=>by
  obtain ⟨t,e⟩:=Value.isStrOf_shape (x:=x) (v:=v) h;exact .inr ⟨x,t,rfl,e⟩
theorem qek (i:Int) (t:Tok):WT (.inl i) (.int i t)=true:=by simp [WT,Value.isInt]
theorem Vt (x:Str) (t:Tok):WT (.inr x) (.str x t)=true:=by simp [WT,Value.isStrOf]
theorem qk7 (a b:Int):decide ((Sum.inl a:Key)=Sum.inl b)=(a==b):=by
 by_cases e:a=b
 ·subst e;simp
 ·have h:¬ (Sum.inl a:Key)=Sum.inl b:=fun q=>e (Sum.inl.inj q);rw [As h];exact (Bk.mpr e).symm
theorem qk4 (a b:Str):decide ((Sum.inr a:Key)=Sum.inr b)=decide (a=b):=by
 by_cases e:a=b
 ·subst e;simp
 ·have h:¬ (Sum.inr a:Key)=Sum.inr b:=fun q=>e (Ew q);rw [As h,As e]
theorem qk6 (a:Int) (b:Str):decide ((Sum.inl a:Key)=Sum.inr b)=false:=As (fun q=>nomatch q)
theorem qk5 (a:Str) (b:Int):decide ((Sum.inr a:Key)=Sum.inl b)=false:=As (fun q=>nomatch q)
def zo (prog:Program) (w:World):PySem.KeyKind prog w Key where
 is:=WT
 hash:=keyH w
 inj:=fun v a b ha hb=>by
  rcases zB ha with ⟨i,t,rfl,rfl⟩ | ⟨x,t,rfl,rfl⟩
  ·rcases zB hb with ⟨j,u,rfl,e⟩ | ⟨y,u,rfl,e⟩
   ·injection e with e1 _;rw [e1]
   ·exact nomatch e
  ·rcases zB hb with ⟨j,u,rfl,e⟩ | ⟨y,u,rfl,e⟩
   ·exact nomatch e
   ·injection e with e1 _;rw [e1]
 byValue:=fun k v h=>by
  rcases zB h with ⟨i,t,rfl,rfl⟩ | ⟨x,t,rfl,rfl⟩ <;> rfl
 pyHash:=fun hv h=>by
  rcases zB hv with ⟨i,t,rfl,rfl⟩ | ⟨x,t,rfl,rfl⟩
  ·exact wpAny_pyHash_int h
  ·exact wpAny_pyHash_str h
 eqBool:=fun hu hv h=>by
  rcases zB hu with ⟨i,t,rfl,rfl⟩ | ⟨x,t,rfl,rfl⟩
  ·rcases zB hv with ⟨j,u,rfl,rfl⟩ | ⟨y,u,rfl,rfl⟩
   ·rw [qk7] at h;exact wpAny_eqBool_int h
   ·rw [qk6] at h;exact SeqAt.EqAt.int_str i t y u _ _ _ _ h
  ·rcases zB hv with ⟨j,u,rfl,rfl⟩ | ⟨y,u,rfl,rfl⟩
   ·rw [qk5] at h;exact SeqAt.EqAt.str_int x t j u _ _ _ _ h
   ·rw [qk4] at h;exact wpAny_eqBool_str h
 «strs» :=fun k x t v h=>by
  rcases zB h with ⟨i,u,rfl,e⟩ | ⟨y,u,rfl,e⟩
  ·exact nomatch e
  ·injection e with e1 _
   subst e1;cases v <;> rfl
theorem QM (prog:Program) (w:World) (i:Int) (t:Tok):(zo prog w).is (.inl i) (.int i t)=true:=qek i t
theorem WQ (prog:Program) (w:World) (x:Str) (t:Tok):(zo prog w).is (.inr x) (.str x t)=true:=Vt x t
inductive V where
 | non | bl (b:Bool) | int (i:Int) | str (x:Str) | byt (b:Array UInt8) | flt (b:UInt64) | ref (a:Addr) | ty (n:String)
 deriving DecidableEq
def qN:V→Value→Prop
 | .non,u=>u=Value.none
 | .bl b,u=>u=Value.bool b
 | .int i,u=>∃ t,u=Value.int i t
 | .str x,u=>∃ t,u=Value.str x t
 | .byt b,u=>∃ t,u=Value.bytes b t
 | .flt b,u=>∃ t,u=Value.float b t
 | .ref a,u=>u=Value.ref a
 | .ty n,u=>u=Value.type n
abbrev qM:List V→List Value→Prop:=Paired qN
theorem qM.length {xs:List V} {us:List Value} (r:qM xs us):xs.length=us.length:=Cm r
theorem qM.get:∀ {xs:List V} {us:List Value} {i:Nat} {x:V},qM xs us→xs[i]?=some x→∃ u,us[i]?=some u∧qN x u
 | _,_,_,_,.nil,e=>by simp at e
 | _,_,0,_,.cons r _,e=>by simp at e;subst e;exact ⟨_,rfl,r⟩
 | _,_,i+1,x,.cons _ t,e=>by
  obtain ⟨u,h1,h2⟩:=qM.get (i:=i) (x:=x) t (by simpa using e)
  exact ⟨u,by simpa using h1,h2⟩
theorem qM.set {x:V} {u:Value} (r:qN x u):∀ {xs:List V} {us:List Value} (i:Nat),qM xs us→qM (xs.set i x) (us.set i u)
 | _,_,_,.nil=> .nil
 | _,_,0,.cons _ t=> .cons r t
 | _,_,i+1,.cons q t=> .cons q (qM.set r i t)
theorem qM.append:∀ {xs ys:List V} {us ws:List Value},qM xs us→qM ys ws→qM (xs++ys) (us++ws)
 | _,_,_,_,.nil,s=>s
 | _,_,_,_,.cons r t,s=> .cons r (qM.append t s)
theorem qM.take:∀ {xs:List V} {us:List Value} (n:Nat),qM xs us→qM (xs.take n) (us.take n)
 | _,_,0,_=> .nil
 | _,_,_+1,.nil=> .nil
 | _,_,n+1,.cons r t=> .cons r (qM.take n t)
theorem qM.drop:∀ {xs:List V} {us:List Value} (n:Nat),qM xs us→qM (xs.drop n) (us.drop n)
 | _,_,0,r=>r
 | _,_,_+1,.nil=> .nil
 | _,_,n+1,.cons _ t=>qM.drop n t
theorem qM.none_of:∀ {xs:List V} {us:List Value} {i:Nat},qM xs us→xs[i]?=none→us[i]?=none:=fun {xs us i} r e=>by
 have h1:=r.length;have h2:xs.length≤i:=List.getElem?_eq_none_iff.mp e;exact List.getElem?_eq_none_iff.mpr ⋯
def VC:Option V→Option Value→Prop
 | some v,some u=>qN v u
 | none,none=>True
 | _,_=>False
def KV {κ:Type}:List (κ×V)→List (κ×Value)→Prop:=Paired fun (p:κ×V) (q:κ×Value)=>p.1=q.1∧qN p.2 q.2
def kV:Key→V
 | .inl i=> .int i
 | .inr x=> .str x
inductive HO where
 | lst (xs:List V)
 | tup (xs:List V)
 | dK (kvs:List (Key×V)) | dT (kvs:List (List Key×V))
 | set (S:Int→Bool) (n:Nat)
 | ins (C dx:Addr) (fs:List (Str×V))
 | own (x:Addr)
 | xd (fs:List (Str×V))
 | met (f x:Addr)
 | rng (lo hi:Int)
 | frz (o:Obj) (u:HO)
 | tbl (ps:Array Value)
 | ext (φ:Heap→Prop)
abbrev Hp:=Addr→Option HO
def upd (H:Hp) (a:Addr) (o:HO):Hp:=fun b=>if b=a then some o else H b
theorem upd_same {H:Hp} {a:Addr} {o:HO}:upd H a o a=some o:=by unfold upd;rw [if_pos rfl]
theorem qk {H:Hp} {a b:Addr} {o:HO} (h:b≠a):upd H a o b=H b:=by unfold upd;rw [if_neg h]
theorem qgn {H:Hp} {a b:Addr} {o u:HO} (h:H a=some o) (h':H b=some u) (d:o≠u):a≠b:=by
 intro e;subst e;rw [h] at h';exact d (Bg h')
theorem qD {H:Hp} {a b:Addr} {o:HO} (h:H a=some o) (h':H b=none):a≠b:=by
 intro e;subst e;rw [h] at h';cases h'
section
variable (P:Program) (w:World)
def zL (H:Hp) (h:Heap) (a:Addr):HO→Prop
 | .lst xs=>xs.length≤sizeLine∧∃ (its:List Value) (n:Nat),qM xs its∧h.get? a=some {cls:= .type "list",data:= .seq its.toArray n}
 | .tup xs=>xs.length≤sizeLine∧∃ its:List Value,qM xs its∧IsTup h a its.toArray
 | .dK kvs=>kvs.length≤sizeLine∧(a==sysModules)=false∧∃ vs,KV kvs vs∧h.DictOf (zo P w) a vs
 | .dT kvs=>kvs.length≤sizeLine∧(a==sysModules)=false∧∃ xs:List (List Key×Addr×Value),
   Paired (fun (p:List Key×V) (q:List Key×Addr×Value)=>p.1=q.1∧H q.2.1=some (.tup (p.1.map kV))∧qN p.2 q.2.2) kvs xs∧
   ∃ o es ep,h.get? a=some o∧o.ExactDict∧o.data= .dict es ep∧es.toList=xs.map (entryOfKey (tupleKind (zo P w)))∧(xs.map (·.1)).Nodup
 | .set S n=>h.SetOf (intKind P w) a S n
 | .ins C dx fs=>H dx=some (.own a)∧fs.length≤1000∧dx≠a∧h.get? a=some (PySem.W.instObj C dx)∧
   ∃ mA,h.Ns1 dx mA∧(∀ f,VC (fs.lookup f) (mA f))∧PySem.Within mA (fs.map (·.1))
 | .own _=>∃ o,h.get? a=some o
 | .xd fs=>∃ mA,h.Ns1 a mA∧∀ f,VC (fs.lookup f) (mA f)
 | .rng lo hi=>∃ t u v,h.get? a=some {cls:= .type "range",data:= .fields #[.int lo t,.int hi u,.int 1 v]}
 | .frz o u=>h.get? a=some o∧zL H h a u
 | .tbl ps=>h.get? a=some {cls:= .none,data:= .fields ps}
 | .met f x=>h.get? a=some (PySem.W.methodObj (.ref f) (.ref x))
 | .ext φ=>φ h∧(∃ o,h.get? a=some o)∧∀ h1 h2:Heap,φ h1→(∀ o,h1.get? a=some o→h2.get? a=some o)→φ h2
def HOk (H:Hp) (h:Heap):Prop:=∀ a o,H a=some o→zL P w H h a o
end
section
variable {P:Program} {w:World} {H H':Hp} {h h':Heap} {a:Addr} {o:HO}
theorem zL.lt (x:zL P w H h a o):a<h.objs.size:=by
 cases o with
 | lst xs=>obtain ⟨_,_,_,_,e⟩:=x;exact Au e
 | tup xs=>obtain ⟨_,_,_,p⟩:=x;exact p.lt
 | dK kvs=>obtain ⟨_,_,_,_,o,_,_,e,_⟩:=x;exact Au e
 | dT kvs=>obtain ⟨_,_,_,_,o,_,_,e,_⟩:=x;exact Au e
 | set S n=>obtain ⟨o,_,_,_,e,_⟩:=x;exact Au e
 | ins C dx fs=>obtain ⟨_,_,_,e,_⟩:=x;exact Au e
 | own y=>obtain ⟨_,e⟩:=x;exact Au e
 | xd fs=>obtain ⟨_,⟨_,_,_,e,_⟩,_⟩:=x;exact Au e
 | rng lo hi=>obtain ⟨_,_,_,e⟩:=x;exact Au e
 | frz ob u=>obtain ⟨e,_⟩:=x;exact Au e
 | tbl ps=>exact Au (show h.get? a=some _ from x)
 | met f y=>exact Au (show h.get? a=some _ from x)
 | ext φ=>obtain ⟨_,⟨_,e⟩,_⟩:=x;exact Au e
theorem Paired.mapP {α β:Type} {F G:α→β→Prop}:∀ {l₁:List α} {l₂:List β},Paired F l₁ l₂→(∀ a b,F a b→G a b)→Paired G l₁ l₂
 | _,_,.nil,_=> .nil
 | _,_,.cons r t,f=> .cons (f _ _ r) (Paired.mapP t f)
theorem zL.stay (x:zL P w H h a o) (k:∀ b u,(b=a∨H b=some (.own a))→h.get? b=some u→h'.get? b=some u)
  (ho:∀ b,H b=some (.own a)→H' b=some (.own a)) (ht:∀ b xs,H b=some (.tup xs)→H' b=some (.tup xs)):zL P w H' h' a o:=by
 induction o with
 | lst xs=>obtain ⟨z,its,n,r,e⟩:=x;exact ⟨z,its,n,r,k _ _ (.inl rfl) e⟩
 | tup xs=>obtain ⟨z,its,r,ob,e,c⟩:=x;exact ⟨z,its,r,ob,k _ _ (.inl rfl) e,c⟩
 | dK kvs=>obtain ⟨z,y,vs,r,ob,es,ep,e,c⟩:=x;exact ⟨z,y,vs,r,ob,es,ep,k _ _ (.inl rfl) e,c⟩
 | dT kvs=>
  obtain ⟨z,y,xs,r,ob,es,ep,e,c⟩:=x;exact ⟨z,y,xs,Paired.mapP r fun p q z=>⟨z.1,ht _ _ z.2.1,z.2.2⟩,ob,es,ep,k _ _ (.inl rfl) e,c⟩
 | set S n=>obtain ⟨ob,es,ep,t,e,c⟩:=x;exact ⟨ob,es,ep,t,k _ _ (.inl rfl) e,c⟩
 | ins C dx fs=>
  obtain ⟨d,z,ne,e,mA,⟨od,es,ep,e2,c⟩,r⟩:=x;exact ⟨ho _ d,z,ne,k _ _ (.inl rfl) e,mA,⟨od,es,ep,k _ _ (.inr d) e2,c⟩,r⟩
 | own y=>obtain ⟨ob,e⟩:=x;exact ⟨ob,k _ _ (.inl rfl) e⟩
 | xd fs=>obtain ⟨mA,⟨od,es,ep,e,c⟩,r⟩:=x;exact ⟨mA,⟨od,es,ep,k _ _ (.inl rfl) e,c⟩,r⟩
 | rng lo hi=>obtain ⟨t,u,v,e⟩:=x;exact ⟨t,u,v,k _ _ (.inl rfl) e⟩
 | frz ob u ih=>obtain ⟨e,q⟩:=x;exact ⟨k _ _ (.inl rfl) e,ih q⟩
 | tbl ps=>
  have e:h.get? a=some {cls:= .none,data:= .fields ps}:=x;show h'.get? a=some {cls:= .none,data:= .fields ps};exact k a _ (.inl rfl) e
 | met f y=>
  have e:h.get? a=some (PySem.W.methodObj (.ref f) (.ref y)):=x;show h'.get? a=some (PySem.W.methodObj (.ref f) (.ref y));exact k a _ (.inl rfl) e
 | ext φ=>obtain ⟨p,⟨o,e⟩,st⟩:=x;exact ⟨st _ _ p fun o q=>k _ _ (.inl rfl) q,⟨o,k _ _ (.inl rfl) e⟩,st⟩
theorem HOk.lt (x:HOk P w H h) (e:H a=some o):a<h.objs.size:=(x a o e).lt
theorem HOk.fresh (x:HOk P w H h) (e:h.objs.size≤a):H a=none:=by
 cases q:H a with
 | none=>rfl
 | some u=>exact absurd (Br (x.lt q) e) (Dz _)
theorem HOk.kept (x:HOk P w H h) (k:∀ b u,h.get? b=some u→h'.get? b=some u):HOk P w H h':=fun a o e=>
 (x a o e).stay (fun b u _ q=>k b u q) (fun _ q=>q) fun _ _ q=>q
theorem HOk.laid (x:HOk P w H h) (k:∀ b u,h.get? b=some u→h'.get? b=some u) (hp:h.objs.size≤a) (new:zL P w (upd H a o) h' a o):HOk P w (upd H a o) h':=fun b u e=>by
 have hn:=x.fresh hp
 by_cases hb:b=a
 ·subst hb;rw [upd_same] at e;cases e;exact new
 ·rw [qk hb] at e;exact (x b u e).stay (fun c v _ q=>k c v q) (fun c q=>by rw [qk (qD q hn)];exact q) fun c xs q=>by rw [qk (qD q hn)];exact q
end
def Rd (H:Hp) (a:Addr) (u:HO):Prop:=H a=some u∨∃ o,H a=some (.frz o u)
theorem Rd.ok {P:Program} {w:World} {H:Hp} {h:Heap} {a:Addr} {u:HO} (r:Rd H a u) (x:HOk P w H h):zL P w H h a u:=by
 rcases r with r | ⟨o,r⟩
 ·exact x a u r
 ·obtain ⟨_,q⟩:=x a _ r;exact q
def Mut:Option HO→Prop
 | some (.lst _)=>True
 | some (.dK _)=>True
 | some (.dT _)=>True
 | some (.set _ _)=>True
 | some (.ins _ _ _)=>True
 | some (.ext _)=>True
 | _=>False
section
variable {P:Program} {w:World} {H:Hp} {h h':Heap} {x e:Addr} {o':HO}
theorem HOk.write (ok:HOk P w H h) (mu:Mut (H x)) (he:e=x∨H e=some (.own x)) (k:∀ b u,b≠e→h.get? b=some u→h'.get? b=some u) (heo:∃ u,h'.get? e=some u)
  (new:zL P w (upd H x o') h' x o'):HOk P w (upd H x o') h':=fun b u q=>by
 have nown:∀ c y,H c=some (.own y)→c≠x:=fun c y r z=>by subst z;rw [r] at mu;exact mu
 have ntup:∀ c xs,H c=some (.tup xs)→c≠x:=fun c xs r z=>by subst z;rw [r] at mu;exact mu
 by_cases hb:b=x
 ·subst hb;rw [upd_same] at q;cases q;exact new
 ·rw [qk hb] at q
  by_cases hbe:b=e
  ·have q':H b=some (.own x):=by
    rcases he with z | z
    ·exact absurd (hbe.trans z) hb
    ·rw [hbe];exact z
   rw [q] at q';cases q';obtain ⟨v,hv⟩:=heo;exact ⟨v,by rw [hbe];exact hv⟩
  ·refine (ok b u q).stay (fun c v hc r=>k c v ?_ r) (fun c r=>by rw [qk (nown c b r)];exact r) fun c xs r=>by rw [qk (ntup c xs r)];exact r
   rcases hc with rfl | hc
   ·exact hbe
   ·rintro rfl;rcases he with z | z
    ·exact nown c b hc z
    ·rw [hc] at z;cases z;exact hb rfl
end
structure Un (fs ex:List Addr) (H H':Hp) (h h':Heap):Prop where
 keep:∀ b o,h.get? b=some o→H b=none→b∉fs→b∉ex→h'.get? b=some o
 slot:∀ b o,h.get? b=some o→H b=none→b∈fs→b∉ex→∃ sl,h'.get? b=some {o with slots:=sl}
 free:∀ b o,h.get? b=some o→H b=none→b∉ex→H' b=none
 there:∀ b o,h.get? b=some o→b∉ex→∃ o',h'.get? b=some o'
 tups:∀ b xs,H b=some (.tup xs)→H' b=some (.tup xs)
 frzs:∀ b o u,H b=some (.frz o u)→H' b=some (.frz o u)
 tbls:∀ b ps,H b=some (.tbl ps)→∃ more,H' b=some (.tbl (ps++more))
section
variable {fs fs' ex ex':List Addr} {H H1 H2:Hp} {h h1 h2 h':Heap} {a x e:Addr} {o:HO}
theorem Un.any (u:Un fs ex H H1 h h1) {b:Addr} {ob:Obj} (q:h.get? b=some ob) (n:H b=none) (hx:b∉ex):∃ sl,h1.get? b=some {ob with slots:=sl}:=by
 by_cases hb:b∈fs
 ·exact u.slot b ob q n hb hx
 ·exact ⟨ob.slots,u.keep b ob q n hb hx⟩
theorem Un.kept (k:∀ b u,h.get? b=some u→h'.get? b=some u):Un fs ex H H h h':=
 ⟨fun b ob q _ _ _=>k b ob q,fun b ob q _ _ _=>⟨ob.slots,k b ob q⟩,fun _ _ _ n _=>n,fun b ob q _=>⟨ob,k b ob q⟩,fun _ _ q=>q,fun _ _ _ q=>q,fun _ ps q=>⟨#[],by rw [q];simp⟩⟩
theorem Un.refl:Un fs ex H H h h:=Un.kept fun _ _ q=>q
theorem Un.laid (k:∀ b u,h.get? b=some u→h'.get? b=some u) (hp:h.objs.size≤a) (hn:H a=none):Un fs ex H (upd H a o) h h' where
 keep:=fun b u q _ _ _=>k b u q
 slot:=fun b u q _ _ _=>⟨u.slots,k b u q⟩
 free:=fun b u q n _=>by rw [qk (Bn (Br (Au q) hp))];exact n
 there:=fun b u q _=>⟨u,k b u q⟩
 tups:=fun b xs q=>by rw [qk (qD q hn)];exact q
 frzs:=fun b u xs q=>by rw [qk (qD q hn)];exact q
 tbls:=fun b ps q=>⟨#[],by rw [qk (qD q hn),q];simp⟩
theorem Un.write (mu:Mut (H x)) (he:e=x∨H e=some (.own x)) (k:∀ b u,b≠e→h.get? b=some u→h'.get? b=some u) (heo:∃ u,h'.get? e=some u):Un fs ex H (upd H x o) h h':=by
 have hx:∀ b,H b=none→b≠x:=fun b n z=>by subst z;rw [n] at mu;exact mu
 have hb:∀ b,H b=none→b≠e:=fun b n z=>by
  subst z;rcases he with r | r
  ·exact hx b n r
  ·rw [n] at r;cases r
 have hm:∀ b u,H b=some u→¬ Mut (some u)→b≠x:=fun b u q nm z=>by subst z;rw [q] at mu;exact nm mu
 refine ⟨fun b u q n _ _=>k b u (hb b n) q,fun b u q n _ _=>⟨u.slots,k b u (hb b n) q⟩,fun b u q n _=>by rw [qk (hx b n)];exact n,fun b u q _=>?_,
  fun b xs q=>by rw [qk (hm b _ q fun z=>z)];exact q,fun b u xs q=>by rw [qk (hm b _ q fun z=>z)];exact q,fun b ps q=>⟨#[],by rw [qk (hm b _ q fun z=>z),q];simp⟩⟩
 by_cases hbe:b=e
 ·subst hbe;exact heo
 ·exact ⟨u,k b u hbe q⟩
end
def trk (h:Heap) (H:Hp):List Addr:=(List.range h.objs.size).filter fun a=>(H a).isSome
def ZJ (h:Heap) (H:Hp):Heap:=PySem.W.hideAll h (trk h H)
theorem qem (h:Heap) (H:Hp):(ZJ h H).objs.size=h.objs.size:=PySem.W.hideAll_size _ _
theorem qg3 {h:Heap} {H:Hp} {b:Addr} {o:Obj} (e:h.get? b=some o) (n:H b=none):(ZJ h H).get? b=some o:=
 PySem.W.hideAll_get _ e fun hm=>by
  have q:(H b).isSome=true:=(Dx.mp hm).2;rw [n] at q;simp at q
theorem qim {h:Heap} {H:Hp} {b:Addr} {o:Obj} (e:(ZJ h H).get? b=some o):h.get? b=some o∧H b=none:=by
 have e':h.get? b=some o:=PySem.W.of_hideAll (trk h H) e;refine ⟨e',?_⟩;cases q:H b with
 | none=>rfl
 | some x=>
  have hm:b∈trk h H:=Dx.mpr ⟨Dc.mpr (Au e'),by simp [q]⟩
  have z:(ZJ h H).get? b=none:=PySem.W.hideAll_none (trk h H) hm;rw [z] at e;cases e
structure Mod (K:Frag) (mg:Str→Option Value) (base:Heap):Prop where
 kin:K.In base
 glob:base.Ns mainGlobals mg
 blt:∃ mb,base.Ns builtinsNs mb∧∀ x:Str,x≠"__name__"→mb x=bootBuiltins x
 nolimit:base.NoLimit
structure Cx where
 prog:Program
 w:World
 K:Frag
 mg:Str→Option Value
 base:Heap
 A:Around
 N:List Str
 s₀:Shared
 H₀:Hp
 env:Env
 outer:List Env
 stack:List Env
 ex:List Addr
 fn:Str→Bool
 calm:Bool
 pn:List (Addr×Obj)
 xe:Value→Shared→Prop
def frs (l:List Env):List Addr:=l.filterMap (·.frame)
abbrev Cx.fs (X:Cx):List Addr:=frs X.outer
def Vis (sc:Scope) (x:Str):Prop:=sc.names.lookup x=some .local∨sc.names.lookup x=some .cell∨sc.names.lookup x=some .free
def Loc (sc:Scope) (x:Str):Prop:=sc.names.lookup x=some .local∨sc.names.lookup x=some .cell
def Look (env:Env) (h:Heap) (m:Str→Option Value) (x:Str) (u:Value):Prop:=
 (env.kindOf x=some .local∧m x=some u)∨((env.kindOf x=some .cell∨env.kindOf x=some .free)∧∃ c,env.cells.lookup x=some c∧h.IsCell c (some u))
structure Cx.Ok (X:Cx):Prop where
 mod:Mod X.K X.mg X.base
 kind:X.env.scope.kind= .function
 glob:X.env.globals=mainGlobals
 blt:X.env.builtins=builtinsNs
 above:X.s₀.heap.objs.size≤X.env.locals
 inj:∀ x y c,X.env.cells.lookup x=some c→X.env.cells.lookup y=some c→x=y
 has:∀ x,(X.env.kindOf x=some .cell∨X.env.kindOf x=some .free)→∃ c,X.env.cells.lookup x=some c
 cab:∀ x c,X.fn x=true→X.env.cells.lookup x=some c→X.s₀.heap.objs.size≤c
 hd:X.calm=true→X.A.handled=none
 frames:X.A.frames=some X.stack
 stk:X.stack=X.outer∨(X.stack=X.env::X.outer∧X.env.frame=some X.env.locals)
 exf:∀ b∈X.ex,b≠X.env.locals∧∀ x c,X.env.cells.lookup x=some c→c≠b
 bs:∀ b o,X.base.get? b=some o→X.s₀.heap.get? b=some o∧X.H₀ b=none
 bsz:X.base.objs.size≤X.s₀.heap.objs.size
 noex:∀ b o,X.base.get? b=some o→b∉X.ex
 exfs:∀ b∈X.ex,b∉X.fs
 funs:X.s₀.heap.FunFrames X.base X.outer
 frf:∀ b∈X.fs,X.H₀ b=none
structure Inv (X:Cx) (pins:List (Addr×Obj)) (σ:List (Option V)) (H:Hp) (s:Shared):Prop where
 ok:X.Ok
 os:s.os=X.s₀.os
 bare:AllBare s.gens
 base:Un X.fs X.ex X.H₀ H X.s₀.heap s.heap
 loc:∃ m,s.heap.Ns X.env.locals m∧∀ (i:Nat) (x:Str) (v:V),X.N[i]?=some x→σ[i]?=some (some v)→Vis X.env.scope x→∃ u,qN v u∧Look X.env s.heap m x u
 cell:∀ x c,X.env.cells.lookup x=some c→∃ v,s.heap.IsCell c v
 free:H X.env.locals=none
 freeC:∀ x c,X.env.cells.lookup x=some c→H c=none
 pin:∀ p∈X.pn++pins,s.heap.get? p.1=some p.2∧H p.1=none∧p.1≠X.env.locals∧p.1∉X.fs∧∀ v,p.2.data≠ .cell v
 hok:HOk X.prog X.w H s.heap
 len:σ.length=X.N.length
section
variable {X:Cx} {pins:List (Addr×Obj)} {σ:List (Option V)} {H H':Hp} {s:Shared} {h':Heap}
theorem Cx.Ok.nofr (ok:X.Ok) {b:Addr} {o:Obj} (e:X.base.get? b=some o):b∉X.fs:=fun hb=>by
 have:=(ok.funs.mem hb).1;rw [e] at this;cases this
theorem Inv.bs (I:Inv X pins σ H s):∀ b o,X.base.get? b=some o→s.heap.get? b=some o∧H b=none:=fun b o e=>
 ⟨I.base.keep b o (I.ok.bs b o e).1 (I.ok.bs b o e).2 (I.ok.nofr e) (I.ok.noex b o e),I.base.free b o (I.ok.bs b o e).1 (I.ok.bs b o e).2 (I.ok.noex b o e)⟩
theorem Inv.bk (I:Inv X pins σ H s):∀ b o,X.base.get? b=some o→s.heap.get? b=some o:=fun b o e=>(I.bs b o e).1
theorem Inv.mod (I:Inv X pins σ H s):Mod X.K X.mg X.base:=I.ok.mod
theorem Inv.kIn (I:Inv X pins σ H s):X.K.In s.heap:=I.ok.mod.kin.keeps I.bk
theorem Inv.lt (I:Inv X pins σ H s):X.env.locals<s.heap.objs.size:=let ⟨_,hn,_⟩:=I.loc;hn.lt
theorem Inv.sz (I:Inv X pins σ H s):X.s₀.heap.objs.size≤s.heap.objs.size:=A0 I.ok.above (Nat.le_of_lt I.lt)
theorem Inv.nofs (I:Inv X pins σ H s) {a:Addr} (h:s.heap.objs.size≤a):a∉X.fs:=fun hb=>by
 obtain ⟨_,o,ho,_⟩:=I.ok.funs.mem hb;exact absurd (Br (Au ho) (A0 I.sz h)) (Dz _)
theorem Inv.cne (I:Inv X pins σ H s):∀ x c,X.env.cells.lookup x=some c→c≠X.env.locals:=fun x c e z=>by
 obtain ⟨v,o,ho,hd⟩:=I.cell x c e;obtain ⟨m,⟨o',es,ep,ho',hd',_⟩,_⟩:=I.loc;rw [z,ho'] at ho;cases ho;rw [hd'] at hd;cases hd
theorem Inv.funs (I:Inv X pins σ H s):s.heap.FunFrames X.base X.outer:=by
 have all:∀ (l:List Env),(∀ b∈frs l,b∈X.fs)→X.s₀.heap.FunFrames X.base l→s.heap.FunFrames X.base l:=by
  intro l
  induction l with
  | nil=>intro _ _;trivial
  | cons env r ih=>
   intro hs hl;obtain ⟨hk,⟨L,o,hf,hn,ho,hd⟩,hr⟩:=hl;have hL:L∈X.fs:=hs L (by unfold frs;rw [List.filterMap_cons,hf];exact A5)
   obtain ⟨sl,e⟩:=I.base.slot L o ho (I.ok.frf L hL) hL fun z=>I.ok.exfs L z hL;exact ⟨hk,⟨L,_,hf,hn,e,hd⟩,ih (fun b hb=>hs b (by unfold frs;rw [List.filterMap_cons,hf];exact A9 _ hb)) hr⟩
 exact all X.outer (fun _ hb=>hb) I.ok.funs
theorem Inv.stack (I:Inv X pins σ H s):s.heap.FunFrames X.base X.stack:=by
 rcases I.ok.stk with e | ⟨e,hf⟩
 ·rw [e];exact I.funs
 ·rw [e];obtain ⟨m,hn,_⟩:=I.loc;refine .cons (by rw [I.ok.kind];decide) hf hn ?_ I.funs
  exact Ek (A0 I.ok.bsz I.ok.above)
theorem Inv.stkSub (I:Inv X pins σ H s):∀ b∈frs X.stack,b∈X.env.locals::X.fs:=fun b hb=>by
 rcases I.ok.stk with e | ⟨e,hf⟩
 ·rw [e] at hb;exact A9 _ hb
 ·rw [e] at hb;unfold frs at hb;rw [List.filterMap_cons,hf] at hb;exact hb
theorem Inv.stkFree (I:Inv X pins σ H s):∀ b∈frs X.stack,H b=none:=fun b hb=>by
 rcases Ao.mp (I.stkSub b hb) with e | hb
 ·rw [e];exact I.free
 ·obtain ⟨_,o,ho,_⟩:=I.ok.funs.mem hb;exact I.base.free b o ho (I.ok.frf b hb) fun z=>I.ok.exfs b z hb
theorem Inv.step {g':Array GenState} {t':Nat} {d':Drawn} {ch:List Addr} (I:Inv X pins σ H s)
  (hch:∀ b∈ch,(b∈X.ex∨X.s₀.heap.objs.size≤b)∧b≠X.env.locals∧(∀ x c,X.env.cells.lookup x=some c→c≠b)∧∀ p∈X.pn++pins,p.1≠b)
  (keep:∀ b o,b≠X.env.locals→b∉X.fs→b∉ch→s.heap.get? b=some o→H b=none→h'.get? b=some o)
  (slot:∀ b o,b≠X.env.locals→b∈X.fs→b∉ch→s.heap.get? b=some o→H b=none→∃ sl,h'.get? b=some {o with slots:=sl}) (free:∀ b o,b∉ch→s.heap.get? b=some o→H b=none→H' b=none)
  (there:∀ b o,b∉ch→s.heap.get? b=some o→∃ o',h'.get? b=some o')
  (tups:∀ b xs,H b=some (.tup xs)→H' b=some (.tup xs)) (frzs:∀ b o u,H b=some (.frz o u)→H' b=some (.frz o u)) (tbls:∀ b ps,H b=some (.tbl ps)→∃ more,H' b=some (.tbl (ps++more)))
  (ns:∀ m,s.heap.Ns X.env.locals m→h'.Ns X.env.locals m) (hok:HOk X.prog X.w H' h') (hg:AllBare g'):
  Inv X pins σ H' {s with heap:=h',gens:=g',drawn:=d',toks:=t'}:=by
 have neL:∀ b o,X.s₀.heap.get? b=some o→b≠X.env.locals:=fun b o e=>Bn (Br (Au e) I.ok.above);have neC:∀ b o,X.s₀.heap.get? b=some o→b∉X.ex→b∉ch:=fun b o e hx hb=>by
  rcases (hch b hb).1 with z | z
  ·exact hx z
  ·exact absurd (Br (Au e) z) (Dz _)
 have cellK:∀ x c,X.env.cells.lookup x=some c→∀ v,s.heap.IsCell c v→h'.IsCell c v:=fun x c e v ⟨o,ho,hd⟩=>by
  have nch:c∉ch:=fun z=>(hch c z).2.2.1 x c e rfl
  by_cases hc:c∈X.fs
  ·obtain ⟨sl,q⟩:=slot c o (I.cne x c e) hc nch ho (I.freeC x c e);exact ⟨_,q,hd⟩
  ·exact ⟨o,keep c o (I.cne x c e) hc nch ho (I.freeC x c e),hd⟩
 refine ⟨I.ok,I.os,hg,⟨fun b o e n hb hx=>?_,fun b o e n hb hx=>?_,fun b o e n hx=>?_,fun b o e hx=>?_,fun b xs e=>tups b xs (I.base.tups b xs e),fun b o xs e=>frzs b o xs (I.base.frzs b o xs e),fun b ps e=>?_⟩,?_,fun x c e=>?_,?_,fun x c e=>?_,fun p hp=>?_,hok,I.len⟩
 ·exact keep b o (neL b o e) hb (neC b o e hx) (I.base.keep b o e n hb hx) (I.base.free b o e n hx)
 ·obtain ⟨sl,e1⟩:=I.base.slot b o e n hb hx;obtain ⟨sl',e2⟩:=slot b _ (neL b o e) hb (neC b o e hx) e1 (I.base.free b o e n hx);exact ⟨sl',e2⟩
 ·obtain ⟨o',e1⟩:=I.base.there b o e hx;exact free b o' (neC b o e hx) e1 (I.base.free b o e n hx)
 ·obtain ⟨o',e1⟩:=I.base.there b o e hx;exact there b o' (neC b o e hx) e1
 ·obtain ⟨m1,e1⟩:=I.base.tbls b ps e;obtain ⟨m2,e2⟩:=tbls b _ e1;exact ⟨m1++m2,by rw [e2,Array.append_assoc]⟩
 ·obtain ⟨m,hn,hl⟩:=I.loc;refine ⟨m,ns m hn,fun i x v e1 e2 e3=>?_⟩;obtain ⟨u,r,l⟩:=hl i x v e1 e2 e3;refine ⟨u,r,?_⟩;rcases l with l | ⟨k,c,e,z⟩
  ·exact .inl l
  ·exact .inr ⟨k,c,e,cellK x c e _ z⟩
 ·obtain ⟨v,z⟩:=I.cell x c e;exact ⟨v,cellK x c e v z⟩
 ·obtain ⟨m,⟨o,_,_,ho,_⟩,_⟩:=I.loc;exact free _ o (fun z=>(hch _ z).2.1 rfl) ho I.free
 ·obtain ⟨v,o,ho,hd⟩:=I.cell x c e;exact free c o (fun z=>(hch c z).2.2.1 x c e rfl) ho (I.freeC x c e)
 ·obtain ⟨e,n,ne,nf,d⟩:=I.pin p hp;have nch:p.1∉ch:=fun z=>(hch p.1 z).2.2.2 p hp rfl;exact ⟨keep p.1 p.2 ne nf nch e n,free p.1 p.2 nch e n,ne,nf,d⟩
theorem Inv.un {t':Nat} (I:Inv X pins σ H s) (u:Un X.fs [] H H' s.heap h') (hok:HOk X.prog X.w H' h'):Inv X pins σ H' {s with heap:=h',toks:=t'}:=by
 obtain ⟨m,⟨o,es,ep,ho,r⟩,_⟩:=id I.loc;obtain ⟨sl,hL⟩:=u.any ho I.free (by simp)
 exact I.step (g':=s.gens) (d':=s.drawn) (ch:=[]) (fun _ z=>nomatch z) (fun b o _ hb _ e n=>u.keep b o e n hb (by simp)) (fun b o _ hb _ e n=>u.slot b o e n hb (by simp)) (fun b o _ e n=>u.free b o e n (by simp)) (fun b o _ e=>u.there b o e (by simp)) u.tups u.frzs u.tbls (fun m' hm=>by
  obtain ⟨o',es',ep',ho',r'⟩:=hm;rw [ho] at ho';cases ho';exact ⟨_,es',ep',hL,r'⟩) hok I.bare
theorem Inv.call {g':Array GenState} {t':Nat} {d':Drawn} {ch:List Addr} (I:Inv X pins σ H s) (u:Un (frs X.stack) ch H H' s.heap h') (hok:HOk X.prog X.w H' h') (hg:AllBare g')
  (hch:∀ b∈ch,(b∈X.ex∨X.s₀.heap.objs.size≤b)∧b≠X.env.locals∧(∀ x c,X.env.cells.lookup x=some c→c≠b)∧∀ p∈X.pn++pins,p.1≠b):
  Inv X pins σ H' {s with heap:=h',gens:=g',drawn:=d',toks:=t'}:=by
 obtain ⟨m,⟨o,es,ep,ho,r⟩,_⟩:=id I.loc;obtain ⟨sl,hL⟩:=u.any ho I.free fun z=>(hch _ z).2.1 rfl;exact I.step (ch:=ch) hch (fun b o hL hb hc e n=>u.keep b o e n (fun z=>(Ao.mp (I.stkSub b z)).elim hL hb) hc) (fun b o _ _ hc e n=>u.any e n hc) (fun b o hc e n=>u.free b o e n hc) (fun b o hc e=>u.there b o e hc) u.tups u.frzs u.tbls (fun m' hm=>by
  obtain ⟨o',es',ep',ho',r'⟩:=hm;rw [ho] at ho';cases ho';exact ⟨_,es',ep',hL,r'⟩) hok hg
theorem Inv.turned {t':Nat} {it:Addr} (I:Inv X pins σ H s) (k:∀ b o,b≠it→s.heap.get? b=some o→h'.get? b=some o) (hn:H it=none) (hL:it≠X.env.locals)
  (h1:it∈X.ex∨X.s₀.heap.objs.size≤it) (h2:∀ x c,X.env.cells.lookup x=some c→c≠it) (h3:∀ p∈X.pn++pins,p.1≠it):Inv X pins σ H {s with heap:=h',toks:=t'}:=by
 have nit:∀ b u,H b=some u→b≠it:=fun b u e z=>by rw [z,hn] at e;cases e
 refine I.step (g':=s.gens) (d':=s.drawn) (ch:=[it]) (fun b hb=>?_) (fun b o _ _ hc e _=>k b o (fun z=>hc (by simp [z])) e) (fun b o _ _ hc e _=>⟨o.slots,k b o (fun z=>hc (by simp [z])) e⟩) (fun _ _ _ _ n=>n)
  (fun b o hc e=>⟨o,k b o (fun z=>hc (by simp [z])) e⟩) (fun _ _ e=>e) (fun _ _ _ e=>e) (fun b ps e=>⟨#[],by rw [e];simp⟩) (fun m hm=>?_) (fun b u e=>?_) I.bare
 ·have e:b=it:=by simpa using hb
  subst e;exact ⟨h1,hL,h2,h3⟩
 ·obtain ⟨o,es,ep,ho,r⟩:=hm;exact ⟨o,es,ep,k _ o (Ne.symm hL) ho,r⟩
 ·refine (I.hok b u e).stay (fun c v hc q=>k c v ?_ q) (fun _ q=>q) fun _ _ q=>q;rcases hc with z | z
  ·rw [z];exact nit b u e
  ·exact nit c _ z
theorem Inv.tok (I:Inv X pins σ H s) (t:Nat):Inv X pins σ H {s with toks:=t}:=I.un (h':=s.heap) (t':=t) Un.refl I.hok
theorem Inv.kept {t':Nat} (I:Inv X pins σ H s) (k:∀ b u,s.heap.get? b=some u→h'.get? b=some u):Inv X pins σ H {s with heap:=h',toks:=t'}:=I.un (Un.kept k) (I.hok.kept k)
theorem Inv.laid {a:Addr} {o:HO} {t':Nat} (I:Inv X pins σ H s) (k:∀ b u,s.heap.get? b=some u→h'.get? b=some u) (hp:s.heap.objs.size≤a) (new:zL X.prog X.w (upd H a o) h' a o):
  Inv X pins σ (upd H a o) {s with heap:=h',toks:=t'}:=I.un (Un.laid k hp (I.hok.fresh hp)) (I.hok.laid k hp new)
theorem Inv.write {x e:Addr} {o:HO} {t':Nat} (I:Inv X pins σ H s) (mu:Mut (H x)) (he:e=x∨H e=some (.own x)) (k:∀ b u,b≠e→s.heap.get? b=some u→h'.get? b=some u) (heo:∃ u,h'.get? e=some u)
  (new:zL X.prog X.w (upd H x o) h' x o):Inv X pins σ (upd H x o) {s with heap:=h',toks:=t'}:=I.un (Un.write mu he k heo) (I.hok.write mu he k heo new)
theorem Inv.weak {σ':List (Option V)} (I:Inv X pins σ H s) (hl:σ'.length=σ.length) (w:∀ (i:Nat) v,σ'[i]?=some (some v)→σ[i]?=some (some v)):Inv X pins σ' H s:=
 ⟨I.ok,I.os,I.bare,I.base,let ⟨m,hn,hl'⟩:=I.loc;⟨m,hn,fun i x v e1 e2 e3=>hl' i x v e1 (w i v e2) e3⟩,I.cell,I.free,I.freeC,I.pin,I.hok,hl.trans I.len⟩
theorem Inv.pins_of {pins':List (Addr×Obj)} (I:Inv X pins σ H s) (h:∀ p∈pins',s.heap.get? p.1=some p.2∧H p.1=none∧p.1≠X.env.locals∧p.1∉X.fs∧∀ v,p.2.data≠ .cell v):Inv X pins' σ H s:=
 ⟨I.ok,I.os,I.bare,I.base,I.loc,I.cell,I.free,I.freeC,fun p hp=>(Az.mp hp).elim (fun z=>I.pin p (By _ z)) (h p),I.hok,I.len⟩
theorem QJ {N:List Str} (hN:N.Nodup) {i j:Nat} {x:Str} (a:N[i]?=some x) (b:N[j]?=some x):i=j:=by
 obtain ⟨h1,e1⟩:=Be.mp a;obtain ⟨h2,e2⟩:=Be.mp b;exact (List.getElem_inj hN).mp (e1.trans e2.symm)
theorem XF {M:Model} {A:Around} {E:Value→Shared→Prop} {i:Nat} {x:Str} {v:V} {u:Value} {Q:Unit→Shared→Prop} (I:Inv X pins σ H s) (hN:X.N.Nodup) (hi:X.N[i]?=some x) (hx:Loc X.env.scope x) (r:qN v u)
  (h:∀ s',Inv X pins (σ.set i (some v)) H s'→(∃ a,Heap.SameBut a s.heap s'.heap∧(a=X.env.locals∨X.env.cells.lookup x=some a))→Q () s') (hf:X.fn x=true∨X.env.scope.names.lookup x=some .local:=by first | exact .inl rfl | exact .inr rfl | assumption):wpAny M A (storeName X.env x u) Q E s:=by
 obtain ⟨m,hn,hl⟩:=id I.loc;have hcls:(X.env.scope.kind== .class||(X.env.scope.kind== .module&&X.env.locals !=X.env.globals))=false:=by rw [I.ok.kind];rfl
 have hiσ:i<σ.length:=by rw [I.len];exact (Be.mp hi).1
 have cne:=I.cne;have tracked:∀ {a:Addr} {h':Heap},(∃ o,s.heap.get? a=some o∧H a=none)→Heap.SameBut a s.heap h'→HOk X.prog X.w H h':=fun {a h'} ha hs b ob e=>by
  obtain ⟨_,_,hfree⟩:=ha;refine (I.hok b ob e).stay (fun c w' hc q=>(hs.2 c ?_).trans q) (fun _ q=>q) fun _ _ q=>q;rintro rfl;rcases hc with rfl | hc
  ·rw [hfree] at e;cases e
  ·rw [hfree] at hc;cases hc
 rcases hx with hk | hk
 ·refine wpAny_storeName_local hk hn (fun h' hn' hs=>?_) hcls;obtain ⟨oL,_,_,hoL,_⟩:=id hn;refine h _ ⟨I.ok,I.os,I.bare,⟨fun b o e n hb hx=>?_,fun b o e n hb hx=>?_,I.base.free,fun b o e hx=>?_,I.base.tups,I.base.frzs,I.base.tbls⟩,⟨_,hn',fun j y v' e1 e2 e3=>?_⟩,fun y c e=>?_,I.free,I.freeC,fun p hp=>?_,tracked ⟨oL,hoL,I.free⟩ hs,by simpa using I.len⟩ ⟨_,hs,.inl rfl⟩
  ·exact (hs.2 b (Bn (Br (Au e) I.ok.above))).trans (I.base.keep b o e n hb hx)
  ·obtain ⟨sl,e1⟩:=I.base.slot b o e n hb hx;exact ⟨sl,(hs.2 b (Bn (Br (Au e) I.ok.above))).trans e1⟩
  ·obtain ⟨o',e1⟩:=I.base.there b o e hx;exact ⟨o',(hs.2 b (Bn (Br (Au e) I.ok.above))).trans e1⟩
  ·by_cases hj:j=i
   ·subst hj;rw [hi] at e1;cases e1;rw [List.getElem?_set_self hiσ] at e2;cases e2;exact ⟨u,r,.inl ⟨hk,by simp⟩⟩
   ·rw [D4 (Ne.symm hj)] at e2;obtain ⟨u',r',q⟩:=hl j y v' e1 e2 e3;refine ⟨u',r',?_⟩;rcases q with ⟨k,e⟩ | ⟨k,c,e,z⟩
    ·refine .inl ⟨k,?_⟩;have:y≠x:=fun e=>hj (QJ hN e1 (e▸hi));simp [this,e]
    ·exact .inr ⟨k,c,e,z.sameBut hs (cne y c e)⟩
  ·obtain ⟨w',z⟩:=I.cell y c e;exact ⟨w',z.sameBut hs (cne y c e)⟩
  ·obtain ⟨e,n,ne,nf,d⟩:=I.pin p hp;exact ⟨(hs.2 p.1 ne).trans e,n,ne,nf,d⟩
 ·have hfn:X.fn x=true:=by
   rcases hf with z | z
   ·exact z
   ·rw [z] at hk;cases hk
  obtain ⟨c,hc⟩:=I.ok.has x (.inl hk);obtain ⟨w',z⟩:=I.cell x c hc;refine wpAny_storeName_cell I.ok.kind hk hc z (fun h' hc' hs=>?_);obtain ⟨oc,hoc,hocd⟩:=id z;refine h {s with heap:=h'} ⟨I.ok,I.os,I.bare,⟨fun b o e n hb hx=>?_,fun b o e n hb hx=>?_,I.base.free,fun b o e hx=>?_,I.base.tups,I.base.frzs,I.base.tbls⟩,⟨m,hn.sameBut hs (Ne.symm (cne x c hc)),fun j y v' e1 e2 e3=>?_⟩,fun y c' e=>?_,I.free,I.freeC,fun p hp=>?_,tracked ⟨oc,hoc,I.freeC x c hc⟩ hs,by simpa using I.len⟩ ⟨c,hs,.inr hc⟩
  ·exact (hs.2 b (Bn (Br (Au e) (I.ok.cab x c hfn hc)))).trans (I.base.keep b o e n hb hx)
  ·obtain ⟨sl,e1⟩:=I.base.slot b o e n hb hx;exact ⟨sl,(hs.2 b (Bn (Br (Au e) (I.ok.cab x c hfn hc)))).trans e1⟩
  ·obtain ⟨o',e1⟩:=I.base.there b o e hx;exact ⟨o',(hs.2 b (Bn (Br (Au e) (I.ok.cab x c hfn hc)))).trans e1⟩
  ·by_cases hj:j=i
   ·subst hj;rw [hi] at e1;cases e1;rw [List.getElem?_set_self hiσ] at e2;cases e2;exact ⟨u,r,.inr ⟨.inl hk,c,hc,hc'⟩⟩
   ·rw [D4 (Ne.symm hj)] at e2;obtain ⟨u',r',q⟩:=hl j y v' e1 e2 e3;refine ⟨u',r',?_⟩;rcases q with q | ⟨k,c',e,z'⟩
    ·exact .inl q
    ·refine .inr ⟨k,c',e,z'.sameBut hs ?_⟩;rintro rfl;exact hj (QJ hN e1 (I.ok.inj _ _ _ e hc▸hi))
  ·by_cases hcc:c'=c
   ·subst hcc;exact ⟨_,hc'⟩
   ·obtain ⟨w2,z2⟩:=I.cell y c' e;exact ⟨w2,z2.sameBut hs hcc⟩
  ·obtain ⟨e,n,ne,nf,d⟩:=I.pin p hp;refine ⟨(hs.2 p.1 ?_).trans e,n,ne,nf,d⟩;intro q;rw [q,hoc] at e;have q':oc=p.2:=Bg e;exact d w' (by rw [← q'];exact hocd)
theorem yP {M:Model} {A:Around} {E:Value→Shared→Prop} {i:Nat} {x:Str} {v:V} {u:Value} {Q:Unit→Shared→Prop} (I:Inv X pins σ H s) (hN:X.N.Nodup) (hi:X.N[i]?=some x) (hx:Loc X.env.scope x) (r:qN v u)
  (h:∀ s',Inv X pins (σ.set i (some v)) H s'→Q () s') (hf:X.fn x=true∨X.env.scope.names.lookup x=some .local:=by first | exact .inl rfl | exact .inr rfl | assumption):wpAny M A (storeName X.env x u) Q E s:=
 XF I hN hi hx r (fun s' I' _=>h s' I') hf
theorem Inv.call' {s':Shared} {ch:List Addr} (I:Inv X pins σ H s) (ho:s'.os=s.os) (u:Un (frs X.stack) ch H H' s.heap s'.heap) (hok:HOk X.prog X.w H' s'.heap) (hg:AllBare s'.gens)
  (hch:∀ b∈ch,(b∈X.ex∨X.s₀.heap.objs.size≤b)∧b≠X.env.locals∧(∀ x c,X.env.cells.lookup x=some c→c≠b)∧∀ p∈X.pn++pins,p.1≠b):Inv X pins σ H' s':=by
 obtain ⟨h',g',d',t',o'⟩:=s';have e:o'=s.os:=ho;subst e;exact I.call (g':=g') (t':=t') (d':=d') u hok hg hch
end
abbrev XK:=Value→Option Addr→Hp→Prop
abbrev St:=List (Option V)
abbrev VK:=V→Hp→Prop
abbrev TE:=St→Hp→VK→Prop
abbrev TT:=St→Hp→(Bool→Hp→Prop)→Prop
abbrev TA:=St→Hp→(List V→Hp→Prop)→Prop
structure Ends where
 nx:St→Hp→Prop
 rt:VK
 bk:St→Hp→Prop:=fun _ _=>False
 ct:St→Hp→Prop:=fun _ _=>False
abbrev TS:=Ends→St→Hp→Prop
def EP (X:Cx) (pins:List (Addr×Obj)) (σ:St) (Q:VK) (u:Value) (s':Shared):Prop:=∃ v H',Inv X pins σ H' s'∧qN v u∧Q v H'
def TP (X:Cx) (pins:List (Addr×Obj)) (σ:St) (Q:Bool→Hp→Prop) (b:Bool) (s':Shared):Prop:=∃ H',Inv X pins σ H' s'∧Q b H'
def AP (X:Cx) (pins:List (Addr×Obj)) (σ:St) (Q:List V→Hp→Prop) (us:List Value) (s':Shared):Prop:=∃ vs H',Inv X pins σ H' s'∧qM vs us∧Q vs H'
def SP (X:Cx) (pins:List (Addr×Obj)) (D:Ends) (f:Flow) (s':Shared):Prop:=
 match f with
 | .next=>∃ σ' H',Inv X pins σ' H' s'∧D.nx σ' H'
 | .brk=>∃ σ' H',Inv X pins σ' H' s'∧D.bk σ' H'
 | .cont=>∃ σ' H',Inv X pins σ' H' s'∧D.ct σ' H'
 | .ret u=>∃ v σ' H',Inv X pins σ' H' s'∧qN v u∧D.rt v H'
def PE (X:Cx) (e:Expr) (t:TE):Prop:=
 ∀ (pins:List (Addr×Obj)) (s:Shared) (σ:St) (H:Hp) (Q:VK),Inv X pins σ H s→t σ H Q→wpAny (model X.prog X.w) X.A (eval e X.env) (EP X pins σ Q) X.xe s
def PT (X:Cx) (e:Expr) (t:TT):Prop:=
 ∀ (pins:List (Addr×Obj)) (s:Shared) (σ:St) (H:Hp) (Q:Bool→Hp→Prop),Inv X pins σ H s→t σ H Q→wpAny (model X.prog X.w) X.A (isTrue e X.env (eval e X.env)) (TP X pins σ Q) X.xe s
def PW (X:Cx) (e:Expr) (t:TT):Prop:=
 ∀ (whole:Sem Value) (pins:List (Addr×Obj)) (s:Shared) (σ:St) (H:Hp) (Q:Bool→Hp→Prop),Inv X pins σ H s→t σ H Q→wpAny (model X.prog X.w) X.A (isTrue e X.env whole) (TP X pins σ Q) X.xe s
theorem PW.pt {X:Cx} {e:Expr} {t:TT} (h:PW X e t):PT X e t:=h _
def PA (X:Cx) (es:List Expr) (t:TA):Prop:=
 ∀ (pos:Pos) (pins:List (Addr×Obj)) (s:Shared) (σ:St) (H:Hp) (Q:List V→Hp→Prop),Inv X pins σ H s→t σ H Q→wpAny (model X.prog X.w) X.A (spliced (backTo pos (starEach es X.env))) (AP X pins σ Q) X.xe s
def PS (X:Cx) (st:Stmt) (t:TS):Prop:=
 ∀ (pins:List (Addr×Obj)) (s:Shared) (σ:St) (H:Hp) (D:Ends),Inv X pins σ H s→t D σ H→wpAny (model X.prog X.w) X.A (exec st X.env) (SP X pins D) X.xe s
def PSs (X:Cx) (st:List Stmt) (t:TS):Prop:=
 ∀ (pins:List (Addr×Obj)) (s:Shared) (σ:St) (H:Hp) (D:Ends),Inv X pins σ H s→t D σ H→wpAny (model X.prog X.w) X.A (execs st X.env) (SP X pins D) X.xe s
theorem thn {α:Type} {t:Sem α} {Q Q':α→Shared→Prop} {M:Model} {A:Around} {E:Value→Shared→Prop} {s:Shared} (h:wpAny M A t Q E s) (hQ:∀ a s,Q a s→Q' a s):wpAny M A t Q' E s:=Ed h hQ fun _ _ x=>x
section
variable {X:Cx}
def qg (i:Nat):TE:=fun σ H Q=>∃ v,σ[i]?=some (some v)∧Q v H
def tC (v:V):TE:=fun _ H Q=>Q v H
theorem qkl {i:Nat} {x:Str} {pos:Pos} (hN:X.N[i]?=some x) (hv:Vis X.env.scope x) (hd:(x==("__debug__":Str))=false:=by decide) (hcd:(x==("__classdict__":Str))=false:=by decide):PE X (.Name x pos) (qg i):=by
 intro pins s σ H Q I h;obtain ⟨v,e,h⟩:=h;obtain ⟨m,hn,hl⟩:=I.loc;obtain ⟨u,r,l⟩:=hl i x v hN e hv;have fin:EP X pins σ Q u s:=⟨v,H,I,r,h⟩;rcases l with ⟨hk,hm⟩ | ⟨hk,c,hc,hcell⟩
 ·exact wpAny_Name (wpAny_loadName_local I.ok.kind hk hn hm fin) hd
 ·rcases hk with hk | hk
  ·exact wpAny_Name (wpAny_loadName_cell I.ok.kind hk hc hcell fin) hd
  ·exact wpAny_Name (wpAny_loadName_free I.ok.kind hk hc hcell fin hcd) hd
theorem qh {i j pos}:PE X (.Constant (.int i) j pos) (tC (.int i)):=fun _ _ _ H _ I h=>wpAny_Constant_int ⟨.int i,H,I.tok _,⟨_,rfl⟩,h⟩
theorem jw {b j pos}:PE X (.Constant (.bool b) j pos) (tC (.bl b)):=fun _ _ _ H _ I h=>Constant_bool ⟨.bl b,H,I,rfl,h⟩
theorem JN {j pos}:PE X (.Constant .none j pos) (tC .non):=fun _ _ _ H _ I h=>Constant_none ⟨.non,H,I,rfl,h⟩
theorem qq {x j pos}:PE X (.Constant (.str x) j pos) (tC (.str x)):=fun _ _ _ H _ I h=>Calls.Constant_str ⟨.str x,H,I.tok _,⟨_,rfl⟩,h⟩
def Gl (X:Cx) (x:Str):Prop:=X.env.kindOf x=some .globalImplicit
theorem wo {E:Value→Shared→Prop} {pins:List (Addr×Obj)} {s:Shared} {σ:St} {H:Hp} {x:Str} {u:Value} {pos:Pos} {Q:Value→Shared→Prop} (I:Inv X pins σ H s) (hg:Gl X x) (hm:X.mg x=some u) (h:Q u s)
  (hd:(x==("__debug__":Str))=false:=by decide):wpAny (model X.prog X.w) X.A (eval (.Name x pos) X.env) Q E s:=
 Calls.Name_function_global I.ok.kind hg (Calls.loadGlobal_global (by rw [I.ok.glob];exact I.mod.glob.keeps I.bk) hm h) hd
theorem J9 {E:Value→Shared→Prop} {pins:List (Addr×Obj)} {s:Shared} {σ:St} {H:Hp} {x:Str} {u:Value} {pos:Pos} {Q:Value→Shared→Prop} (I:Inv X pins σ H s) (hg:Gl X x) (hm:X.mg x=none) (hv:bootBuiltins x=some u) (h:Q u s)
  (hn:x≠"__name__":=by decide) (hd:(x==("__debug__":Str))=false:=by decide):wpAny (model X.prog X.w) X.A (eval (.Name x pos) X.env) Q E s:=by
 obtain ⟨mb,h1,h2⟩:=I.mod.blt;exact Calls.Name_function_global I.ok.kind hg (Calls.loadGlobal_builtin (by rw [I.ok.glob];exact I.mod.glob.keeps I.bk) hm (by rw [I.ok.blt];exact h1.keeps I.bk) ((h2 x hn).trans hv) h) hd
theorem qcn {x:Str} {v:V} {u:Value} {pos:Pos} (hg:Gl X x) (hm:X.mg x=some u) (r:qN v u) (hd:(x==("__debug__":Str))=false:=by decide):PE X (.Name x pos) (tC v):=
 fun _ _ _ H _ I h=>wo I hg hm ⟨v,H,I,r,h⟩ hd
theorem qij {x:Str} {v:V} {u:Value} {pos:Pos} (hg:Gl X x) (hm:X.mg x=none) (hv:bootBuiltins x=some u) (r:qN v u) (hn:x≠"__name__":=by decide) (hd:(x==("__debug__":Str))=false:=by decide):PE X (.Name x pos) (tC v):=
 fun _ _ _ H _ I h=>J9 I hg hm hv ⟨v,H,I,r,h⟩ hn hd
variable {a b:Expr} {ta tb:TE} {pos:Pos}
def PC (X:Cx) (op:CmpOp) (a b:Expr) (t:TE):Prop:=
 ∀ (pins:List (Addr×Obj)) (s:Shared) (σ:St) (H:Hp) (Q:VK),Inv X pins σ H s→t σ H Q→
  wpAny (model X.prog X.w) X.A (eval a X.env) (fun v s₁=>wpAny (model X.prog X.w) X.A (eval b X.env) (fun u s₂=>wpAny (model X.prog X.w) X.A (compareOp op v u) (EP X pins σ Q) X.xe s₂) X.xe s₁) X.xe s
def tB (t:TE):TT:=fun σ H Q=>t σ H fun x H1=>∃ c,x= .bl c∧Q c H1
theorem qkf {op:CmpOp} {t:TE} (h:PC X op a b t) (h1:behindInMarks op b=false:=by first | exact nobehind _ O0 O0 | rfl):PT X (.Compare a [op] [b] pos) (tB t):=by
 intro pins s σ H Q I hw;refine wpAny_isTrue_Compare1 (thn (h pins s σ H _ I hw) fun v s1 h1=>thn h1 fun u s2 h2=>thn h2 fun c s3 ⟨x,H1,I1,r1,q1⟩=>?_) h1;obtain ⟨d,rfl,q⟩:=q1;cases r1;exact Cl ⟨H1,I1,q⟩
theorem jg {e:Expr} {t:TE} (h:PE X e t) (he:∀ whole,isTrue e X.env whole=(do let v ← whole;standAt e.pos;holding [v] (truthy v)):=by intro _;rfl):PT X e (tB t):=by
 intro pins s σ H Q I hw;refine isTrue_plain (thn (h pins s σ H _ I hw) fun v s1 ⟨x,H1,I1,r1,q1⟩=>?_) (he _);obtain ⟨d,rfl,q⟩:=q1;cases r1;exact Cl ⟨H1,I1,q⟩
variable {tA tB':TT} {rest:List Expr}
def wF (t u:TT):TT:=fun σ H Q=>t σ H fun c H1=>if c=true then u σ H1 Q else Q false H1
def tOr (t u:TT):TT:=fun σ H Q=>t σ H fun c H1=>if c=true then Q true H1 else u σ H1 Q
def Ql (t:TT):TT:=fun σ H Q=>t σ H fun c H1=>Q (!c) H1
theorem JA (ha:PT X a tA):PW X (.BoolOp .And [a] pos) tA:=by
 intro wh pins s σ H Q I h;refine isTrue_and (thn (ha pins s σ H Q I h) fun c s1 e=>?_);cases c with
 | true=>exact isTrue_and_nil e
 | false=>exact e
theorem Jq (ha:PT X a tA):PW X (.BoolOp .Or [a] pos) tA:=by
 intro wh pins s σ H Q I h;refine isTrue_or (thn (ha pins s σ H Q I h) fun c s1 e=>?_);cases c with
 | false=>exact isTrue_or_nil e
 | true=>exact e
theorem J8 (ha:PT X a tA) (hb:PW X (.BoolOp .And (b::rest) pos) tB'):PW X (.BoolOp .And (a::b::rest) pos) (wF tA tB'):=by
 intro wh pins s σ H Q I h;refine isTrue_and (thn (ha pins s σ H _ I h) fun c s1 ⟨H1,I1,q1⟩=>?_);cases c with
 | true=>exact hb wh pins s1 σ H1 Q I1 q1
 | false=>exact ⟨H1,I1,q1⟩
theorem JW (ha:PT X a tA) (hb:PW X (.BoolOp .Or (b::rest) pos) tB'):PW X (.BoolOp .Or (a::b::rest) pos) (tOr tA tB'):=by
 intro wh pins s σ H Q I h;refine isTrue_or (thn (ha pins s σ H _ I h) fun c s1 ⟨H1,I1,q1⟩=>?_);cases c with
 | true=>exact ⟨H1,I1,q1⟩
 | false=>exact hb wh pins s1 σ H1 Q I1 q1
theorem jV (ha:PT X a tA):PT X (.UnaryOp .Not a pos) (Ql tA):=by
 intro pins s σ H Q I h;exact isTrue_not (ha pins s σ H (fun c H1=>Q (!c) H1) I h)
def WK (ta tb:TE):TE:=fun σ H Q=>ta σ H fun x H1=>∃ c,x= .bl c∧if c=true then tb σ H1 Q else Q (.bl false) H1
def tOrV (ta tb:TE):TE:=fun σ H Q=>ta σ H fun x H1=>∃ c,x= .bl c∧if c=true then Q (.bl true) H1 else tb σ H1 Q
def qjg (ta:TE):TE:=fun σ H Q=>ta σ H fun x H1=>∃ c,x= .bl c∧Q (.bl (!c)) H1
theorem V1 {op} {t:TE} (h:PE X a t):PE X (.BoolOp op [a] pos) t:=fun pins s σ H Q I hw=>BoolOp_one (h pins s σ H Q I hw)
theorem v7 (ha:PE X a ta) (hb:PE X (.BoolOp .And (b::rest) pos) tb):PE X (.BoolOp .And (a::b::rest) pos) (WK ta tb):=by
 intro pins s σ H Q I h;refine BoolOp_and (thn (ha pins s σ H _ I h) fun v s1 ⟨x,H1,I1,r1,q1⟩=>?_);obtain ⟨c,rfl,q1⟩:=q1;cases r1;refine Cl ?_;cases c with
 | true=>exact hb pins s1 σ H1 Q I1 q1
 | false=>exact ⟨.bl false,H1,I1,rfl,q1⟩
theorem qmg (ha:PE X a ta) (hb:PE X (.BoolOp .Or (b::rest) pos) tb):PE X (.BoolOp .Or (a::b::rest) pos) (tOrV ta tb):=by
 intro pins s σ H Q I h;refine BoolOp_or (thn (ha pins s σ H _ I h) fun v s1 ⟨x,H1,I1,r1,q1⟩=>?_);obtain ⟨c,rfl,q1⟩:=q1;cases r1;refine Cl ?_;cases c with
 | false=>exact hb pins s1 σ H1 Q I1 q1
 | true=>exact ⟨.bl true,H1,I1,rfl,q1⟩
theorem qkm (ha:PE X a ta):PE X (.UnaryOp .Not a pos) (qjg ta):=by
 intro pins s σ H Q I h;refine UnaryOp_ (thn (ha pins s σ H _ I h) fun v s1 ⟨x,H1,I1,r1,q1⟩=>?_);obtain ⟨c,rfl,q1⟩:=q1;cases r1;exact not_of (Cl ⟨.bl (!c),H1,I1,rfl,q1⟩)
def tIf (t:TT) (ta tb:TE):TE:=fun σ H Q=>t σ H fun c H1=>if c=true then ta σ H1 Q else tb σ H1 Q
theorem qgh {c:Expr} (hc:PT X c tA) (ha:PE X a ta) (hb:PE X b tb):PE X (.IfExp c a b pos) (tIf tA ta tb):=by
 intro pins s σ H Q I h;refine wpAny_IfExp (thn (hc pins s σ H _ I h) fun d s1 ⟨H1,I1,q1⟩=>?_);cases d with
 | true=>exact ha pins s1 σ H1 Q I1 q1
 | false=>exact hb pins s1 σ H1 Q I1 q1
end
def SqL (K:Frag) (H:Hp) (a:Addr) (xs:List V):Prop:=
 Rd H a (.lst xs)∨
  ∃ (o:Obj) (its:Array Value) (n:Nat),K.lookup a=some o∧o.cls= .type "list"∧o.dict=none∧o.data= .seq its n∧its.size≤sizeLine∧qM xs its.toList
def SqT (K:Frag) (H:Hp) (a:Addr) (xs:List V):Prop:=
 Rd H a (.tup xs)∨
  ∃ (o:Obj) (its:Array Value) (n:Nat),K.lookup a=some o∧o.cls= .type "tuple"∧o.data= .seq its n∧its.size≤sizeLine∧qM xs its.toList
def absV:Value→Option V
 | .none=>some .non
 | .bool b=>some (.bl b)
 | .int i _=>some (.int i)
 | .str x _=>some (.str x)
 | .bytes b _=>some (.byt b)
 | .float b _=>some (.flt b)
 | .ref a=>some (.ref a)
 | .type n=>some (.ty n)
 | _=>none
theorem qN.abs {x:V} {u:Value} (r:qN x u):absV u=some x:=by
 cases x with
 | non=>cases r;rfl
 | bl _=>cases r;rfl
 | int _=>obtain ⟨t,rfl⟩:=r;rfl
 | str _=>obtain ⟨t,rfl⟩:=r;rfl
 | byt _=>obtain ⟨t,rfl⟩:=r;rfl
 | flt _=>obtain ⟨t,rfl⟩:=r;rfl
 | ref _=>cases r;rfl
 | ty _=>cases r;rfl
theorem qN.inj {x y:V} {u:Value} (r:qN x u) (q:qN y u):x=y:=Bg (r.abs.symm.trans q.abs)
theorem qM.inj:∀ {xs ys:List V} {us:List Value},qM xs us→qM ys us→xs=ys
 | _,_,_,.nil,.nil=>rfl
 | _,_,_,.cons r t,.cons r' t'=>by rw [r.inj r',qM.inj t t']
section
variable {X:Cx} {pins:List (Addr×Obj)} {σ:St} {H:Hp} {s:Shared} {a:Addr} {xs ys:List V}
theorem SqL.of {K:Frag} (h:H a=some (.lst xs)):SqL K H a xs:= .inl (.inl h)
theorem SqT.of {K:Frag} (h:H a=some (.tup xs)):SqT K H a xs:= .inl (.inl h)
theorem Inv.list (I:Inv X pins σ H s) (h:SqL X.K H a xs):∃ its:List Value,qM xs its∧PlainL s.heap a its.toArray∧xs.length≤sizeLine:=by
 rcases h with h | ⟨o,its,n,hk,hc,hd,hs,hz,r⟩
 ·obtain ⟨z,its,n,r,e⟩:=h.ok I.hok;exact ⟨its,r,⟨_,n,e,rfl,rfl,rfl⟩,z⟩
 ·refine ⟨its.toList,r,⟨o,n,I.kIn a o hk,hc,hd,by simpa using hs⟩,?_⟩
  have e:=r.length;simp only [Dm] at e;omega
theorem Inv.tuple (I:Inv X pins σ H s) (h:SqT X.K H a xs):∃ its:List Value,qM xs its∧IsTup s.heap a its.toArray∧xs.length≤sizeLine:=by
 rcases h with h | ⟨o,its,n,hk,hc,hs,hz,r⟩
 ·obtain ⟨z,its,r,p⟩:=h.ok I.hok;exact ⟨its,r,p,z⟩
 ·refine ⟨its.toList,r,⟨o,I.kIn a o hk,hc,n,by simpa using hs⟩,?_⟩
  have e:=r.length;simp only [Dm] at e;omega
theorem Inv.list_inj (I:Inv X pins σ H s) (h:SqL X.K H a xs) (h':SqL X.K H a ys):xs=ys:=by
 obtain ⟨its,r,⟨o,n,e,_,_,d⟩,_⟩:=I.list h;obtain ⟨its',r',⟨o',n',e',_,_,d'⟩,_⟩:=I.list h';rw [e] at e';cases e';rw [d] at d';injection d' with d1 _
 have:its=its':=by simpa using congrArg Array.toList d1
 subst this;exact r.inj r'
theorem Inv.tuple_inj (I:Inv X pins σ H s) (h:SqT X.K H a xs) (h':SqT X.K H a ys):xs=ys:=by
 obtain ⟨its,r,⟨o,e,_,n,d⟩,_⟩:=I.tuple h;obtain ⟨its',r',⟨o',e',_,n',d'⟩,_⟩:=I.tuple h';rw [e] at e';cases e';rw [d] at d';injection d' with d1 _
 have:its=its':=by simpa using congrArg Array.toList d1
 subst this;exact r.inj r'
end
abbrev Cx.wish (X:Cx) (E:Value→Shared→Prop):Cx:={X with xe:=E}
abbrev Cx.nox (X:Cx):Cx:=X.wish fun _ _=>False
theorem Cx.Ok.wish {X:Cx} (ok:X.Ok) (E:Value→Shared→Prop):(X.wish E).Ok:=
 ⟨ok.mod,ok.kind,ok.glob,ok.blt,ok.above,ok.inj,ok.has,ok.cab,ok.hd,ok.frames,ok.stk,ok.exf,ok.bs,ok.bsz,ok.noex,ok.exfs,ok.funs,ok.frf⟩
theorem Cx.Ok.unwish {X:Cx} {E:Value→Shared→Prop} (ok:(X.wish E).Ok):X.Ok:=
 ⟨ok.mod,ok.kind,ok.glob,ok.blt,ok.above,ok.inj,ok.has,ok.cab,ok.hd,ok.frames,ok.stk,ok.exf,ok.bs,ok.bsz,ok.noex,ok.exfs,ok.funs,ok.frf⟩
section
variable {X:Cx} {pins:List (Addr×Obj)} {σ:St} {H:Hp} {s:Shared} {E:Value→Shared→Prop}
theorem Inv.wish (I:Inv X pins σ H s) (E:Value→Shared→Prop):Inv (X.wish E) pins σ H s:=⟨I.ok.wish E,I.os,I.bare,I.base,I.loc,I.cell,I.free,I.freeC,I.pin,I.hok,I.len⟩
theorem Inv.unwish (I:Inv (X.wish E) pins σ H s):Inv X pins σ H s:=⟨I.ok.unwish,I.os,I.bare,I.base,I.loc,I.cell,I.free,I.freeC,I.pin,I.hok,I.len⟩
theorem SP.unwish {D:Ends} {f:Flow} {s':Shared} (h:SP (X.wish E) pins D f s'):SP X pins D f s':=by
 cases f with
 | next=>obtain ⟨σ',H',I,q⟩:=h;exact ⟨σ',H',I.unwish,q⟩
 | brk=>obtain ⟨σ',H',I,q⟩:=h;exact ⟨σ',H',I.unwish,q⟩
 | cont=>obtain ⟨σ',H',I,q⟩:=h;exact ⟨σ',H',I.unwish,q⟩
 | ret u=>obtain ⟨v,σ',H',I,r,q⟩:=h;exact ⟨v,σ',H',I.unwish,r,q⟩
theorem PSs.nox {st:List Stmt} {t:TS} (h:PSs X.nox st t):PSs X st t:=fun pins s σ H D I hw=>
 Ed (h pins s σ H D (I.wish _) hw) (fun _ _ q=>q.unwish) fun _ _ z=>False.elim z
end
section
variable {X:Cx} {st:Stmt} {rest:List Stmt} {t u:TS} {e:Expr} {te:TE} {pos:Pos}
def zu:TS:=fun D σ H=>D.nx σ H
def qB (t u:TS):TS:=fun D σ H=>t {D with nx:=u D} σ H
theorem qy:PSs X [] zu:=fun _ _ σ H _ I h=>wpAny_execs_nil ⟨σ,H,I,h⟩
theorem qd (h1:PS X st t) (h2:PSs X rest u):PSs X (st::rest) (qB t u):=by
 intro pins s σ H D I h;refine wpAny_execs_cons (thn (h1 pins s σ H {D with nx:=u D} I h) fun f s1 q=>?_)
 cases f with
 | next=>
  obtain ⟨σ',H',I',q⟩:=q;exact h2 pins s1 σ' H' D I' q
 | ret v=>exact q
 | brk=>exact q
 | cont=>exact q
theorem qi (h1:PS X st t):PSs X [st] t:=by
 intro pins s σ H D I h;refine wpAny_execs_cons (thn (h1 pins s σ H D I h) fun f s1 q=>?_);cases f with
 | next=>exact wpAny_execs_nil q
 | ret v=>exact q
 | brk=>exact q
 | cont=>exact q
theorem Inv.quiet {pins:List (Addr×Obj)} {σ:St} {H:Hp} {s:Shared} (I:Inv X pins σ H s):interactive X.env=false:=by simp [interactive,I.ok.kind]
def zz (te:TE):TS:=fun D σ H=>te σ H fun _ H1=>D.nx σ H1
theorem qT (he:PE X e te) (hs:swapsWith e none pos.line X.env=pure false:=by rfl):PS X (.Expr e pos) (zz te):=by
 intro pins s σ H D I h;exact wpAny_Expr_any (thn (he pins s σ H _ I h) fun v s1 ⟨x,H1,I1,r1,q1⟩=>⟨σ,H1,I1,q1⟩) I.quiet hs
def zV (te:TE):TS:=fun D σ H=>te σ H D.rt
theorem qw (he:PE X e te):PS X (.Return (some e) pos) (zV te):=by
 intro pins s σ H D I h;exact wpAny_Return_some (thn (he pins s σ H _ I h) fun v s1 ⟨x,H1,I1,r1,q1⟩=>⟨x,σ,H1,I1,r1,q1⟩)
def qjf:TS:=fun D _ H=>D.rt .non H
theorem qic:PS X (.Return none pos) qjf:=fun _ _ σ H _ I h=>wpAny_Return_none ⟨.non,σ,H,I,rfl,h⟩
def zJ (c:TT) (t u:TS):TS:=fun D σ H=>c σ H fun b H1=>if b=true then t D σ H1 else u D σ H1
theorem qK {c:Expr} {a b:List Stmt} {tc:TT} (hc:PT X c tc) (ha:PSs X a t) (hb:PSs X b u):PS X (.If c a b pos) (zJ tc t u):=by
 intro pins s σ H D I h;refine wpAny_If (thn (hc pins s σ H _ I h) fun d s1 ⟨H1,I1,q1⟩=>?_);cases d with
 | true=>exact ha pins s1 σ H1 D I1 q1
 | false=>exact hb pins s1 σ H1 D I1 q1
end
abbrev TG:=V→St→Hp→(St→Hp→Prop)→Prop
abbrev TGs:=List V→St→Hp→(St→Hp→Prop)→Prop
def PG (X:Cx) (target:Expr) (t:TG):Prop:=
 ∀ (pins:List (Addr×Obj)) (s:Shared) (σ:St) (H:Hp) (v:V) (u:Value) (Q:St→Hp→Prop),Inv X pins σ H s→qN v u→t v σ H Q→
  wpAny (model X.prog X.w) X.A (assign target X.env u) (fun _ s'=>∃ σ' H',Inv X pins σ' H' s'∧Q σ' H') X.xe s
def PGs (X:Cx) (ts:List Expr) (t:TGs):Prop:=
 ∀ (pins:List (Addr×Obj)) (s:Shared) (σ:St) (H:Hp) (vs:List V) (us:List Value) (Q:St→Hp→Prop),Inv X pins σ H s→qM vs us→t vs σ H Q→
  wpAny (model X.prog X.w) X.A (assignInOrder ((assignEach ts X.env).map (·.2)) us) (fun _ s'=>∃ σ' H',Inv X pins σ' H' s'∧Q σ' H') X.xe s
abbrev qlv:=V→V→V→Hp→(Hp→Prop)→Prop
def qm2 (X:Cx) (t:qlv):Prop:=
 ∀ (pins:List (Addr×Obj)) (s:Shared) (σ:St) (H:Hp) (o i v:V) (ov iv u:Value) (Q:Hp→Prop),Inv X pins σ H s→qN o ov→qN i iv→qN v u→t o i v H Q→
  wpAny (model X.prog X.w) X.A (setItem ov iv u) (fun _ s'=>∃ H',Inv X pins σ H' s'∧Q H') X.xe s
abbrev TIp:=V→V→Hp→VK→Prop
def PIp (X:Cx) (op:Operator) (t:TIp):Prop:=
 ∀ (pins:List (Addr×Obj)) (s:Shared) (σ:St) (H:Hp) (x y:V) (v u:Value) (Q:VK),Inv X pins σ H s→qN x v→qN y u→t x y H Q→
  wpAny (model X.prog X.w) X.A (inplaceOp op v u) (EP X pins σ Q) X.xe s
section
variable {X:Cx} {pos:Pos}
def qm (i:Nat):TG:=fun v σ H Q=>Q (σ.set i (some v)) H
theorem zh {i:Nat} {x:Str} (hN:X.N.Nodup) (hi:X.N[i]?=some x) (hx:Loc X.env.scope x) (hf:X.fn x=true∨X.env.scope.names.lookup x=some .local:=by first | exact .inl rfl | exact .inr rfl | assumption):PG X (.Name x pos) (qm i):=by
 intro pins s σ H v u Q I r h;exact wpAny_assign_Name (yP I hN hi hx r (fun s' I'=>⟨_,H,I',h⟩) hf)
def Yl:TGs:=fun vs σ H Q=>vs=[]∧Q σ H
def jb (t:TG) (u:TGs):TGs:=fun vs σ H Q=>∃ v r,vs=v::r∧t v σ H fun σ' H'=>u r σ' H' Q
theorem JZ:PGs X [] Yl:=by
 intro pins s σ H vs us Q I r h;obtain ⟨e,h⟩:=h;subst e;cases r;exact assignInOrder_nil ⟨σ,H,I,h⟩
theorem zb {e:Expr} {es:List Expr} {t:TG} {u:TGs} (h1:PG X e t) (h2:PGs X es u)
  (hs:(assignEach (e::es) X.env).map (·.2)=assign e X.env::(assignEach es X.env).map (·.2):=by rfl):PGs X (e::es) (jb t u):=by
 intro pins s σ H vs us Q I r h;obtain ⟨v,vr,e1,h⟩:=h;subst e1;cases r with
 | cons r rr=>
  rw [hs];refine assignInOrder_cons (thn (h1 pins s σ H _ _ _ I r h) fun _ s1 ⟨σ1,H1,I1,q1⟩=>?_);exact h2 pins s1 σ1 H1 _ _ Q I1 rr q1
def W7 (K:Frag) (n:Nat) (t:TGs):TG:=fun v σ H Q=>∃ a xs,v= .ref a∧SqT K H a xs∧xs.length=n∧t xs σ H Q
theorem qkj {es:List Expr} {k:Nat} {t:TGs} {n:Nat} (hc:X.calm=true) (h:PGs X es t)
  (hn:(assignEach es X.env).length=n:=by rfl) (hst:(assignEach es X.env).findIdx? (·.1)=none:=by rfl):PG X (.Tuple es k pos) (W7 X.K n t):=by
 intro pins s σ H v u Q I r hw;obtain ⟨a,xs,e1,hq,hl,hw⟩:=hw;subst e1;cases r;obtain ⟨its,rv,ht,hz⟩:=I.tuple hq;refine assign_Tuple_tuple (I.ok.hd hc) ht (by simp [hn,← hl,rv.length]) hst fun h' hx=>?_
 have I1:Inv X pins σ H {s with heap:=h'}:=I.kept (t':=s.toks) fun b o e=>hx b o (Bn (Au e)) e
 exact h pins _ σ H xs _ Q I1 (by simpa using rv) hw
def gSub (to ti:TE) (t:qlv):TG:=fun v σ H Q=>to σ H fun o H1=>ti σ H1 fun i H2=>t o i v H2 fun H3=>Q σ H3
theorem qkk {o i:Expr} {to ti:TE} {t:qlv} (ho:PE X o to) (hi:PE X i ti) (hs:qm2 X t)
  (ha:∀ v,assign (.Subscript o i pos) X.env v=(do
   let ov ← holding [v] (eval o X.env)
   let iv ← holding [v,ov] (eval i X.env)
   standAt pos
   holding [v,ov,iv] (setItem ov iv v)
   release [v,ov,iv] []):=by intro _;rfl):PG X (.Subscript o i pos) (gSub to ti t):=by
 intro pins s σ H v u Q I r h;rw [ha];refine Aa (Dl (thn (ho pins s σ H _ I h) fun ov s1 ⟨x,H1,I1,r1,q1⟩=>?_));refine Aa (Dl (thn (hi pins s1 σ H1 _ I1 q1) fun iv s2 ⟨y,H2,I2,r2,q2⟩=>?_));refine Aa (wpAny_standAt (Aa (Dl (thn (hs pins s2 σ H2 x y v ov iv u _ I2 r1 r2 r q2) fun _ s3 ⟨H3,I3,q3⟩=>?_))));exact wpAny_release ⟨σ,H3,I3,q3⟩
def qP (te:TE) (g:TG):TS:=fun D σ H=>te σ H fun x H1=>g x σ H1 D.nx
theorem qgd {tg e:Expr} {te:TE} {g:TG} (he:PE X e te) (hg:PG X tg g) (hs:swapsWithSole [tg] e pos.line X.env=pure false:=by rfl) (hw:swappedStores [tg] e X.env=pure none:=by rfl)
  (h1:(assignEach [tg] X.env).map (·.2)=[assign tg X.env]:=by rfl):PS X (.Assign [tg] e pos) (qP te g):=by
 intro pins s σ H D I h;refine wpAny_Assign_stores (thn (he pins s σ H _ I h) fun v s1 ⟨x,H1,I1,r1,q1⟩=>?_) hs hw;rw [h1];exact thn (hg pins s1 σ H1 x v _ I1 r1 q1) fun _ s2 q=>q
theorem qkg {i:Nat} {x:Str} {e:Expr} {te:TE} {pos':Pos} (hN:X.N.Nodup) (hi:X.N[i]?=some x) (hx:Loc X.env.scope x) (he:PE X e te) (hs:swapsWith e (some (.Name x pos')) pos.line X.env=pure false:=by rfl) (hf:X.fn x=true∨X.env.scope.names.lookup x=some .local:=by first | exact .inl rfl | exact .inr rfl | assumption):
  PS X (.Assign [.Name x pos'] e pos) (qP te (qm i)):=by
 intro pins s σ H D I h;refine wpAny_Assign_Name (thn (he pins s σ H _ I h) fun v s1 ⟨y,H1,I1,r1,q1⟩=>?_) hs;exact yP I1 hN hi hx r1 (fun s2 I2=>⟨_,H1,I2,q1⟩) hf
def qjx (i:Nat) (te:TE) (ti:TIp):TS:=fun D σ H=>∃ x,σ[i]?=some (some x)∧te σ H fun y H1=>ti x y H1 fun z H2=>D.nx (σ.set i (some z)) H2
theorem qgc {i:Nat} {x:Str} {e:Expr} {te:TE} {op:Operator} {ti:TIp} {pos':Pos} (hN:X.N.Nodup) (hi:X.N[i]?=some x) (hx:Loc X.env.scope x) (he:PE X e te) (ho:PIp X op ti) (hf:X.fn x=true∨X.env.scope.names.lookup x=some .local:=by first | exact .inl rfl | exact .inr rfl | assumption):
  PS X (.AugAssign (.Name x pos') op e pos) (qjx i te ti):=by
 intro pins s σ H D I h;obtain ⟨v,e1,h⟩:=h;obtain ⟨m,hn,hl⟩:=I.loc;have vis:Vis X.env.scope x:=by rcases hx with k | k;exact .inl k;exact .inr (.inl k)
 obtain ⟨u,r,l⟩:=hl i x v hi e1 vis;refine wpAny_AugAssign_Name ?_;have go:wpAny (model X.prog X.w) X.A (eval e X.env) (fun w s₂=>wpAny (model X.prog X.w) X.A (inplaceOp op u w) (fun r s₃=>wpAny (model X.prog X.w) X.A (storeName X.env x r) (fun _=>SP X pins D .next) X.xe s₃) X.xe s₂) X.xe s:=by
  refine thn (he pins s σ H _ I h) fun w s1 ⟨y,H1,I1,r1,q1⟩=>?_;refine thn (ho pins s1 σ H1 v y u w _ I1 r r1 q1) fun z s2 ⟨zv,H2,I2,r2,q2⟩=>?_;exact yP I2 hN hi hx r2 (fun s3 I3=>⟨_,H2,I3,q2⟩) hf
 rcases l with ⟨hk,hm⟩ | ⟨hk,c,hc,hcell⟩
 ·exact wpAny_loadName_local I.ok.kind hk hn hm go
 ·rcases hk with hk | hk
  ·exact wpAny_loadName_cell I.ok.kind hk hc hcell go
  ·rcases hx with k | k
   ·have:X.env.scope.names.lookup x=some .free:=hk;rw [k] at this;cases this
   ·have:X.env.scope.names.lookup x=some .free:=hk;rw [k] at this;cases this
def ipI (f:Int→Int→Int):TIp:=fun x y H Q=>∃ i j,x= .int i∧y= .int j∧Q (.int (f i j)) H
theorem qgx:PIp X .Add (ipI fun i j=>i+j):=by
 intro pins s σ H x y v u Q I r1 r2 h;obtain ⟨i,j,e1,e2,q⟩:=h;subst e1;subst e2;obtain ⟨t,rfl⟩:=r1;obtain ⟨t',rfl⟩:=r2;exact iadd_int ⟨.int _,H,I.tok _,⟨_,rfl⟩,q⟩
end
section
variable {X:Cx} {pos:Pos}
def vk (c:TT) (tb:TS):TS:=fun D σ H=>∃ W:Nat→St→Hp→Prop,(∃ m,W m σ H)∧∀ m σ H,W m σ H→
 c σ H fun b H1=>if b=true then ∃ N:St→Hp→Prop,(∀ σ' H',N σ' H'→∃ m',m'<m∧W m' σ' H')∧tb {D with nx:=N,ct:=N,bk:=D.nx} σ H1 else D.nx σ H1
theorem Jl {c:Expr} {body:List Stmt} {tc:TT} {tb:TS} (hp:PassesOwn (model X.prog X.w) X.A X.env X.xe) (hc:PT X c tc) (hb:PSs X body tb):PS X (.While c body [] pos) (vk tc tb):=by
 intro pins s σ H D I h;obtain ⟨W,⟨m0,w0⟩,turn⟩:=h;refine wpAny_While (codeAny_whileLoop (fun n s'=>∃ σ' H',Inv X pins σ' H' s'∧W n σ' H') ?_ m0 ⟨σ,H,I,w0⟩);rintro n s1 ⟨σ1,H1,I1,w1⟩;refine Du hp (thn (hc pins s1 σ1 H1 _ I1 (turn n σ1 H1 w1)) fun b s2 ⟨H2,I2,q2⟩=>?_);cases b with
 | true=>
  obtain ⟨N,hN,q2⟩:=q2;rw [if_pos rfl];refine Du hp (thn (hb pins s2 σ1 H2 _ I2 q2) fun f s3 q3=>?_);cases f with
  | next=>
   obtain ⟨σ3,H3,I3,n3⟩:=q3;obtain ⟨m',hm,w3⟩:=hN σ3 H3 n3;exact ⟨m',hm,σ3,H3,I3,w3⟩
  | cont=>
   obtain ⟨σ3,H3,I3,n3⟩:=q3;obtain ⟨m',hm,w3⟩:=hN σ3 H3 n3;exact ⟨m',hm,σ3,H3,I3,w3⟩
  | brk=>exact q3
  | ret v=>exact q3
 | false=>
  rw [if_neg Ai];exact wpAny_execs_nil ⟨σ1,H2,I2,q2⟩
end
structure It where
 go:Nat→Hp→Prop
 yld:Nat→Hp→V→Hp→Prop
 stop:Nat→Hp→Prop
def wB (X:Cx) (pins:List (Addr×Obj)) (H:Hp) (b:Addr):Prop:=
 H b=none∧b≠X.env.locals∧b∉X.fs∧(b∈X.ex∨X.s₀.heap.objs.size≤b)∧(∀ x c,X.env.cells.lookup x=some c→c≠b)∧∀ p∈X.pn++pins,p.1≠b
theorem Inv.fpOk {X:Cx} {pins:List (Addr×Obj)} {σ:St} {H H':Hp} {s:Shared} {b:Addr} (I:Inv X pins σ H s) (hb:s.heap.objs.size≤b) (hn:H' b=none):wB X pins H' b:=by
 refine ⟨hn,C8 (Br I.lt hb),I.nofs hb,.inr (A0 I.sz hb),fun x c e z=>?_,fun p hp z=>?_⟩
 ·obtain ⟨v,q⟩:=I.cell x c e;exact absurd (Br q.lt (by rw [z];exact hb)) (Dz _)
 ·exact absurd (Br (Au (I.pin p hp).1) (by rw [z];exact hb)) (Dz _)
structure Turn (P:Program) (w:World) (K:Frag) (tg:Expr) (J:It) (fp:List Addr) (it:Addr) (tn:Nat→Heap→Prop):Prop where
 mem:it∈fp
 obj:∀ i h,tn i h→∀ b∈fp,∃ o,h.get? b=some o∧∀ v,o.data≠ .cell v
 keep:∀ i h h',tn i h→(∀ b∈fp,∀ o,h.get? b=some o→h'.get? b=some o)→tn i h'
 item:∀ (X:Cx),X.prog=P→X.w=w→X.K=K→X.calm=true→∀ (i:Nat) (pins:List (Addr×Obj)) (s:Shared) (σ:St) (H:Hp) (E:Value→Shared→Prop),Inv X pins σ H s→(∀ b∈fp,wB X pins H b)→tn i s.heap→J.go i H→
  wpAny (model P w) X.A (pyNext (.ref it)) (fun r s1=>∃ u,r=some u∧
   wpAny (model P w) X.A (letOwnedTupleGo tg (.ref it) u) (fun _ s2=>∃ x H',Inv X pins σ H' s2∧qN x u∧J.yld i H x H'∧tn (i+1) s2.heap∧∀ b∈fp,H' b=none) E s1) E s
 done:∀ (X:Cx),X.prog=P→X.w=w→X.K=K→X.calm=true→∀ (i:Nat) (pins:List (Addr×Obj)) (s:Shared) (σ:St) (H:Hp) (E:Value→Shared→Prop),Inv X pins σ H s→(∀ b∈fp,wB X pins H b)→tn i s.heap→J.stop i H→
  wpAny (model P w) X.A (pyNext (.ref it)) (fun r s1=>r=none∧Inv X pins σ H s1) E s
 self:∀ (A:Around) (i:Nat) (s:Shared) (Q:Value→Shared→Prop) (E:Value→Shared→Prop),tn i s.heap→Q (.ref it) s→wpAny (model P w) A (pyIter (.ref it)) Q E s
abbrev TI:=St→Hp→(It→Hp→Prop)→Prop
def PIE (X:Cx) (pins:List (Addr×Obj)) (σ:St) (tg:Expr) (R:It→Hp→Prop) (itv:Value) (s2:Shared):Prop:=
 ∃ (it:Addr) (fp:List Addr) (tn:Nat→Heap→Prop) (J:It) (H':Hp),itv= .ref it∧Inv X pins σ H' s2∧Turn X.prog X.w X.K tg J fp it tn∧tn 0 s2.heap∧(∀ b∈fp,wB X pins H' b)∧R J H'
def PI (X:Cx) (tg iter:Expr) (wi:TI):Prop:=
 ∀ (pins:List (Addr×Obj)) (s:Shared) (σ:St) (H:Hp) (R:It→Hp→Prop),Inv X pins σ H s→wi σ H R→
  wpAny (model X.prog X.w) X.A (eval iter X.env) (fun v s1=>wpAny (model X.prog X.w) X.A (pyIter v) (PIE X pins σ tg R) X.xe s1) X.xe s
theorem Q0 {M:Model} {A:Around} {E:Value→Shared→Prop} {s:Shared} {tg:Expr} {it:Addr} {u:Value} {o:Obj} {n:String} {vs:Array Value} {Q:Unit→Shared→Prop} (ho:s.heap.get? it=some o) (hc:o.cls= .type n) (hd:o.data= .fields vs)
  (hn:["enumerate","zip","dict_itemiterator","dict_reverseitemiterator","odict_iterator","itertools.zip_longest","itertools.pairwise"].contains n=false) (hQ:Q () s):wpAny M A (letOwnedTupleGo tg (.ref it) u) Q E s:=by
 unfold letOwnedTupleGo;cases tg <;> first
  | exact Aq hQ
  | (cases u <;> first
    | exact Aq hQ
    | (refine Aa (wpAny_load ho ?_)
       rw [hc,hd];show wpAny M A (if (["enumerate","zip","dict_itemiterator","dict_reverseitemiterator","odict_iterator","itertools.zip_longest","itertools.pairwise"].contains n&&vs[0]?==some (rawInt _))=true then _ else _) Q E s
       rw [if_neg (by intro h;rw [hn,Cz] at h;cases h)]
       exact Aq hQ))
def Itl (K:Frag) (a:Addr):It:=
 ⟨fun i H=>∃ xs x,SqL K H a xs∧xs[i]?=some x,fun i H x H'=>H'=H∧∀ xs,SqL K H a xs→xs[i]?=some x,fun i H=>∃ xs,SqL K H a xs∧xs.length≤i⟩
def Itt (K:Frag) (a:Addr):It:=
 ⟨fun i H=>∃ xs x,SqT K H a xs∧xs[i]?=some x,fun i H x H'=>H'=H∧∀ xs,SqT K H a xs→xs[i]?=some x,fun i H=>∃ xs,SqT K H a xs∧xs.length≤i⟩
def Itr (lo:Int) (n:Nat):It:=⟨fun i _=>i<n,fun i H x H'=>H'=H∧x= .int (lo+i),fun i _=>n≤i⟩
theorem qdu {P:Program} {w:World} {K:Frag} {tg:Expr} (a it:Addr):Turn P w K tg (Itl K a) [it] it (fun i h=>h.IsListIter it a i) where
 mem:=by simp
 obj:=fun i h st b hb=>by
  have e:b=it:=by simpa using hb
  subst e;obtain ⟨o,e,c,d⟩:=st;exact ⟨o,e,fun v z=>by rw [d] at z;cases z⟩
 keep:=fun i h h' st k=>st.at fun o e=>k it (by simp) o e
 item:=by
  intro X hP hw hK hc i pins s σ H E I hf st hg;subst hP hw hK;obtain ⟨xs,x,hq,hx⟩:=hg;obtain ⟨its,rv,p,hz⟩:=I.list hq;obtain ⟨u,hu,ru⟩:=rv.get hx;obtain ⟨f0,f1,f2,f3,f4,f5⟩:=hf it (by simp)
  refine wpAny_pyNext_list_item st p.isList (x:=u) (by simpa using hu) fun h' st' sb=>?_
  have I1:Inv X pins σ H {s with heap:=h'}:=I.turned (t':=s.toks) (fun b o hb e=>(sb.2 b hb).trans e) f0 f1 f3 f4 f5
  obtain ⟨o,e,c,d⟩:=id st';exact ⟨u,rfl,Q0 (s:={s with heap:=h'}) e c d O0 ⟨x,H,I1,ru,⟨rfl,fun ys hy=>by rw [I.list_inj hy hq];exact hx⟩,st',fun b hb=>(hf b hb).1⟩⟩
 done:=by
  intro X hP hw hK hc i pins s σ H E I hf st hg;subst hP hw hK;obtain ⟨xs,hq,hx⟩:=hg;obtain ⟨its,rv,p,hz⟩:=I.list hq;obtain ⟨f0,f1,f2,f3,f4,f5⟩:=hf it (by simp)
  have hl:=rv.length;exact wpAny_pyNext_list_end (I.ok.hd hc) st p.isList (by simp;omega) fun h' eb=>⟨rfl,I.turned (t':=s.toks) (fun b o hb e=>eb b o hb e) f0 f1 f3 f4 f5⟩
 self:=fun _ _ _ _ _ st h=>wpAny_pyIter_listiter st h
theorem qa6 {P:Program} {w:World} {K:Frag} {tg:Expr} (a it:Addr):Turn P w K tg (Itt K a) [it] it (fun i h=>h.IsTupleIter it a i) where
 mem:=by simp
 obj:=fun i h st b hb=>by
  have e:b=it:=by simpa using hb
  subst e;obtain ⟨o,e,c,d⟩:=st;exact ⟨o,e,fun v z=>by rw [d] at z;cases z⟩
 keep:=fun i h h' st k=>st.at fun o e=>k it (by simp) o e
 item:=by
  intro X hP hw hK hc i pins s σ H E I hf st hg;subst hP hw hK;obtain ⟨xs,x,hq,hx⟩:=hg;obtain ⟨its,rv,p,hz⟩:=I.tuple hq;obtain ⟨u,hu,ru⟩:=rv.get hx;obtain ⟨f0,f1,f2,f3,f4,f5⟩:=hf it (by simp)
  refine wpAny_pyNext_tuple_item st (show s.heap.IsTuple a its.toArray from p) (x:=u) (by simpa using hu) fun h' st' sb=>?_
  have I1:Inv X pins σ H {s with heap:=h'}:=I.turned (t':=s.toks) (fun b o hb e=>(sb.2 b hb).trans e) f0 f1 f3 f4 f5
  obtain ⟨o,e,c,d⟩:=id st';exact ⟨u,rfl,Q0 (s:={s with heap:=h'}) e c d O0 ⟨x,H,I1,ru,⟨rfl,fun ys hy=>by rw [I.tuple_inj hy hq];exact hx⟩,st',fun b hb=>(hf b hb).1⟩⟩
 done:=by
  intro X hP hw hK hc i pins s σ H E I hf st hg;subst hP hw hK;obtain ⟨xs,hq,hx⟩:=hg;obtain ⟨its,rv,p,hz⟩:=I.tuple hq;obtain ⟨f0,f1,f2,f3,f4,f5⟩:=hf it (by simp)
  have hl:=rv.length;exact wpAny_pyNext_tuple_end (I.ok.hd hc) st (show s.heap.IsTuple a its.toArray from p) (by simp;omega) fun h' eb=>⟨rfl,I.turned (t':=s.toks) (fun b o hb e=>eb b o hb e) f0 f1 f3 f4 f5⟩
 self:=fun _ _ _ _ _ st h=>wpAny_pyIter_tupleiter st h
theorem qa7 {P:Program} {w:World} {K:Frag} {tg:Expr} (it:Addr) (lo:Int) (n:Nat):Turn P w K tg (Itr lo n) [it] it (fun i h=>IsRangeIter h it (lo+(i:Nat)*1) ((n:Int) - (i:Nat)) 1) where
 mem:=by simp
 obj:=fun i h st b hb=>by
  have e:b=it:=by simpa using hb
  subst e;exact ⟨_,st,fun v z=>by
   have z':Data.fields _=Data.cell v:=z;cases z'⟩
 keep:=fun i h h' st k=>k it (by simp) _ st
 item:=by
  intro X hP hw hK hc i pins s σ H E I hf st hg;subst hP hw hK;obtain ⟨f0,f1,f2,f3,f4,f5⟩:=hf it (by simp)
  have W:=Walks.range (prog:=X.prog) (w:=X.w) (I.ok.hd hc) it lo 1 n;refine W.item i s _ _ hg st fun v h' tk hv st' kk=>?_;obtain ⟨t,rfl⟩:=hv;have I1:Inv X pins σ H {s with heap:=h',toks:=tk}:=I.turned (fun b o hb e=>kk b o (by simpa using hb) e) f0 f1 f3 f4 f5
  refine ⟨_,rfl,Q0 (s:={s with heap:=h',toks:=tk}) (n:="range_iterator") st' rfl rfl O0 ⟨.int (lo+i),H,I1,⟨t,?_⟩,⟨rfl,rfl⟩,st',fun b hb=>(hf b hb).1⟩⟩
  rw [Int.mul_one]
 done:=by
  intro X hP hw hK hc i pins s σ H E I hf st hg;subst hP hw hK;obtain ⟨f0,f1,f2,f3,f4,f5⟩:=hf it (by simp)
  exact wpAny_pyNext_range_end (I.ok.hd hc) st (by have:n≤i:=hg;omega) fun h' eb=>⟨rfl,I.turned (t':=s.toks) (fun b o hb e=>eb b o hb e) f0 f1 f3 f4 f5⟩
 self:=fun _ _ _ _ _ st h=>wpAny_pyIter_rangeiter st h
section
variable {X:Cx} {tg:Expr}
theorem Qu {pins:List (Addr×Obj)} {σ:St} {H:Hp} {s:Shared} {R:It→Hp→Prop} {E:Value→Shared→Prop} {lo hi:Int} {t u v:Tok} {tk:Nat} (I:Inv X pins σ H s) (h1: -(2 ^ 62)≤lo) (h2:lo<2 ^ 62) (h3: -(2 ^ 62)≤hi) (h4:hi<2 ^ 62)
  (q:R (Itr lo (hi - lo).toNat) H):wpAny (model X.prog X.w) X.A (pyIter (.ref s.heap.objs.size)) (PIE X pins σ tg R) E {s with heap:=s.heap.push {cls:= .type "range",data:= .fields #[.int lo t,.int hi u,.int 1 v]},toks:=tk}:=by
 refine wpAny_pyIter_range (IsRange.new ..) (small_one h1 h2 h3 h4) ?_;have I1:Inv X pins σ H {s with heap:=s.heap.push {cls:= .type "range",data:= .fields #[.int lo t,.int hi u,.int 1 v]},toks:=tk}:=I.kept fun b o e=>Aj _ e
 refine ⟨(s.heap.push {cls:= .type "range",data:= .fields #[.int lo t,.int hi u,.int 1 v]}).objs.size,[(s.heap.push {cls:= .type "range",data:= .fields #[.int lo t,.int hi u,.int 1 v]}).objs.size],_,_,H,rfl,
  I1.kept (t':=tk) fun b o e=>Aj _ e,qa7 _ lo (hi - lo).toNat,?_,fun b hb=>?_,q⟩
 ·have e1:lo+((0:Nat):Int)*1=lo:=by simp
  have e2:(((hi - lo).toNat:Nat):Int) - ((0:Nat):Int)=Builtin.Range.rangeSize lo hi 1:=by rw [rangeSize_one];split <;> omega
  show IsRangeIter _ _ (lo+((0:Nat):Int)*1) ((((hi - lo).toNat:Nat):Int) - ((0:Nat):Int)) 1;rw [e1,e2];exact A6 _ rfl
 ·have e:b=(s.heap.push {cls:= .type "range",data:= .fields #[.int lo t,.int hi u,.int 1 v]}).objs.size:=by simpa using hb
  subst e;exact I1.fpOk (Ag _) (I1.hok.fresh (Ag _))
def QY (ta:TA):TI:=fun σ H R=>ta σ H fun vs H1=>∃ j:Int,vs=[.int j]∧ -(2 ^ 62)≤j∧j<2 ^ 62∧R (Itr 0 j.toNat) H1
def qg0 (ta:TA):TI:=fun σ H R=>ta σ H fun vs H1=>∃ i j:Int,vs=[.int i,.int j]∧(-(2 ^ 62)≤i∧i<2 ^ 62∧ -(2 ^ 62)≤j∧j<2 ^ 62)∧R (Itr i (j - i).toNat) H1
theorem jG {a:Expr} {ta:TA} {p pos:Pos} (hg:Gl X "range") (hm:X.mg "range"=none) (ha:PA X [a] ta) (hs:starEach [a] X.env=[(false,eval a X.env)]:=by rfl):PI X tg (.Call (.Name "range" p) [a] [] pos) (QY ta):=by
 intro pins s σ H R I h;refine Call_ (J9 I hg hm boot_range (Cc (thn (ha pos pins s σ H _ I h) fun us s1 ⟨vs,H1,I1,r1,q1⟩=>?_) hs rfl));obtain ⟨j,e,q1,q2,q⟩:=q1;subst e;cases r1 with
 | cons r rr=>
  cases rr;obtain ⟨t,rfl⟩:=r;exact call_range_1 (Qu I1 ⋯ ⋯ q1 q2 (by simpa using q))
theorem qd4 {a b:Expr} {ta:TA} {p pos:Pos} (hg:Gl X "range") (hm:X.mg "range"=none) (ha:PA X [a,b] ta) (hs:starEach [a,b] X.env=[(false,eval a X.env),(false,eval b X.env)]:=by rfl) (hs2:starEach [b] X.env=[(false,eval b X.env)]:=by rfl):
  PI X tg (.Call (.Name "range" p) [a,b] [] pos) (qg0 ta):=by
 intro pins s σ H R I h;refine Call_ (J9 I hg hm boot_range (Cc (thn (ha pos pins s σ H _ I h) fun us s1 ⟨vs,H1,I1,r1,q1⟩=>?_) (by rw [hs,hs2]) (by rw [hs2];rfl)))
 obtain ⟨i,j,e,⟨q1,q2,q3,q4⟩,q⟩:=q1;subst e;cases r1 with
 | cons r rr=>
  cases rr with
  | cons r' rr=>
   cases rr;obtain ⟨t,rfl⟩:=r;obtain ⟨t',rfl⟩:=r';exact call_range_2 (Qu I1 q1 q2 q3 q4 q)
def Jv (wi:TI) (g:TG) (tb:TS):TS:=fun D σ H=>wi σ H fun J H1=>∃ W:Nat→Nat→St→Hp→Prop,(∃ m,W 0 m σ H1)∧∀ i m σ H,W i m σ H→
 (J.stop i H∧D.nx σ H)∨(J.go i H∧∃ N:St→Hp→Prop,(∀ σ' H',N σ' H'→∃ m',m'<m∧W (i+1) m' σ' H')∧∀ x H',J.yld i H x H'→g x σ H' fun σ2 H2=>tb {D with nx:=N,ct:=N,bk:=D.nx} σ2 H2)
def V0 (fp:List Addr) (h:Heap):List (Addr×Obj):=fp.filterMap fun b=>(h.get? b).map fun o=>(b,o)
theorem vE {fp:List Addr} {h:Heap} {b:Addr} {o:Obj} (hb:b∈fp) (e:h.get? b=some o):(b,o)∈V0 fp h:=List.mem_filterMap.mpr ⟨b,hb,by rw [e];rfl⟩
theorem qd8 {fp:List Addr} {h:Heap} {p:Addr×Obj} (hp:p∈V0 fp h):p.1∈fp∧h.get? p.1=some p.2:=by
 obtain ⟨b,hb,e⟩:=List.mem_filterMap.mp hp;cases q:h.get? b with
 | none=>rw [q] at e;cases e
 | some o=>
  rw [q] at e;have e':(b,o)=p:=Bg e;subst e';exact ⟨hb,q⟩
theorem Inv.pinned {pins:List (Addr×Obj)} {σ:St} {H:Hp} {s:Shared} {fp:List Addr} (I:Inv X pins σ H s) (hf:∀ b∈fp,wB X pins H b) (ho:∀ b∈fp,∃ o,s.heap.get? b=some o∧∀ v,o.data≠ .cell v):Inv X (pins++V0 fp s.heap) σ H s:=
 I.pins_of fun p hp=>(Az.mp hp).elim (fun z=>I.pin p (A7 _ z)) fun z=>by
  obtain ⟨hb,e⟩:=qd8 z;obtain ⟨f0,f1,f2,_⟩:=hf p.1 hb;obtain ⟨o,e',d⟩:=ho p.1 hb;rw [e] at e';cases e';exact ⟨e,f0,f1,f2,d⟩
theorem Inv.unpinned {pins pl:List (Addr×Obj)} {σ:St} {H:Hp} {s:Shared} (I:Inv X (pins++pl) σ H s):Inv X pins σ H s:=I.pins_of fun p hp=>I.pin p (A7 _ (By _ hp))
theorem zT {iter:Expr} {body:List Stmt} {wi:TI} {g:TG} {tb:TS} {pos:Pos} (hp:PassesOwn (model X.prog X.w) X.A X.env X.xe) (hc:X.calm=true) (hi:PI X tg iter wi) (hg:PG X tg g) (hb:PSs X body tb)
  (hs:∀ x,foldedSetIterable iter X.env x=pure x:=by intro _;rfl):PS X (.For tg iter body [] pos) (Jv wi g tb):=by
 intro pins s σ H D I h;refine wpAny_For (thn (hi pins s σ H _ I h) fun v s1 h1=>thn h1 fun itv s2 h2=>?_) hs;obtain ⟨it,fp,tn,J,H2,e,I2,T,st2,f2,W,⟨m0,w0⟩,turn⟩:=h2;subst e;have stat:∀ {H':Hp},(∀ b∈fp,H' b=none)→∀ b∈fp,wB X pins H' b:=fun hn b hb=>⟨hn b hb,(f2 b hb).2⟩;refine codeAny_forLoop_any (fun n s'=>∃ i σ' H',Inv X pins σ' H' s'∧tn i s'.heap∧(∀ b∈fp,H' b=none)∧W i n σ' H') ?_ m0 ⟨0,σ,H2,I2,st2,fun b hb=>(f2 b hb).1,w0⟩;rintro n s3 ⟨i,σ3,H3,I3,st3,fr3,w3⟩;rcases turn i n σ3 H3 w3 with ⟨stop,qn⟩ | ⟨go,N,hN,step⟩
 ·refine Du hp (thn (T.done X rfl rfl rfl hc i pins s3 σ3 H3 X.xe I3 (stat fr3) st3 stop) fun r s4 ⟨hr,I4⟩=>?_);subst hr;exact wpAny_execs_nil ⟨σ3,H3,I4,qn⟩
 ·refine Du hp (thn (T.item X rfl rfl rfl hc i pins s3 σ3 H3 X.xe I3 (stat fr3) st3 go) fun r s4 ⟨u,hr,h4⟩=>?_);subst hr;refine Du hp (thn h4 fun _ s5 ⟨x,H5,I5,r5,y5,st5,fr5⟩=>?_);have I5':=I5.pinned (stat fr5) (T.obj _ _ st5);refine Du hp (thn (hg _ s5 σ3 H5 x u _ I5' r5 (step x H5 y5)) fun _ s6 ⟨σ6,H6,I6,q6⟩=>?_);refine Du hp (thn (hb _ s6 σ6 H6 _ I6 q6) fun f s7 q7=>?_);have again:∀ {σ7:St} {H7:Hp},Inv X (pins++V0 fp s5.heap) σ7 H7 s7→N σ7 H7→∃ m,m<n∧∃ i σ' H',Inv X pins σ' H' s7∧tn i s7.heap∧(∀ b∈fp,H' b=none)∧W i m σ' H':=fun {σ7 H7} I7 n7=>by
   obtain ⟨m',hm,w7⟩:=hN σ7 H7 n7;refine ⟨m',hm,i+1,σ7,H7,I7.unpinned,T.keep _ _ _ st5 fun b hb o e=>(I7.pin (b,o) (A7 _ (A7 _ (vE hb e)))).1,fun b hb=>?_,w7⟩;obtain ⟨o,e,d⟩:=T.obj _ _ st5 b hb;exact (I7.pin (b,o) (A7 _ (A7 _ (vE hb e)))).2.1
  cases f with
  | next=>obtain ⟨σ7,H7,I7,n7⟩:=q7;exact again I7 n7
  | cont=>obtain ⟨σ7,H7,I7,n7⟩:=q7;exact again I7 n7
  | brk=>obtain ⟨σ7,H7,I7,q7⟩:=q7;exact ⟨σ7,H7,I7.unpinned,q7⟩
  | ret v=>obtain ⟨x7,σ7,H7,I7,r7,q7⟩:=q7;exact ⟨x7,σ7,H7,I7.unpinned,r7,q7⟩
end
abbrev R2:=V→V→Hp→VK→Prop
def OpR (X:Cx) (f:Value→Value→Sem Value) (r:R2):Prop:=
 ∀ (pins:List (Addr×Obj)) (s:Shared) (σ:St) (H:Hp) (x y:V) (v u:Value) (Q:VK),Inv X pins σ H s→qN x v→qN y u→r x y H Q→
  wpAny (model X.prog X.w) X.A (f v u) (EP X pins σ Q) X.xe s
def UnR (X:Cx) (f:Value→Sem Value) (r:V→Hp→VK→Prop):Prop:=
 ∀ (pins:List (Addr×Obj)) (s:Shared) (σ:St) (H:Hp) (x:V) (v:Value) (Q:VK),Inv X pins σ H s→qN x v→r x H Q→
  wpAny (model X.prog X.w) X.A (f v) (EP X pins σ Q) X.xe s
def Jt (X:Cx) (f:Value) (r:List V→Hp→VK→Prop):Prop:=
 ∀ (pins:List (Addr×Obj)) (s:Shared) (σ:St) (H:Hp) (xs:List V) (us:List Value) (Q:VK),Inv X pins σ H s→qM xs us→r xs H Q→
  wpAny (model X.prog X.w) X.A (call f us) (EP X pins σ Q) X.xe s
def TruR (X:Cx) (r:V→Hp→(Bool→Hp→Prop)→Prop):Prop:=
 ∀ (pins:List (Addr×Obj)) (s:Shared) (σ:St) (H:Hp) (x:V) (v:Value) (Q:Bool→Hp→Prop),Inv X pins σ H s→qN x v→r x H Q→
  wpAny (model X.prog X.w) X.A (truthy v) (TP X pins σ Q) X.xe s
def tOp (r:R2) (ta tb:TE):TE:=fun σ H Q=>ta σ H fun x H1=>tb σ H1 fun y H2=>r x y H2 Q
def tUn (r:V→Hp→VK→Prop) (ta:TE):TE:=fun σ H Q=>ta σ H fun x H1=>r x H1 Q
def rI (C:Int→Int→Prop) (g:Int→Int→V):R2:=fun x y H Q=>∃ i j,x= .int i∧y= .int j∧C i j∧Q (g i j) H
def rI0 (g:Int→Int→V):R2:=fun x y H Q=>∃ i j,x= .int i∧y= .int j∧Q (g i j) H
def rU (g:Int→V):V→Hp→VK→Prop:=fun x H Q=>∃ i,x= .int i∧Q (g i) H
section
variable {X:Cx} {a b c:Expr} {ta tb tc:TE} {pos:Pos}
theorem qlq (ha:PE X a ta) (hb:PE X b tb) {pins:List (Addr×Obj)} {s:Shared} {σ:St} {H:Hp} {R:V→V→Hp→Prop} (I:Inv X pins σ H s)
  (h:ta σ H fun x H1=>tb σ H1 fun y H2=>R x y H2) {Q:Value→Shared→Prop} {f:Value→Value→Sem Value}
  (hf:∀ v u s2 x y H2,Inv X pins σ H2 s2→qN x v→qN y u→R x y H2→wpAny (model X.prog X.w) X.A (f v u) Q X.xe s2):
  wpAny (model X.prog X.w) X.A (eval a X.env) (fun v s₁=>wpAny (model X.prog X.w) X.A (eval b X.env) (fun u s₂=>wpAny (model X.prog X.w) X.A (f v u) Q X.xe s₂) X.xe s₁) X.xe s:=by
 refine thn (ha pins s σ H _ I h) fun v s1 ⟨x,H1,I1,r1,q1⟩=>?_;refine thn (hb pins s1 σ H1 _ I1 q1) fun u s2 ⟨y,H2,I2,r2,q2⟩=>?_;exact hf v u s2 x y H2 I2 r1 r2 q2
theorem qt {op:Operator} {r:R2} (ho:OpR X (binaryOp op) r) (ha:PE X a ta) (hb:PE X b tb):PE X (.BinOp a op b pos) (tOp r ta tb):=by
 intro pins s σ H Q I h;exact wpAny_BinOp (qlq ha hb I h fun v u s2 x y H2 I2 rx ry q=>ho pins s2 σ H2 x y v u Q I2 rx ry q)
theorem Qv {op:UnaryOp} {r:V→Hp→VK→Prop} (ho:UnR X (unaryOp op) r) (ha:PE X a ta):PE X (.UnaryOp op a pos) (tUn r ta):=by
 intro pins s σ H Q I h;exact UnaryOp_ (thn (ha pins s σ H _ I h) fun v s1 ⟨x,H1,I1,r1,q1⟩=>ho pins s1 σ H1 x v Q I1 r1 q1)
theorem opI {f:Value→Value→Sem Value} {C:Int→Int→Prop} {g:Int→Int→Int}
  (rule:∀ (i j:Int) (t u:Tok) (s:Shared) (Q:Value→Shared→Prop) (E:Value→Shared→Prop),C i j→Q (.int (g i j) s.toks) {s with toks:=s.toks+1}→wpAny (model X.prog X.w) X.A (f (.int i t) (.int j u)) Q E s):
  OpR X f (rI C fun i j=> .int (g i j)):=by
 intro pins s σ H x y v u Q I rx ry h;obtain ⟨i,j,rfl,rfl,hc,q⟩:=h;obtain ⟨t,rfl⟩:=rx;obtain ⟨t',rfl⟩:=ry;exact rule i j t t' s _ _ hc ⟨.int (g i j),H,I.tok _,⟨_,rfl⟩,q⟩
theorem qmj {f:Value→Value→Sem Value} {g:Int→Int→Int}
  (rule:∀ (i j:Int) (t u:Tok) (s:Shared) (Q:Value→Shared→Prop) (E:Value→Shared→Prop),Q (.int (g i j) s.toks) {s with toks:=s.toks+1}→wpAny (model X.prog X.w) X.A (f (.int i t) (.int j u)) Q E s):
  OpR X f (rI0 fun i j=> .int (g i j)):=by
 intro pins s σ H x y v u Q I rx ry h;obtain ⟨i,j,rfl,rfl,q⟩:=h;obtain ⟨t,rfl⟩:=rx;obtain ⟨t',rfl⟩:=ry;exact rule i j t t' s _ _ ⟨.int (g i j),H,I.tok _,⟨_,rfl⟩,q⟩
theorem qky {f:Value→Value→Sem Value} {g:Int→Int→Bool}
  (rule:∀ (i j:Int) (t u:Tok) (s:Shared) (Q:Value→Shared→Prop) (E:Value→Shared→Prop),Q (.bool (g i j)) s→wpAny (model X.prog X.w) X.A (f (.int i t) (.int j u)) Q E s):
  OpR X f (rI0 fun i j=> .bl (g i j)):=by
 intro pins s σ H x y v u Q I rx ry h;obtain ⟨i,j,rfl,rfl,q⟩:=h;obtain ⟨t,rfl⟩:=rx;obtain ⟨t',rfl⟩:=ry;exact rule i j t t' s _ _ ⟨.bl (g i j),H,I,rfl,q⟩
def qlx (i j:Int):Prop:=0<j∧j<1073741824
def qm3 (i j:Int):Prop:=0≤j∧j≤1000000∧i.natAbs<2 ^ 64
def qhl (i j:Int):Prop:=(-(2 ^ 64)<i∧i<2 ^ 64)∨(-(2 ^ 64)<j∧j<2 ^ 64)
theorem qhl.ok {i j:Int} (h:qhl i j):IntMulOk i j:=by
 rcases h with ⟨h1,h2⟩ | ⟨h1,h2⟩
 ·exact .of_left (intBits_le_64 h1 h2)
 ·exact .of_right (intBits_le_64 h1 h2)
theorem qkx:OpR X (binaryOp .Add) (rI0 fun i j=> .int (i+j)):=qmj fun _ _ _ _ _ _ _ q=>add_int q
theorem zp:OpR X (binaryOp .Sub) (rI0 fun i j=> .int (i - j)):=qmj fun _ _ _ _ _ _ _ q=>sub_int q
theorem V2:OpR X (binaryOp .Mult) (rI qhl fun i j=> .int (i*j)):=opI fun _ _ _ _ _ _ _ hc q=>mul_int q hc.ok
theorem zY:OpR X (binaryOp .FloorDiv) (rI qlx fun i j=> .int (i / j)):=opI fun i j _ _ _ _ _ hc q=>by
 have h1:(0:Int)<j:=hc.1;have h2:j<1073741824:=hc.2;exact floordiv_int ⋯ (by rw [Int.fdiv_eq_ediv_of_nonneg i ⋯];exact q) (.inl (PyProof.noPylong_small ⋯))
theorem zc:OpR X (binaryOp .Mod) (rI (fun _ j=>0<j) fun i j=> .int (i % j)):=opI fun i j _ _ _ _ _ hc q=>by
 have h1:(0:Int)<j:=hc;exact mod_int' ⋯ (by rw [Int.fmod_eq_emod_of_nonneg i ⋯];exact q)
theorem Zq:OpR X (binaryOp .Pow) (rI qm3 fun i j=> .int (i ^ j.toNat)):=opI fun _ _ _ _ _ _ _ hc q=>pow_int_small hc.1 hc.2.1 hc.2.2 q
theorem unI {f:Value→Sem Value} {g:Int→Int}
  (rule:∀ (i:Int) (t:Tok) (s:Shared) (Q:Value→Shared→Prop) (E:Value→Shared→Prop),Q (.int (g i) s.toks) {s with toks:=s.toks+1}→wpAny (model X.prog X.w) X.A (f (.int i t)) Q E s):
  UnR X f (rU fun i=> .int (g i)):=by
 intro pins s σ H x v Q I rx h;obtain ⟨i,rfl,q⟩:=h;obtain ⟨t,rfl⟩:=rx;exact rule i t s _ _ ⟨.int (g i),H,I.tok _,⟨_,rfl⟩,q⟩
theorem yL:UnR X (unaryOp .USub) (rU fun i=> .int (-i)):=unI fun _ _ _ _ _ q=>neg_int q
end
def ql4:V→V→Bool
 | .non,.non=>true | .non,.int _=>true | .int _,.non=>true | .non,.bl _=>true | .bl _,.non=>true | .non,.str _=>true | .str _,.non=>true
 | .int _,.int _=>true | .bl _,.bl _=>true | .str _,.str _=>true | .byt _,.byt _=>true
 | .int _,.str _=>true | .str _,.int _=>true | .bl _,.str _=>true | .str _,.bl _=>true
 | _,_=>false
def rEq:R2:=fun x y H Q=>ql4 x y=true∧Q (.bl (decide (x=y))) H
def rNe:R2:=fun x y H Q=>ql4 x y=true∧Q (.bl (!decide (x=y))) H
theorem qdf {i j:Int}:decide (V.int i=V.int j)=(i==j):=by
 rw [Ca];simp
theorem qhd {i j:Bool}:decide (V.bl i=V.bl j)=(i==j):=by
 rw [Ca];simp
theorem qde {i j:Str}:decide (V.str i=V.str j)=(i==j):=by
 rw [Ca];simp
theorem qdg {i j:Array UInt8}:decide (V.byt i=V.byt j)=(i.toList==j.toList):=by
 rw [Ca];cases i;cases j;simp
section
variable {X:Cx} {a b c:Expr} {ta tb tc:TE} {pos:Pos}
theorem qR {pins:List (Addr×Obj)} {σ:St} {H:Hp} {s:Shared} {Q:VK} {k k':Bool} (I:Inv X pins σ H s) (q:Q (.bl k) H) (e:k=k'):EP X pins σ Q (.bool k') s:=by
 subst e;exact ⟨.bl k,H,I,rfl,q⟩
theorem zN:OpR X (compareOp .Eq) rEq:=by
 intro pins s σ H x y v u Q I rx ry h;obtain ⟨hs,q⟩:=h;cases x with
 | non=>
  cases rx;cases y with
  | non=>cases ry;exact PySem.EqNone.eq_none_none (qR I q (by simp))
  | bl j=>cases ry;exact PySem.EqNone.eq_none_bool (qR I q (by simp))
  | int j=>obtain ⟨t',rfl⟩:=ry;exact PySem.EqNone.eq_none_int (qR I q (by simp))
  | str j=>obtain ⟨t',rfl⟩:=ry;exact PySem.EqNone.eq_none_str (qR I q (by simp))
  | _=>exact absurd (show false=true from hs) Ai
 | bl i=>
  cases rx;cases y with
  | non=>cases ry;exact PySem.EqNone.eq_bool_none (qR I q (by simp))
  | bl j=>cases ry;exact eq_bool (qR I q qhd)
  | str j=>obtain ⟨t',rfl⟩:=ry;exact PySem.EqMixed.eq_bool_str (qR I q (by simp))
  | _=>exact absurd (show false=true from hs) Ai
 | int i=>
  obtain ⟨t,rfl⟩:=rx;cases y with
  | non=>cases ry;exact PySem.EqNone.eq_int_none (qR I q (by simp))
  | int j=>obtain ⟨t',rfl⟩:=ry;exact eq_int (qR I q qdf)
  | str j=>obtain ⟨t',rfl⟩:=ry;exact PySem.EqMixed.eq_int_str (qR I q (by simp))
  | _=>exact absurd (show false=true from hs) Ai
 | str i=>
  obtain ⟨t,rfl⟩:=rx;cases y with
  | non=>cases ry;exact PySem.EqNone.eq_str_none (qR I q (by simp))
  | bl j=>cases ry;exact PySem.EqMixed.eq_str_bool (qR I q (by simp))
  | int j=>obtain ⟨t',rfl⟩:=ry;exact PySem.EqMixed.eq_str_int (qR I q (by simp))
  | str j=>obtain ⟨t',rfl⟩:=ry;exact eq_str (qR I q qde)
  | _=>exact absurd (show false=true from hs) Ai
 | byt i=>
  obtain ⟨t,rfl⟩:=rx;cases y with
  | byt j=>obtain ⟨t',rfl⟩:=ry;exact PySem.W.eq_bytes (qR I q qdg)
  | _=>exact absurd (show false=true from hs) Ai
 | _=>cases y <;> exact absurd (show false=true from hs) Ai
theorem XL:OpR X (compareOp .NotEq) rNe:=by
 intro pins s σ H x y v u Q I rx ry h;obtain ⟨hs,q⟩:=h;cases x with
 | non=>
  cases rx;cases y with
  | non=>cases ry;exact PySem.EqNone.ne_none_none (qR I q (by simp))
  | bl j=>cases ry;exact PySem.EqNone.ne_none_bool (qR I q (by simp))
  | int j=>obtain ⟨t',rfl⟩:=ry;exact PySem.EqNone.ne_none_int (qR I q (by simp))
  | str j=>obtain ⟨t',rfl⟩:=ry;exact PySem.EqNone.ne_none_str (qR I q (by simp))
  | _=>exact absurd (show false=true from hs) Ai
 | bl i=>
  cases rx;cases y with
  | non=>cases ry;exact PySem.EqNone.ne_bool_none (qR I q (by simp))
  | bl j=>cases ry;exact ne_bool (qR I q (congrArg not qhd))
  | str j=>obtain ⟨t',rfl⟩:=ry;exact PySem.EqMixed.ne_bool_str (qR I q (by simp))
  | _=>exact absurd (show false=true from hs) Ai
 | int i=>
  obtain ⟨t,rfl⟩:=rx;cases y with
  | non=>cases ry;exact PySem.EqNone.ne_int_none (qR I q (by simp))
  | int j=>obtain ⟨t',rfl⟩:=ry;exact ne_int (qR I q (congrArg not qdf))
  | str j=>obtain ⟨t',rfl⟩:=ry;exact PySem.EqMixed.ne_int_str (qR I q (by simp))
  | _=>exact absurd (show false=true from hs) Ai
 | str i=>
  obtain ⟨t,rfl⟩:=rx;cases y with
  | non=>cases ry;exact PySem.EqNone.ne_str_none (qR I q (by simp))
  | bl j=>cases ry;exact PySem.EqMixed.ne_str_bool (qR I q (by simp))
  | int j=>obtain ⟨t',rfl⟩:=ry;exact PySem.EqMixed.ne_str_int (qR I q (by simp))
  | str j=>obtain ⟨t',rfl⟩:=ry;exact ne_str (qR I q (congrArg not qde))
  | _=>exact absurd (show false=true from hs) Ai
 | byt i=>
  obtain ⟨t,rfl⟩:=rx;cases y with
  | byt j=>obtain ⟨t',rfl⟩:=ry;exact PySem.W.ne_bytes (qR I q (congrArg not qdg))
  | _=>exact absurd (show false=true from hs) Ai
 | _=>cases y <;> exact absurd (show false=true from hs) Ai
theorem VM:OpR X (compareOp .Lt) (rI0 fun i j=> .bl (decide (i<j))):=qky fun _ _ _ _ _ _ _ q=>lt_int q
theorem QA:OpR X (compareOp .LtE) (rI0 fun i j=> .bl (decide (i≤j))):=qky fun _ _ _ _ _ _ _ q=>le_int q
theorem QB:OpR X (compareOp .Gt) (rI0 fun i j=> .bl (decide (j<i))):=qky fun _ _ _ _ _ _ _ q=>gt_int q
theorem qgk:OpR X (compareOp .Is) (fun x y H Q=>y= .non∧Q (.bl (decide (x= .non))) H):=by
 intro pins s σ H x y v u Q I rx ry h;obtain ⟨rfl,q⟩:=h;cases ry;refine is_none_gen (qR I q ?_);cases x <;> first
  | (cases rx;rfl)
  | (obtain ⟨t,rfl⟩:=rx;rfl)
theorem Zr:OpR X (compareOp .IsNot) (fun x y H Q=>y= .non∧Q (.bl (!decide (x= .non))) H):=by
 intro pins s σ H x y v u Q I rx ry h;obtain ⟨rfl,q⟩:=h;cases ry;refine isnot_none_gen (qR I q ?_);cases x <;> first
  | (cases rx;rfl)
  | (obtain ⟨t,rfl⟩:=rx;rfl)
theorem OpR.or {f:Value→Value→Sem Value} {r r':R2} (h:OpR X f r) (h':OpR X f r'):OpR X f (fun x y H Q=>r x y H Q∨r' x y H Q):=by
 intro pins s σ H x y v u Q I rx ry q;rcases q with q | q
 ·exact h pins s σ H x y v u Q I rx ry q
 ·exact h' pins s σ H x y v u Q I rx ry q
theorem qz (b:Expr) {op:CmpOp} (h:op≠ .In:=by decide) (h2:op≠ .NotIn:=by decide):behindInMarks op b=false:=by
 have e1:(op==CmpOp.In)=false:=by cases op <;> first | rfl | exact absurd rfl h
 have e2:(op==CmpOp.NotIn)=false:=by cases op <;> first | rfl | exact absurd rfl h2
 cases b <;> simp [behindInMarks,e1,e2]
theorem Jf {op:CmpOp} {r:R2} (ho:OpR X (compareOp op) r) (ha:PE X a ta) (hb:PE X b tb) (hm:behindInMarks op b=false):PE X (.Compare a [op] [b] pos) (tOp r ta tb):=by
 intro pins s σ H Q I h;exact wpAny_Compare1 (qlq ha hb I h fun v u s2 x y H2 I2 rx ry q=>ho pins s2 σ H2 x y v u Q I2 rx ry q) hm
def qJ (t:TE):TT:=fun σ H Q=>t σ H fun x H'=>∃ k,x= .bl k∧Q k H'
theorem qr {op:CmpOp} {r:R2} (ho:OpR X (compareOp op) r) (ha:PE X a ta) (hb:PE X b tb) (hm:behindInMarks op b=false):PT X (.Compare a [op] [b] pos) (qJ (tOp r ta tb)):=by
 intro pins s σ H Q I h;refine wpAny_isTrue_Compare1 (thn (ha pins s σ H _ I h) fun v s1 ⟨x,H1,I1,r1,q1⟩=>thn (hb pins s1 σ H1 _ I1 q1) fun u s2 ⟨y,H2,I2,r2,q2⟩=>
  thn (ho pins s2 σ H2 x y v u _ I2 r1 r2 q2) fun c s3 ⟨z,H3,I3,r3,k,e,q3⟩=>?_) hm
 subst e;cases r3;exact Cl ⟨H3,I3,q3⟩
def qfj (r r':R2) (ta tb tc:TE):TE:=fun σ H Q=>ta σ H fun x H1=>tb σ H1 fun y H2=>r x y H2 fun z H3=>∃ k,z= .bl k∧
 (if k=true then tc σ H3 fun w' H4=>r' y w' H4 Q else Q (.bl false) H3)
theorem Qx {op op':CmpOp} {r r':R2} (ho:OpR X (compareOp op) r) (ho':OpR X (compareOp op') r') (ha:PE X a ta) (hb:PE X b tb) (hc:PE X c tc)
  (hm:lastMarks [op,op'] [b,c]=false:=by with_unfolding_all rfl):PE X (.Compare a [op,op'] [b,c] pos) (qfj r r' ta tb tc):=by
 intro pins s σ H Q I h;refine Compare_chain (thn (ha pins s σ H _ I h) fun v s1 ⟨x,H1,I1,r1,q1⟩=>chain_link (thn (hb pins s1 σ H1 _ I1 q1) fun u s2 ⟨y,H2,I2,r2,q2⟩=>
  thn (ho pins s2 σ H2 x y v u _ I2 r1 r2 q2) fun d s3 ⟨z,H3,I3,r3,k,e,q3⟩=>?_)) hm
 subst e;cases r3;refine Cl ?_;cases k with
 | false=>exact ite_ff ⟨.bl false,H3,I3,rfl,q3⟩
 | true=>exact ite_tt (chain_last (thn (hc pins s3 σ H3 _ I3 q3) fun w' s4 ⟨z',H4,I4,r4,q4⟩=>ho' pins s4 σ H4 y z' u w' Q I4 r2 r4 q4))
theorem qga {op op':CmpOp} {r r':R2} (ho:OpR X (compareOp op) r) (ho':OpR X (compareOp op') r') (ha:PE X a ta) (hb:PE X b tb) (hc:PE X c tc)
  (hm:lastMarks [op,op'] [b,c]=false:=by with_unfolding_all rfl):PT X (.Compare a [op,op'] [b,c] pos) (qJ (qfj r r' ta tb tc)):=by
 intro pins s σ H Q I h;refine isTrue_chain (thn (ha pins s σ H _ I h) fun v s1 ⟨x,H1,I1,r1,q1⟩=>test_link (thn (hb pins s1 σ H1 _ I1 q1) fun u s2 ⟨y,H2,I2,r2,q2⟩=>
  thn (ho pins s2 σ H2 x y v u _ I2 r1 r2 q2) fun d s3 ⟨z,H3,I3,r3,k,e,q3⟩=>?_)) hm
 subst e;cases r3;refine Cl ?_;cases k with
 | false=>
  obtain ⟨k',e',q'⟩:=q3;cases e';exact ite_ff ⟨H3,I3,q'⟩
 | true=>
  refine ite_tt (test_last (thn (hc pins s3 σ H3 _ I3 q3) fun w' s4 ⟨z',H4,I4,r4,q4⟩=>thn (ho' pins s4 σ H4 y z' u w' _ I4 r2 r4 q4) fun d' s5 ⟨z2,H5,I5,r5,k2,e2,q5⟩=>?_));subst e2;cases r5;exact Cl ⟨H5,I5,q5⟩
def qe6 (K:Frag) (x:V) (H:Hp) (k:Bool):Prop:=
 match x with
 | .non=>k=false
 | .bl b=>k=b
 | .int i=>k=(i !=0)
 | .str y=>y.length≤sizeLine∧k=((y.length:Int) !=0)
 | .byt y=>y.size≤sizeLine∧k=((y.size:Int) !=0)
 | .ref p=>(∃ xs,SqL K H p xs∧k=!xs.isEmpty)∨(∃ xs,SqT K H p xs∧k=!xs.isEmpty)∨∃ kvs,H p=some (.dK kvs)∧k=!kvs.isEmpty
 | _=>False
theorem qbv {κ:Type} {kvs:List (κ×V)} {vs:List (κ×Value)} (r:KV kvs vs):(!vs.isEmpty)=!kvs.isEmpty:=by
 cases r <;> rfl
theorem Yd {xs:List V} {its:List Value} (r:qM xs its):(!its.toArray.isEmpty)=!xs.isEmpty:=by
 cases r <;> simp
theorem wQ:(sizeLine:Nat)<2 ^ 63:=by rw [sizeLine_eq];decide
theorem qjw:TruR X (fun x H Q=>∃ k,qe6 X.K x H k∧Q k H):=by
 intro pins s σ H x v Q I rx h;obtain ⟨k,e,q⟩:=h;have hl:=wQ;have hs:sizeLine=16777216:=sizeLine_eq;cases x with
 | non=>
  cases rx;have e':k=false:=e;subst e';exact truthy_none ⟨H,I,q⟩
 | bl b=>
  cases rx;have e':k=b:=e;subst e';exact Cl ⟨H,I,q⟩
 | int i=>
  obtain ⟨t,rfl⟩:=rx;have e':k=(i !=0):=e;subst e';exact PySem.P.truthy_int ⟨H,I,q⟩
 | str y=>
  obtain ⟨t,rfl⟩:=rx;obtain ⟨hy,e'⟩:y.length≤sizeLine∧k=((y.length:Int) !=0):=e;subst e';exact PySem.P.truthy_str ⋯ ⟨H,I.tok _,q⟩
 | byt y=>
  obtain ⟨t,rfl⟩:=rx;obtain ⟨hy,e'⟩:y.size≤sizeLine∧k=((y.size:Int) !=0):=e;subst e';exact PySem.W.truthy_bytes ⋯ ⟨H,I.tok _,q⟩
 | ref p=>
  cases rx;have e':(∃ xs,SqL X.K H p xs∧k=!xs.isEmpty)∨(∃ xs,SqT X.K H p xs∧k=!xs.isEmpty)∨∃ kvs,H p=some (.dK kvs)∧k=!kvs.isEmpty:=e;rcases e' with ⟨xs,hx,e'⟩ | ⟨xs,hx,e'⟩ | ⟨kvs,hx,e'⟩
  ·subst e';obtain ⟨its,r,pl,hz⟩:=I.list hx;have hlen:=r.length;exact wpAny_truthy_list pl.isList (by simp only [Aw];omega) ⟨H,I.tok _,by rw [Yd r];exact q⟩
  ·subst e';obtain ⟨its,r,pl,hz⟩:=I.tuple hx;have hlen:=r.length;exact truthy_tuple pl (by simp only [Aw];omega) ⟨H,I.tok _,by rw [Yd r];exact q⟩
  ·subst e';obtain ⟨hz,hS,vs,r,m⟩:kvs.length≤sizeLine∧(p==sysModules)=false∧∃ vs,KV kvs vs∧s.heap.DictOf (zo X.prog X.w) p vs:=I.hok p _ hx;have hlen:kvs.length=vs.length:=Cm r;exact wpAny_truthy_dict hS m ⋯ ⟨H,I.tok _,by rw [qbv r];exact q⟩
 | _=>exact (show False from e).elim
theorem qf7 (ha:PE X a ta) (he:∀ whole,isTrue a X.env whole=(do let v ← whole;standAt a.pos;holding [v] (truthy v))):
  PT X a (fun σ H Q=>ta σ H fun x H'=>∃ k,qe6 X.K x H' k∧Q k H'):=by
 intro pins s σ H Q I h;exact isTrue_plain (thn (ha pins s σ H _ I h) fun v s1 ⟨x,H1,I1,r1,q1⟩=>qjw pins s1 σ H1 x v Q I1 r1 q1) (he _)
theorem qbj:OpR X (binaryOp .Add) (fun x y H Q=>∃ i j,x= .str i∧y= .str j∧i.length+j.length≤sizeLine∧Q (.str (i++j)) H):=by
 intro pins s σ H x y v u Q I rx ry h;obtain ⟨i,j,rfl,rfl,hz,q⟩:=h;obtain ⟨t,rfl⟩:=rx;obtain ⟨t',rfl⟩:=ry;exact add_str (fun t' tk=>⟨.str (i++j),H,I.tok _,⟨_,rfl⟩,q⟩) hz
theorem vb {x:V} {us:List Value} (r:qM [x] us):∃ u,us=[u]∧qN x u:=by
 cases r with
 | cons r1 r2=>cases r2;exact ⟨_,rfl,r1⟩
theorem qjb {x y:V} {us:List Value} (r:qM [x,y] us):∃ u w',us=[u,w']∧qN x u∧qN y w':=by
 cases r with
 | cons r1 r2=>
  cases r2 with
  | cons r3 r4=>cases r4;exact ⟨_,_,rfl,r1,r3⟩
theorem qe4 (hc:X.calm=true):Jt X (.builtin "max") (fun xs H Q=>∃ i j,xs=[.int i,.int j]∧Q (.int (if j>i then j else i)) H):=by
 intro pins s σ H xs us Q I r h;obtain ⟨i,j,rfl,q⟩:=h;obtain ⟨u,w',rfl,⟨t,rfl⟩,⟨t',rfl⟩⟩:=qjb r;refine max_two_ints (I.ok.hd hc) fun h' tk k=>⟨_,H,I.kept k,?_,q⟩
 by_cases hj:j>i
 ·rw [if_pos hj,if_pos hj];exact ⟨_,rfl⟩
 ·rw [if_neg hj,if_neg hj];exact ⟨_,rfl⟩
def Vo (K:Frag) (x:V) (H:Hp) (n:Nat):Prop:=
 match x with
 | .str y=>y.length≤sizeLine∧n=y.length
 | .byt y=>y.size≤sizeLine∧n=y.size
 | .ref p=>(∃ xs,SqL K H p xs∧n=xs.length)∨∃ xs,SqT K H p xs∧n=xs.length
 | _=>False
theorem qhe:Jt X (.builtin "len") (fun xs H Q=>∃ x n,xs=[x]∧Vo X.K x H n∧Q (.int n) H):=by
 intro pins s σ H xs us Q I r h;obtain ⟨x,n,rfl,e,q⟩:=h;obtain ⟨u,rfl,rx⟩:=vb r;have hl:=wQ;have hs:sizeLine=16777216:=sizeLine_eq;cases x with
 | str y=>
  obtain ⟨t,rfl⟩:=rx;obtain ⟨hy,e'⟩:y.length≤sizeLine∧n=y.length:=e;subst e';exact len_str ⋯ ⟨.int _,H,I.tok _,⟨_,rfl⟩,q⟩
 | byt y=>
  obtain ⟨t,rfl⟩:=rx;obtain ⟨hy,e'⟩:y.size≤sizeLine∧n=y.size:=e;subst e';exact PySem.W.len_bytes ⋯ ⟨.int _,H,I.tok _,⟨_,rfl⟩,q⟩
 | ref p=>
  cases rx;have e':(∃ xs,SqL X.K H p xs∧n=xs.length)∨∃ xs,SqT X.K H p xs∧n=xs.length:=e;rcases e' with ⟨xs,hx,e'⟩ | ⟨xs,hx,e'⟩
  ·subst e';obtain ⟨its,r',pl,hz⟩:=I.list hx;have hlen:=r'.length;exact Calls.call_len_list pl.isList (by simp only [Aw];omega) ⟨.int xs.length,H,I.tok _,⟨_,by simp only [Aw];rw [hlen]⟩,q⟩
  ·subst e';obtain ⟨its,r',pl,hz⟩:=I.tuple hx;have hlen:=r'.length;exact len_tuple pl (by simp only [Aw];omega) ⟨.int xs.length,H,I.tok _,⟨_,by simp only [Aw];rw [hlen]⟩,q⟩
 | _=>exact (show False from e).elim
end
structure ObjM (h:Heap) (x dx C:Addr) (mA:Str→Option Value):Prop where
 obj:h.get? x=some (PySem.W.instObj C dx)
 ns:h.Ns1 dx mA
 ne:dx≠x
theorem qed {h:Heap} {dx:Addr} {mA:Str→Option Value} (n:h.Ns1 dx mA):∃ od,h.get? dx=some od∧∀ name,PySem.W.lookIn name od=some (mA name):=by
 obtain ⟨o,es,ep,ho,hd,hk,_,hm⟩:=n;refine ⟨o,ho,fun name=>?_⟩;have e:=hm name;unfold nsFind findBy at e;rw [← Array.find?_toList] at e;unfold PySem.W.lookIn;rw [hd];dsimp only;split
 ·rename_i y q;rw [q] at e;exact congrArg some e
 ·rename_i q;rw [q] at e;have a:es.toList.any (·.refKey)=false:=by
   rw [List.any_eq_false];intro y hy;obtain ⟨z,t,hkey⟩:=hk y (Array.mem_toList_iff.mp hy);simp [DictEntry.refKey,hkey]
  have a':¬ es.toList.any (·.refKey)=true:=by rw [a];exact Ai
  rw [if_neg a'];exact congrArg some e
theorem ObjM.look {h:Heap} {x dx C:Addr} {mA:Str→Option Value} (I:ObjM h x dx C mA):∃ od,PySem.W.InstAt h x (PySem.W.instObj C dx) C (some od)∧∀ name,PySem.W.lookIn name od=some (mA name):=
 let ⟨od,ho,hl⟩:=qed I.ns
 ⟨od,⟨I.obj,rfl,rfl,ho⟩,hl⟩
section
variable {prog:Program} {w:World} {A:Around} {E:Value→Shared→Prop} {s:Shared} {K:Frag} {x dx C f:Addr} {mA:Str→Option Value} {name:Str} {v:Value}
theorem qiw {expr:Bool} {Q:Value→Shared→Prop} (X:K.In s.heap) (I:ObjM s.heap x dx C mA) (hg:PySem.W.plainGet K C name=true) (hh:PySem.W.hasDictIn K C=true)
  (ha:PySem.W.findIn K (.ref C) name=some none) (hv:mA name=some v) (hv':PySem.W.handedIn v=true) (h:Q v {s with toks:=s.toks+1}):
  wpAny (model prog w) A (getAttr (.ref x) name expr) Q E s:=by
 obtain ⟨od,J,hl⟩:=I.look;exact PySem.W.get_value X J (PySem.W.plainGet_of hg).1 (PySem.W.findObj_own hh ha rfl (by rw [hl,hv])) hv' h
theorem qg4 {pl:Sem Bool} {Q:Value×List Value→Shared→Prop} (X:K.In s.heap) (I:ObjM s.heap x dx C mA) (hg:PySem.W.plainGet K C name=true)
  (hf:PySem.W.findIn K (.ref C) name=some (some (.ref f))) (ht:PySem.W.isFn K (.ref f)=true) (hv:mA name=none) (h:Q (.ref f,[.ref x]) s):
  wpAny (model prog w) A (getMethod (.ref x) name pl) Q E s:=by
 obtain ⟨od,J,hl⟩:=I.look;exact PySem.W.method_fn X J (PySem.W.plainGet_of hg).1 (PySem.W.plainGet_of hg).2 hf (A4.mp ht) (by show (PySem.W.lookIn name od).map (·.isSome)=some false;rw [hl,hv];rfl) h
theorem qhw {ns:List Str} {Q:Unit→Shared→Prop} (X:K.In s.heap) (I:ObjM s.heap x dx C mA)
  (hs:PySem.W.findIn K (.ref C) "__setattr__"=some (some (.builtin "object.__setattr__"))) (hp:PySem.W.plainOver K C=true) (ht:PySem.W.takerIn K C name=some none) (hh:PySem.W.hasDictIn K C=true)
  (hw:PySem.Within mA ns) (hsz:ns.length≤sizeLine)
  (h:∀ h',ObjM h' x dx C (fun y=>if y=name then some v else mA y)→Heap.SameBut dx s.heap h'→Q () {s with heap:=h',toks:=s.toks+2}):
  wpAny (model prog w) A (setAttr (.ref x) name v) Q E s:=by
 obtain ⟨od,J,hl⟩:=I.look;refine PySem.W.set_plain X J hs (PySem.W.osa_open (s:={s with toks:=s.toks+1}) (r:=none) X J hp ht fun b=>?_)
 obtain ⟨cd,hc,hd'⟩:=PySem.W.any_some hh;have hx:s.heap.get? x=some ⟨.ref C,some dx,.plain,#[]⟩:=I.obj;refine Aa (Aq (Aa (Aa (wpAny_loadPart hx (Aa (PySem.W.Looks.here (s:={s with toks:=s.toks+1}) (PySem.W.looks_clsIn X hc) ?_))))))
 rw [hd'];refine Aq (a:=some dx) (Aa (Aq (Aa ?_)));refine wpAny_nsSet1 (s:={s with toks:=s.toks+1}) I.ns fun h' hn2 hs2=>?_
 obtain ⟨oD,esD,epD,hoD,hdD,hcD⟩:=hn2.count (PySem.Within.cons name v hw);refine Aa (wpAny_lookBehind hoD (by rw [hdD];exact pastItsLine_dict (A0 hcD (by rw [Ak];omega))) ?_)
 exact Aq (h _ ⟨(hs2.2 _ (Ne.symm I.ne)).trans I.obj,hn2,I.ne⟩ hs2)
theorem qgq {R:Result→Shared→Prop} {vs:List Value} {kw:List (Str×Value)} (X:K.In s.heap) (hm:PySem.W.makesIn K C=true)
  (hi:PySem.W.findIn K (.ref C) "__init__"=some (some (.ref f))) (hf:PySem.W.typeIn K (.ref f)=some (.type "function"))
  (h:codeAny (model prog w) (A.under (.builtin "type.__call__" ⟨.ref C::vs,kw⟩)) (.call (.ref f) ⟨.ref (s.heap.objs.size+1)::vs,kw⟩) (PySem.W.InitBack (s.heap.objs.size+1) R)
   {s with heap:=(s.heap.push PySem.W.emptyDict).push (PySem.W.instObj C s.heap.objs.size)}):
  codeAny (model prog w) A (.call (.ref C) ⟨vs,kw⟩) R s:=by
 obtain ⟨hh,g,d,t,os⟩:=s;exact PySem.W.make_core (PySem.W.makes_of X hm) (PySem.W.looks_findIn X hi) (fun self=>PySem.W.bind_fn X self hf) (.inl rfl) h
end
def qC (f:Str) (v:V):List (Str×V)→List (Str×V)
 | []=>[(f,v)]
 | (g,x)::r=>if g=f then (g,v)::r else (g,x)::qC f v r
theorem WR (f g:Str) (v:V):∀ fs:List (Str×V),(qC f v fs).lookup g=if g=f then some v else fs.lookup g
 | []=>by
  show List.lookup g [(f,v)]=_
  by_cases h:g=f
  ·have hb:(g==f)=true:=A4.mpr h;simp only [List.lookup,hb,if_pos h]
  ·have hb:(g==f)=false:=Bk.mpr h;simp only [List.lookup,hb,if_neg h]
 | (k,x)::r=>by
  have ih:=WR f g v r;rw [show qC f v ((k,x)::r)=(if k=f then (k,v)::r else (k,x)::qC f v r) from rfl]
  by_cases hk:k=f
  ·rw [if_pos hk]
   by_cases h:g=k
   ·have hb:(g==k)=true:=A4.mpr h;simp only [List.lookup,hb,if_pos (h.trans hk)]
   ·have hb:(g==k)=false:=Bk.mpr h;simp only [List.lookup,hb,if_neg (fun e:g=f=>h (e.trans hk.symm))]
  ·rw [if_neg hk]
   by_cases h:g=k
   ·have hb:(g==k)=true:=A4.mpr h;simp only [List.lookup,hb,if_neg (fun e:g=f=>hk (h.symm.trans e))]
   ·have hb:(g==k)=false:=Bk.mpr h;simp only [List.lookup,hb];exact ih
theorem wS (f:Str) (v:V):∀ fs:List (Str×V),f∈(qC f v fs).map (·.1)∧∀ g,g∈fs.map (·.1)→g∈(qC f v fs).map (·.1)
 | []=>⟨by simp [qC],fun g h=>by simp at h⟩
 | (k,x)::r=>by
  obtain ⟨i1,i2⟩:=wS f v r;rw [show qC f v ((k,x)::r)=(if k=f then (k,v)::r else (k,x)::qC f v r) from rfl]
  by_cases hk:k=f
  ·rw [if_pos hk];subst hk;exact ⟨by simp,fun g h=>by simpa using h⟩
  ·rw [if_neg hk];refine ⟨?_,fun g h=>?_⟩
   ·rw [Ba];exact A9 _ i1
   ·rw [Ba] at h ⊢;rcases Ao.mp h with e | e
    ·exact Ao.mpr (.inl e)
    ·exact A9 _ (i2 g e)
theorem WS (f:Str) (v:V):∀ fs:List (Str×V),(qC f v fs).length≤fs.length+1
 | []=>by simp [qC]
 | (k,x)::r=>by
  have ih:=WS f v r;rw [show qC f v ((k,x)::r)=(if k=f then (k,v)::r else (k,x)::qC f v r) from rfl]
  by_cases hk:k=f
  ·rw [if_pos hk,Ak,Ak];omega
  ·rw [if_neg hk,Ak,Ak];omega
theorem VC.some_of {v:V} {o:Option Value} (r:VC (some v) o):∃ u,o=some u∧qN v u:=by
 cases o with
 | none=>exact (show False from r).elim
 | some u=>exact ⟨u,rfl,r⟩
theorem VC.none_of {o:Option Value} (r:VC none o):o=none:=by
 cases o with
 | none=>rfl
 | some u=>exact (show False from r).elim
theorem qen {v:V} {u:Value} (r:qN v u):PySem.W.handedIn u=true:=by
 cases v with
 | non=>cases (show u=Value.none from r);rfl
 | bl b=>cases (show u=Value.bool b from r);rfl
 | int i=>obtain ⟨t,e⟩:=(show ∃ t,u=Value.int i t from r);cases e;rfl
 | str x=>obtain ⟨t,e⟩:=(show ∃ t,u=Value.str x t from r);cases e;rfl
 | byt b=>obtain ⟨t,e⟩:=(show ∃ t,u=Value.bytes b t from r);cases e;rfl
 | flt b=>obtain ⟨t,e⟩:=(show ∃ t,u=Value.float b t from r);cases e;rfl
 | ref a=>cases (show u=Value.ref a from r);rfl
 | ty n=>cases (show u=Value.type n from r);rfl
section
variable {P:Program} {w:World} {H H':Hp} {h h':Heap} {a C dx:Addr} {fs fs':List (Str×V)}
theorem yG (hok:HOk P w H h) (e:H a=some (.ins C dx fs)):∃ mA,ObjM h a dx C mA∧(∀ f,VC (fs.lookup f) (mA f))∧PySem.Within mA (fs.map (·.1))∧fs.length≤1000∧H dx=some (.own a):=by
 obtain ⟨d,z,ne,ob,mA,n,r,q⟩:=(show zL P w H h a (.ins C dx fs) from hok a _ e);exact ⟨mA,⟨ob,n,ne⟩,r,q,z,d⟩
end
structure Cls (K:Frag) (C:Addr):Prop where
 pg:PySem.W.plainGet K C Str.empty=true
 hd:PySem.W.hasDictIn K C=true
 po:PySem.W.plainOver K C=true
 sa:PySem.W.findIn K (.ref C) "__setattr__"=some (some (.builtin "object.__setattr__"))
theorem Cls.get {K:Frag} {C:Addr} (c:Cls K C) (f:Str):PySem.W.plainGet K C f=true:=c.pg
def WG (K:Frag) (C:Addr) (f:Str):Prop:=PySem.W.findIn K (.ref C) f=some none
theorem WG.taker {K:Frag} {C:Addr} {f:Str} (n:WG K C f):PySem.W.takerIn K C f=some none:=by
 unfold PySem.W.takerIn;rw [show PySem.W.findIn K (.ref C) f=some none from n];rfl
structure Meth (K:Frag) (C:Addr) (m:Str) (f:Addr):Prop where
 at_:PySem.W.findIn K (.ref C) m=some (some (.ref f))
 fn:PySem.W.isFn K (.ref f)=true
 kp:PySem.W.keepIn K (.ref f)=true
section
variable {X:Cx} {pins:List (Addr×Obj)} {σ:St} {H:Hp} {s:Shared} {a C dx:Addr} {fs:List (Str×V)} {f:Str} {v:V} {A:Around} {E:Value→Shared→Prop}
theorem qby {b:Bool} {Q:Value→Shared→Prop} (I:Inv X pins σ H s) (e:H a=some (.ins C dx fs)) (c:Cls X.K C) (n:WG X.K C f) (l:fs.lookup f=some v)
  (h:∀ u s',Inv X pins σ H s'→qN v u→Q u s'):wpAny (model X.prog X.w) A (getAttr (.ref a) f b) Q E s:=by
 obtain ⟨mA,O,r,_,_,_⟩:=yG I.hok e;obtain ⟨u,hu,ru⟩:=VC.some_of (v:=v) (o:=mA f) (by rw [← l];exact r f)
 exact qiw I.kIn O (c.get f) c.hd n hu (qen ru) (h u _ (I.tok _) ru)
theorem qbx {m:Str} {g:Addr} {pl:Sem Bool} {Q:Value×List Value→Shared→Prop} (I:Inv X pins σ H s) (e:H a=some (.ins C dx fs)) (c:Cls X.K C) (k:Meth X.K C m g) (l:fs.lookup m=none)
  (h:Q (.ref g,[.ref a]) s):wpAny (model X.prog X.w) A (getMethod (.ref a) m pl) Q E s:=by
 obtain ⟨mA,O,r,_,_,_⟩:=yG I.hok e;have hn:mA m=none:=VC.none_of (by rw [← l];exact r m)
 exact qg4 I.kIn O (c.get m) k.at_ k.fn hn h
theorem qbc {y:V} {u:Value} {Q:Unit→Shared→Prop} (I:Inv X pins σ H s) (e:H a=some (.ins C dx fs)) (c:Cls X.K C) (n:WG X.K C f) (hl:fs.length<1000) (ry:qN y u)
  (h:∀ s',Inv X pins σ (upd H a (.ins C dx (qC f y fs))) s'→Q () s'):wpAny (model X.prog X.w) A (setAttr (.ref a) f u) Q E s:=by
 obtain ⟨mA,O,r,wi,_,ho⟩:=yG I.hok e;have hz:(fs.map (·.1)).length≤sizeLine:=by rw [Ab,sizeLine_eq];omega
 refine qhw I.kIn O c.sa c.po n.taker c.hd wi hz fun h' O' sb=>h _ ?_;have hd:∃ o,h'.get? dx=some o:=let ⟨o,_,_,e',_⟩:=O'.ns;⟨o,e'⟩;refine I.write (x:=a) (e:=dx) (by rw [e];exact True.intro) (.inr ho) (fun b q hb z=>(sb.2 b hb).trans z) hd ?_
 refine ⟨by rw [qk O.ne];exact ho,?_,O.ne,O'.obj,_,O'.ns,fun g=>?_,fun g hg=>?_⟩
 ·have:=WS f y fs;omega
 ·show VC ((qC f y fs).lookup g) (if g=f then some u else mA g)
  rw [WR]
  by_cases q:g=f
  ·rw [if_pos q,if_pos q];exact ry
  ·rw [if_neg q,if_neg q];exact r g
 ·by_cases q:g=f
  ·rw [q];exact (wS f y fs).1
  ·refine (wS f y fs).2 g (wi g fun z=>hg ?_);show (if g=f then some u else mA g)=none
   rw [if_neg q];exact z
theorem Inv.made (I:Inv X pins σ H s):Inv X pins σ (upd (upd H s.heap.objs.size (.own (s.heap.objs.size+1))) (s.heap.objs.size+1) (.ins C s.heap.objs.size []))
  {s with heap:=(s.heap.push PySem.W.emptyDict).push (PySem.W.instObj C s.heap.objs.size)}:=by
 have e1:(s.heap.push PySem.W.emptyDict).get? s.heap.objs.size=some PySem.W.emptyDict:=A6 s.heap rfl;have e2:((s.heap.push PySem.W.emptyDict).push (PySem.W.instObj C s.heap.objs.size)).get? (s.heap.objs.size+1)=some (PySem.W.instObj C s.heap.objs.size):=by
  have:=A6 (s.heap.push PySem.W.emptyDict) (o:=PySem.W.instObj C s.heap.objs.size) rfl
  rwa [Cy] at this
 have e3:(s.heap.push PySem.W.emptyDict).Ns s.heap.objs.size (fun _=>none):=⟨PySem.W.emptyDict,#[],_,e1,rfl,(fun e he=>absurd he (by simp)),fun _=>rfl⟩
 have I1:=I.laid (a:=s.heap.objs.size) (o:= .own (s.heap.objs.size+1)) (h':=s.heap.push PySem.W.emptyDict) (t':=s.toks) (fun b u q=>Aj _ q) (Ag _) ⟨_,e1⟩;refine I1.laid (a:=s.heap.objs.size+1) (o:= .ins C s.heap.objs.size []) (t':=s.toks) (fun b u q=>Aj _ q) (Nat.le_of_eq (Cy _ _)) ?_;have ne:s.heap.objs.size≠s.heap.objs.size+1:=Bn (Dn _);refine ⟨by rw [qk ne,upd_same],Bw _,ne,e2,fun _=>none,(Heap.Ns1.of_empty e3).at fun o q=>Aj _ q,fun _=>True.intro,fun y hy=>absurd rfl hy⟩
theorem qi0 {prog:Program} {w:World} {env:Env} {e:Expr} {f:Str} {pos:Pos} {s:Shared} {Q:Value→Shared→Prop} (hb:attributeBase e f env (eval e env)=eval e env)
  (h:wpAny (model prog w) A (eval e env) (fun o s₁=>wpAny (model prog w) A (getAttr o f true) Q E s₁) E s):wpAny (model prog w) A (eval (.Attribute e f pos) env) Q E s:=
 Attribute_any_ h (by rw [arm_eval_Attribute,hb])
end
def wc (K:Frag) (ta:TE) (f:Str):TE:=fun σ H Q=>ta σ H fun x H1=>∃ a C dx fs v,x= .ref a∧H1 a=some (.ins C dx fs)∧Cls K C∧WG K C f∧fs.lookup f=some v∧Q v H1
def qbe (K:Frag) (ta tv:TE) (f:Str):TS:=fun D σ H=>tv σ H fun y H1=>ta σ H1 fun x H2=>∃ a C dx fs,x= .ref a∧H2 a=some (.ins C dx fs)∧Cls K C∧WG K C f∧fs.length<1000∧
 D.nx σ (upd H2 a (.ins C dx (qC f y fs)))
section
variable {X:Cx} {o e value:Expr} {f:Str} {pos pos' tpos:Pos} {ta tv:TE}
theorem j8 (he:PE X e ta) (hb:attributeBase e f X.env (eval e X.env)=eval e X.env):PE X (.Attribute e f pos) (wc X.K ta f):=by
 intro pins s σ H Q I h;refine qi0 hb (thn (he pins s σ H _ I h) fun u s1 ⟨x,H1,I1,rx,a,C,dx,fs,v,ex,ea,c,n,l,q⟩=>?_);subst ex;obtain rfl:u=Value.ref a:=rx;exact qby I1 ea c n l fun u' s2 I2 ru=>⟨v,H1,I2,ru,q⟩
theorem wM (ha:PE X o ta) (hv:PE X value tv) (hs:swapsWith value (some (.Attribute o f pos')) pos.line X.env=pure false):PS X (.Assign [.Attribute o f pos'] value pos) (qbe X.K ta tv f):=by
 intro pins s σ H D I h;refine plainObj_wpAny_Assign_Attribute (thn (hv pins s σ H _ I h) fun u s1 ⟨y,H1,I1,ry,q⟩=>thn (ha pins s1 σ H1 _ I1 q) fun ov s2 ⟨x,H2,I2,rx,a,C,dx,fs,ex,ea,c,n,l,q2⟩=>?_) hs;subst ex;obtain rfl:ov=Value.ref a:=rx;exact qbc I2 ea c n l ry fun s3 I3=>⟨σ,_,I3,q2⟩
end
section
variable {X:Cx} {pins:List (Addr×Obj)} {σ:St} {H:Hp} {s:Shared} {A:Around} {E:Value→Shared→Prop} {Q:Value→Shared→Prop} {c:Value} {b:Bool}
inductive TyOf (K:Frag) (H:Hp):V→Value→Prop where
 | non:TyOf K H .non (.type "NoneType")
 | bl (x:Bool):TyOf K H (.bl x) (.type "bool")
 | int (i:Int):TyOf K H (.int i) (.type "int")
 | str (x:Str):TyOf K H (.str x) (.type "str")
 | flt (x:UInt64):TyOf K H (.flt x) (.type "float")
 | lst {a:Addr} {xs:List V} (e:H a=some (.lst xs)):TyOf K H (.ref a) (.type "list")
 | frz {a:Addr} {o:Obj} {xs:List V} (e:H a=some (.frz o (.lst xs))):TyOf K H (.ref a) (.type "list")
 | tup {a:Addr} {xs:List V} (e:H a=some (.tup xs)):TyOf K H (.ref a) (.type "tuple")
 | dK {a:Addr} {kvs:List (Key×V)} (e:H a=some (.dK kvs)):TyOf K H (.ref a) (.type "dict")
 | dT {a:Addr} {kvs:List (List Key×V)} (e:H a=some (.dT kvs)):TyOf K H (.ref a) (.type "dict")
 | ins {a C dx:Addr} {fs:List (Str×V)} (e:H a=some (.ins C dx fs)) (cl:Cls K C) (ha:PySem.W.findIn K (.ref C) "__class__"=some (some (.builtin "object.__class__")))
   (hn:PySem.W.specialIn K (.builtin "object.__class__") "__get__"=some (some (.builtin "getset_descriptor.__get__"))) (htk:PySem.W.takesIn K (.builtin "object.__class__")=some true)
   (hm:PySem.W.mroIn K C (.type "object")=some true):TyOf K H (.ref a) (.ref C)
theorem Vu {x:V} {u t:Value} (I:Inv X pins σ H s) (rx:qN x u) (ty:TyOf X.K H x t) (e:PySem.W.kitOne X.K t c=some b) (h:∀ tk,Q (.bool b) {s with toks:=tk}):
  wpAny (model X.prog X.w) A (call (.builtin "isinstance") [u,c]) Q E s:=by
 cases ty with
 | non=>cases (show u=Value.none from rx);exact Cg PySem.W.kitx_none I.kIn True.intro e (fun z=>nomatch z) h
 | bl y=>cases (show u=Value.bool y from rx);exact Cg PySem.W.kitx_bool I.kIn True.intro e (fun z=>nomatch z) h
 | int i=>obtain ⟨t,q⟩:=(show ∃ t,u=Value.int i t from rx);cases q;exact Cg PySem.W.kitx_int I.kIn True.intro e (fun z=>nomatch z) h
 | str y=>obtain ⟨t,q⟩:=(show ∃ t,u=Value.str y t from rx);cases q;exact Cg PySem.W.kitx_str I.kIn True.intro e (fun z=>nomatch z) h
 | flt y=>obtain ⟨t,q⟩:=(show ∃ t,u=Value.float y t from rx);cases q;exact Cg PySem.W.kitx_float I.kIn True.intro e (fun z=>nomatch z) h
 | @lst a xs ea=>
  cases (show u=Value.ref a from rx);obtain ⟨_,_,n,_,h1⟩:=(show zL X.prog X.w H s.heap a (.lst xs) from I.hok a _ ea);exact Cg PySem.W.kitx_list I.kIn ⟨_,h1,rfl⟩ e (fun z=>nomatch z) h
 | @frz a ob xs ea=>
  cases (show u=Value.ref a from rx);obtain ⟨_,_,_,n,_,h1⟩:=(show zL X.prog X.w H s.heap a (.frz ob (.lst xs)) from I.hok a _ ea);exact Cg PySem.W.kitx_list I.kIn ⟨_,h1,rfl⟩ e (fun z=>nomatch z) h
 | @tup a xs ea=>
  cases (show u=Value.ref a from rx);obtain ⟨_,_,_,p⟩:=(show zL X.prog X.w H s.heap a (.tup xs) from I.hok a _ ea);obtain ⟨o,h1,h2,_⟩:=p;exact Cg PySem.W.kitx_tuple I.kIn ⟨o,h1,h2⟩ e (fun z=>nomatch z) h
 | @dK a kvs ea=>
  cases (show u=Value.ref a from rx);obtain ⟨_,_,vs,_,p⟩:=(show zL X.prog X.w H s.heap a (.dK kvs) from I.hok a _ ea);obtain ⟨o,es,ep,h1,h2,_⟩:=p;exact Cg PySem.W.kitx_dict I.kIn ⟨o,h1,h2.1⟩ e (fun z=>nomatch z) h
 | @dT a kvs ea=>
  cases (show u=Value.ref a from rx);obtain ⟨_,_,xs,_,o,es,ep,h1,h2,_⟩:=(show zL X.prog X.w H s.heap a (.dT kvs) from I.hok a _ ea);exact Cg PySem.W.kitx_dict I.kIn ⟨o,h1,h2.1⟩ e (fun z=>nomatch z) h
 | @ins a C dx fs ea cl ha hn htk hm=>
  cases (show u=Value.ref a from rx);obtain ⟨mA,O,_⟩:=yG I.hok ea;obtain ⟨od,J,_⟩:=O.look;exact Cg (PySem.W.kitx_own (cl.get _) cl.hd ha hn htk hm) I.kIn J e (fun z=>nomatch z) h
end
structure Room (k:Nat) (A:Around):Prop where
 hd:A.handled=none
 dp:A.depth+3*k+5<recursionLimit
 un:A.units+16*k+200<cLine
theorem Room.mono {j k:Nat} {A:Around} (r:Room k A) (h:j≤k):Room j A:=⟨r.hd,by have:=r.dp;omega,by have:=r.un;omega⟩
theorem Room.deeper {k:Nat} {A:Around} (r:Room (k+1) A) (env:Env):Room k (A.deeper env):=
 ⟨r.hd,by have:=r.dp;show A.depth+1+3*k+5<_;omega,by have:=r.un;show A.units+3+16*k+200<_;omega⟩
theorem qbt {A:Around} {C:Addr} {us:List Value} {kw:List (Str×Value)}:(A.under (.builtin "type.__call__" ⟨.ref C::us,kw⟩)).depth=A.depth+1:=by
 first | rfl | simp [Around.under,Code.weight,Code.isCreation,Code.isGuard,Code.isCaller,Code.frames,Code.isFrame,guardIds]
theorem qbs {A:Around} {C:Addr} {us:List Value} {kw:List (Str×Value)}:(A.under (.builtin "type.__call__" ⟨.ref C::us,kw⟩)).units=A.units+1:=by
 first | rfl | simp [Around.under,Code.cUnits,Code.frames,Code.isFrame]
theorem Room.make {k:Nat} {A:Around} (r:Room (k+1) A) (C:Addr) (us:List Value) (kw:List (Str×Value)):Room k (A.under (.builtin "type.__call__" ⟨.ref C::us,kw⟩)):=
 ⟨r.hd,by have:=r.dp;rw [qbt];omega,by have:=r.un;rw [qbs];omega⟩
theorem Room.depth {k:Nat} {A:Around} (r:Room k A):A.depth<recursionLimit:=by have:=r.dp;omega
theorem Room.units {k:Nat} {A:Around} (r:Room k A):A.units+64<cLine:=by have:=r.un;omega
def qp:TA:=fun _ H Q=>Q [] H
def qf (ta:TE) (tr:TA):TA:=fun σ H Q=>ta σ H fun x H1=>tr σ H1 fun xs H2=>Q (x::xs) H2
section
variable {X:Cx} {e:Expr} {es:List Expr} {te:TE} {t:TA} {pos:Pos}
theorem qc:PA X [] qp:=fun _ _ _ _ H Q I h=>Calls.spliced_nil ⟨[],H,I,.nil,h⟩
theorem qb (ha:PE X e te) (hr:PA X es t) (hs:starEach (e::es) X.env=(false,eval e X.env)::starEach es X.env:=by rfl):PA X (e::es) (qf te t):=by
 intro pos pins s σ H Q I h;rw [hs];show wpAny _ _ (spliced ((false,eval e X.env)::backTo pos (starEach es X.env))) _ _ s;refine Calls.spliced_cons (thn (ha pins s σ H _ I h) fun u s1 ⟨x,H1,I1,r1,q1⟩=>?_);exact thn (hr pos pins s1 σ H1 _ I1 q1) fun us s2 ⟨xs,H2,I2,r2,q2⟩=>⟨x::xs,H2,I2,.cons r1 r2,q2⟩
def Ji (t:TA):TE:=fun σ H Q=>t σ H fun xs H1=>xs.length≤sizeLine∧∀ p,H1 p=none→Q (.ref p) (upd H1 p (.tup xs))
def Ju (t:TA):TE:=fun σ H Q=>t σ H fun xs H1=>xs.length≤sizeLine∧∀ p,H1 p=none→Q (.ref p) (upd H1 p (.lst xs))
theorem qQ {x1} (h:PA X es t):PE X (.Tuple es x1 pos) (Ji t):=by
 intro pins s σ H Q I hq;refine wpAny_Tuple_spliced (thn (h pos pins s σ H _ I hq) fun us s1 ⟨xs,H1,I1,r,z,q⟩=>⟨by rw [← r.length];exact z,?_⟩)
 have hf:H1 s1.heap.objs.size=none:=I1.hok.fresh (Ag _);refine ⟨.ref s1.heap.objs.size,upd H1 s1.heap.objs.size (.tup xs),I1.laid (t':=s1.toks) (fun b u e=>Aj _ e) (Ag _) ?_,rfl,q _ hf⟩;exact ⟨z,us,r,⟨_,A6 _ rfl,rfl,_,rfl⟩⟩
theorem zg (h:PA X es t):PE X (.List es pos) (Ju t):=by
 intro pins s σ H Q I hq;refine wpAny_List_spliced (thn (h pos pins s σ H _ I hq) fun us s1 ⟨xs,H1,I1,r,z,q⟩=>⟨by rw [← r.length];exact z,?_⟩)
 have hf:H1 s1.heap.objs.size=none:=I1.hok.fresh (Ag _);refine ⟨.ref s1.heap.objs.size,upd H1 s1.heap.objs.size (.lst xs),I1.laid (t':=s1.toks) (fun b u e=>Aj _ e) (Ag _) ?_,rfl,q _ hf⟩;exact ⟨z,us,0,r,A6 _ rfl⟩
end
abbrev Sp:=List V→Hp→VK→XK→Prop
abbrev CXT:=List Env→Hp→Shared→XK→Value→Shared→Prop
structure Env0 (P:Program) (w:World) (K:Frag) (mg:Str→Option Value) (base:Heap) (A:Around) (outer:List Env) (s:Shared) (H:Hp):Prop where
 frames:A.frames=some outer
 mod:Mod K mg base
 bs:∀ b o,base.get? b=some o→s.heap.get? b=some o∧H b=none
 bsz:base.objs.size≤s.heap.objs.size
 funs:s.heap.FunFrames base outer
 frf:∀ b∈frs outer,H b=none
 hok:HOk P w H s.heap
 bare:AllBare s.gens
def CE (outer:List Env) (P:Program) (w:World) (H:Hp) (s:Shared) (Q:VK) (u:Value) (s':Shared):Prop:=
 ∃ v H',s'.os=s.os∧AllBare s'.gens∧Un (frs outer) [] H H' s.heap s'.heap∧HOk P w H' s'.heap∧qN v u∧Q v H'
def CR (CX:CXT) (outer:List Env) (P:Program) (w:World) (H:Hp) (s:Shared) (Q:VK) (E:XK) (r:Result) (s':Shared):Prop:=
 match r with
 | .ok (.ret u)=>CE outer P w H s Q u s'
 | .ok _=>False
 | .error e=>CX outer H s E e s'
structure FnOk (P:Program) (w:World) (K:Frag) (mg:Str→Option Value) (base:Heap) (CX:CXT) (k:Nat) (f:Addr) (fd:FuncData) (ps:List Str) (sp:Sp):Prop where
 len:∀ vs H Q E,sp vs H Q E→vs.length=ps.length
 run:∀ (A:Around) (outer:List Env) (s:Shared) (H:Hp) (args:Args) (us:List Value) (vs:List V) (Q:VK) (E:XK),Room k A→Env0 P w K mg base A outer s H→BindsTo s fd args (ps.zip us)→qM vs us→sp vs H Q E→
  codeAny (model P w) A (.call (.ref f) args) (CR CX outer P w H s Q E) s
theorem FnOk.mono {P:Program} {w:World} {K:Frag} {mg:Str→Option Value} {base:Heap} {CX:CXT} {j k:Nat} {f:Addr} {fd:FuncData} {ps:List Str} {sp:Sp} (F:FnOk P w K mg base CX j f fd ps sp) (h:j≤k):
  FnOk P w K mg base CX k f fd ps sp:=⟨F.len,fun A outer s H args us vs Q E hr=>F.run A outer s H args us vs Q E (hr.mono h)⟩
theorem Env0.make {P:Program} {w:World} {K:Frag} {mg:Str→Option Value} {base:Heap} {A:Around} {outer:List Env} {s:Shared} {H:Hp} (e:Env0 P w K mg base A outer s H) (C:Addr) (us:List Value) (kw:List (Str×Value)):
  Env0 P w K mg base (A.under (.builtin "type.__call__" ⟨.ref C::us,kw⟩)) outer s H:=⟨by first | exact e.frames | (simpa [Around.under,Code.envs,Code.isFrame,pushEnvs] using e.frames),e.mod,e.bs,e.bsz,e.funs,e.frf,e.hok,e.bare⟩
section
variable {X:Cx} {pins:List (Addr×Obj)} {σ:St} {H:Hp} {s s':Shared}
theorem Inv.env0 (I:Inv X pins σ H s):Env0 X.prog X.w X.K X.mg X.base X.A X.stack s H:=
 ⟨I.ok.frames,I.ok.mod,I.bs,A0 I.ok.bsz I.sz,I.stack,I.stkFree,I.hok,I.bare⟩
theorem Inv.after {Q:VK} {u:Value} (I:Inv X pins σ H s) (h:CE X.stack X.prog X.w H s Q u s'):EP X pins σ Q u s':=by
 obtain ⟨v,H',os,bare,un,hok,r,q⟩:=h;obtain ⟨hh,g,d,t,os'⟩:=s';obtain rfl:os'=s.os:=os;exact ⟨v,H',I.call (h':=hh) (g':=g) (d':=d) (t':=t) (ch:=[]) un hok bare (fun b z=>absurd z (by simp)),r,q⟩
end
def qG (sp:Sp) (dvs:List V) (E:XK) (t:TA):TE:=fun σ H Q=>t σ H fun vs H1=>sp (vs++dvs) H1 Q E
def qfh (C:Addr) (m:Str) (sp:Sp) (dvs:List V) (E:XK) (ta:TE) (t:TA):TE:=fun σ H Q=>ta σ H fun x H1=>∃ a dx fs,x= .ref a∧H1 a=some (.ins C dx fs)∧fs.lookup m=none∧
 t σ H1 fun vs H2=>sp (x::(vs++dvs)) H2 Q E
def qfi (C:Addr) (sp:Sp) (dvs:List V) (E:XK) (t:TA):TE:=fun σ H Q=>t σ H fun vs H1=>∀ x dx,H1 x=none→H1 dx=none→dx≠x→
 sp (.ref x::(vs++dvs)) (upd (upd H1 dx (.own x)) x (.ins C dx [])) (fun v H2=>v= .non∧Q (.ref x) H2) E
def vO (K:Frag) (fd:FuncData) (ps:List Str) (ds:List Value):Prop:=
 ∀ (s:Shared) (us:List Value),K.In s.heap→(us++ds).length=ps.length→BindsTo s fd ⟨us,[]⟩ (ps.zip (us++ds))
theorem vO.all {K:Frag} {fd:FuncData} {ps:List Str} (h:∀ us:List Value,us.length=ps.length→bindArgs fd ⟨us,[]⟩=pure (ps.zip us)):vO K fd ps []:=fun s us _ hl=>by
 rw [An] at hl ⊢;exact .of_eq (h us hl)
def WF (CX:CXT) (X:Cx) (E:XK):Prop:=∀ (pins:List (Addr×Obj)) (σ:St) (H:Hp) (s:Shared) (e:Value) (s':Shared),Inv X pins σ H s→CX X.stack H s E e s'→X.xe e s'
section
variable {X:Cx} {CX:CXT} {k:Nat} {f C:Addr} {fd:FuncData} {ps:List Str} {sp:Sp} {dvs:List V} {ds:List Value} {E:XK} {x m:Str} {p pos apos:Pos} {e o:Expr} {es:List Expr} {ta:TE} {t:TA}
theorem qf2 {pins:List (Addr×Obj)} {σ:St} {H:Hp} {s:Shared} {Q:VK} {us:List Value} {vs:List V} (F:FnOk X.prog X.w X.K X.mg X.base CX k f fd ps sp) (hr:Room k X.A) (hb:vO X.K fd ps ds) (hd:qM dvs ds) (hx:WF CX X E)
  (I:Inv X pins σ H s) (r:qM vs us) (h:sp (vs++dvs) H Q E):wpAny (model X.prog X.w) X.A (call (.ref f) us) (EP X pins σ Q) X.xe s:=by
 have r2:qM (vs++dvs) (us++ds):=r.append hd;have hl:(us++ds).length=ps.length:=by rw [← r2.length];exact F.len _ _ _ _ h
 refine wpAny_call (Er (F.run X.A X.stack s H ⟨us,[]⟩ (us++ds) (vs++dvs) Q E hr I.env0 (hb s us I.kIn hl) r2 h) fun r s' hq=>?_);cases r with
 | error e=>exact hx pins σ H s e s' I hq
 | ok fl=>
  cases fl with
  | ret u=>exact I.after hq
  | next=>exact False.elim hq
  | brk=>exact False.elim hq
  | cont=>exact False.elim hq
theorem qii (F:FnOk X.prog X.w X.K X.mg X.base CX k f fd ps sp) (hr:Room k X.A) (hg:Gl X x) (hm:X.mg x=some (.ref f)) (hk:PySem.W.keepIn X.K (.ref f)=true) (hb:vO X.K fd ps ds) (hd:qM dvs ds) (hx:WF CX X E)
  (ha:PA X (e::es) t) (hdb:(x==("__debug__":Str))=false:=by decide) (he:starEach (e::es) X.env=(false,eval e X.env)::starEach es X.env:=by rfl) (hpl:(backTo pos (starEach es X.env)).any (·.1)=false:=by rfl):
  PE X (.Call (.Name x p) (e::es) [] pos) (qG sp dvs E t):=by
 intro pins s σ H Q I h;refine Ec (wo I hg hm ?_ hdb);refine PySem.W.callWith_K (h₀:=X.base) I.ok.mod.kin hk (thn (ha pos pins s σ H _ I h) fun us s1 ⟨vs,H1,I1,r,q⟩=>⟨I1.kIn,?_⟩) he hpl;exact qf2 F hr hb hd hx I1 r q
theorem qgg {pl:Sem Bool} (he:PE X o ta) (c:Cls X.K C) (hm:Meth X.K C m f) (F:FnOk X.prog X.w X.K X.mg X.base CX k f fd ps sp) (hr:Room k X.A) (hb:vO X.K fd ps ds) (hd:qM dvs ds) (hx:WF CX X E)
  (ht:eval (.Call (.Attribute o m apos) [] [] pos) X.env=(do
   let ov ← eval o X.env
   standAt apos.atName
   let (f,first) ← holding [ov] (getMethod ov m pl)
   callWith pos f first (backTo pos (starEach [] X.env)) (backToKw pos (keywordEach [] X.env))):=by rfl):
  PE X (.Call (.Attribute o m apos) [] [] pos) (qfh C m sp dvs E ta qp):=by
 intro pins s σ H Q I h;refine PySem.W.methodCall_KW (pl:=pl) (thn (he pins s σ H _ I h) fun u s1 ⟨x,H1,I1,rx,a,dx,fs,ex,ea,l,q⟩=>?_) ht;subst ex;obtain rfl:u=Value.ref a:=rx;refine qbx I1 ea c hm l ?_;exact PySem.W.callWith_K0 (first:=[.ref a]) I1.kIn hm.kp (qf2 (us:=[.ref a]) (vs:=[.ref a]) F hr hb hd hx I1 (.cons rfl .nil) q)
structure Mk (K:Frag) (C f:Addr):Prop where
 makes:PySem.W.makesIn K C=true
 init:PySem.W.findIn K (.ref C) "__init__"=some (some (.ref f))
 fn:PySem.W.isFn K (.ref f)=true
 kp:PySem.W.keepIn K (.ref C)=true
theorem qf1 {pins:List (Addr×Obj)} {σ:St} {H:Hp} {s:Shared} {Q:VK} {us:List Value} {vs:List V} (M:Mk X.K C f) (F:FnOk X.prog X.w X.K X.mg X.base CX k f fd ps sp) (hr:Room (k+1) X.A) (hb:vO X.K fd ps ds) (hd:qM dvs ds)
  (hx:WF CX X E) (I:Inv X pins σ H s) (r:qM vs us)
  (h:∀ x dx,H x=none→H dx=none→dx≠x→sp (.ref x::(vs++dvs)) (upd (upd H dx (.own x)) x (.ins C dx [])) (fun v H2=>v= .non∧Q (.ref x) H2) E):
  wpAny (model X.prog X.w) X.A (call (.ref C) us) (EP X pins σ Q) X.xe s:=by
 have hq:=h (s.heap.objs.size+1) s.heap.objs.size (I.hok.fresh (Ef _)) (I.hok.fresh (Ag _)) (Bn (Dn _));have I2:=Inv.made (C:=C) I;have r2:qM (V.ref (s.heap.objs.size+1)::(vs++dvs)) (Value.ref (s.heap.objs.size+1)::(us++ds)):= .cons rfl (r.append hd);have hl:(Value.ref (s.heap.objs.size+1)::us++ds).length=ps.length:=by
  have e:=r2.length;rw [F.len _ _ _ _ hq] at e;exact e.symm
 refine wpAny_call (qgq (f:=f) I.kIn M.makes M.init (A4.mp M.fn) (Er (F.run _ X.stack _ _ ⟨Value.ref (s.heap.objs.size+1)::us,[]⟩ (Value.ref (s.heap.objs.size+1)::(us++ds)) _ _ E (hr.make C us [])
  (I2.env0.make C us []) (hb _ (Value.ref (s.heap.objs.size+1)::us) I2.kIn hl) r2 hq) fun r s' hq'=>?_))
 cases r with
 | error e=>exact hx pins σ _ _ e s' I2 hq'
 | ok fl=>
  cases fl with
  | ret u=>
   obtain ⟨v,H',I3,rv,ev,q3⟩:=I2.after hq';subst ev;exact ⟨rv,⟨V.ref (s.heap.objs.size+1),H',I3,rfl,q3⟩⟩
  | next=>exact False.elim hq'
  | brk=>exact False.elim hq'
  | cont=>exact False.elim hq'
theorem qig (M:Mk X.K C f) (F:FnOk X.prog X.w X.K X.mg X.base CX k f fd ps sp) (hr:Room (k+1) X.A) (hg:Gl X x) (hm:X.mg x=some (.ref C)) (hb:vO X.K fd ps ds) (hd:qM dvs ds) (hx:WF CX X E)
  (ha:PA X (e::es) t) (hdb:(x==("__debug__":Str))=false:=by decide) (he:starEach (e::es) X.env=(false,eval e X.env)::starEach es X.env:=by rfl) (hpl:(backTo pos (starEach es X.env)).any (·.1)=false:=by rfl):
  PE X (.Call (.Name x p) (e::es) [] pos) (qfi C sp dvs E t):=by
 intro pins s σ H Q I h;refine Ec (wo I hg hm ?_ hdb);refine PySem.W.callWith_K (h₀:=X.base) I.ok.mod.kin M.kp (thn (ha pos pins s σ H _ I h) fun us s1 ⟨vs,H1,I1,r,q⟩=>⟨I1.kIn,?_⟩) he hpl;exact qf1 M F hr hb hd hx I1 r q
end
section
variable {X:Cx} {CX:CXT} {k:Nat} {f C:Addr} {fd:FuncData} {ps ks:List Str} {sp:Sp} {E:XK} {x m:Str} {p pos apos kpos:Pos} {e o:Expr} {es:List Expr} {kws:List Keyword} {te ta:TE} {t tk:TA} {nm:Option Str}
variable {g:List Value→List Value→List Value} {gV:List V→List V→List V}
end
structure FnScope (N P:List Str) (sc:Scope):Prop where
 kind:sc.kind= .function
 co:sc.isCoroutine=false
 gen:sc.isGenerator=false
 nd:N.Nodup
 pre:N.take P.length=P
 par:∀ x∈P,sc.names.lookup x=some .local∨sc.names.lookup x=some .cell
 nofree:∀ y∈sc.names,y.2≠ .free
theorem X5 {kindOf:Str→Option NameKind} {x:Str}:∀ {binds:List (Str×Value)} {m:Str→Option Value},(∀ v,(x,v)∉binds)→bindL kindOf binds m x=m x
 | [],_,_=>rfl
 | (n,v)::r,m,h=>by
  unfold bindL;rw [X5 fun w hw=>h w (A9 _ hw)];split
  ·have:x≠n:=by rintro rfl;exact h v A5
   simp [this]
  ·rfl
theorem X7 {kindOf:Str→Option NameKind} {x:Str}:∀ {binds:List (Str×Value)} {m:Str→Option Value},(∀ v,(x,v)∉binds)→bindC kindOf binds m x=m x
 | [],_,_=>rfl
 | (n,v)::r,m,h=>by
  unfold bindC;rw [X7 fun w hw=>h w (A9 _ hw)];split
  ·rfl
  ·have:x≠n:=by rintro rfl;exact h v A5
   simp [this]
theorem X6 {kindOf:Str→Option NameKind} {x:Str} {v:Value}:∀ {P:List Str} {vs:List Value} {i:Nat} {m:Str→Option Value},P.Nodup→P[i]?=some x→vs[i]?=some v→kindOf x=some .local→
  bindL kindOf (P.zip vs) m x=some v
 | [],_,_,_,_,h,_,_=>by simp at h
 | _::_,[],_,_,_,_,h,_=>by simp at h
 | p::P,w::vs,0,m,nd,h1,h2,hk=>by
  simp at h1 h2;subst h1;subst h2;show bindL kindOf ((p,w)::P.zip vs) m p=_;unfold bindL;rw [X5 fun v hv=>(C7.mp nd).1 (Dg hv).1,if_pos hk];simp
 | p::P,w::vs,i+1,m,nd,h1,h2,hk=>by
  show bindL kindOf ((p,w)::P.zip vs) m x=_;unfold bindL;exact X6 (i:=i) (C7.mp nd).2 (by simpa using h1) (by simpa using h2) hk
theorem X8 {kindOf:Str→Option NameKind} {x:Str} {v:Value}:∀ {P:List Str} {vs:List Value} {i:Nat} {m:Str→Option Value},P.Nodup→P[i]?=some x→vs[i]?=some v→kindOf x≠some .local→
  bindC kindOf (P.zip vs) m x=some v
 | [],_,_,_,_,h,_,_=>by simp at h
 | _::_,[],_,_,_,_,h,_=>by simp at h
 | p::P,w::vs,0,m,nd,h1,h2,hk=>by
  simp at h1 h2;subst h1;subst h2;show bindC kindOf ((p,w)::P.zip vs) m p=_;unfold bindC;rw [X7 fun v hv=>(C7.mp nd).1 (Dg hv).1,if_neg hk];simp
 | p::P,w::vs,i+1,m,nd,h1,h2,hk=>by
  show bindC kindOf ((p,w)::P.zip vs) m x=_;unfold bindC;exact X8 (i:=i) (C7.mp nd).2 (by simpa using h1) (by simpa using h2) hk
def JR (N:List Str) (vs:List V):St:=vs.map some++List.replicate (N.length - vs.length) none
def Y5 (CX:CXT) (P:Program) (w:World) (K:Frag) (mg:Str→Option Value) (base:Heap) (N:List Str) (qual:Str) (scope:Scope) (f:Addr) (cd:Value) (A:Around) (outer:List Env) (s:Shared) (H:Hp) (E:XK):Cx where
 prog:=P
 w:=w
 K:=K
 mg:=mg
 base:=base
 A:=A.deeper (envOfC qual scope s.heap.objs.size f cd)
 N:=N
 s₀:=s
 H₀:=H
 env:=envOfC qual scope s.heap.objs.size f cd
 outer:=outer
 stack:=envOfC qual scope s.heap.objs.size f cd::outer
 ex:=[]
 calm:=true
 fn:=fun _=>true
 pn:=[]
 xe:=fun e s'=>wpAny (model P w) (A.deeper (envOfC qual scope s.heap.objs.size f cd)) (leaving (envOfC qual scope s.heap.objs.size f cd) e) (fun _ s''=>CX outer H s E e s'') (fun e' s''=>CX outer H s E e' s'') s'
theorem Q8 {sc:Scope} {n:Nat} {x:Str} (h:sc.names.lookup x=some .cell):∃ c,(cellsFrom n sc.names []).lookup x=some c:=by
 have q:=PySem.W.cellsFrom_some sc.names n [] (.inl h);exact Option.isSome_iff_exists.mp q
theorem XX {CX:CXT} {P:Program} {w:World} {K:Frag} {mg:Str→Option Value} {base:Heap} {N ps:List Str} {qual:Str} {scope:Scope} {f:Addr} {cd:Value} {A:Around} {outer:List Env} {s s1:Shared} {H:Hp} {E:XK} {us:List Value} {vs:List V}
  (S:FnScope N ps scope) (hd:A.handled=none) (e0:Env0 P w K mg base A outer s H) (hl:vs.length=ps.length) (r:qM vs us)
  (x:InCallC s s.heap.objs.size (bindL (envOfC qual scope s.heap.objs.size f cd).kindOf (ps.zip us) fun _=>none) (cellsFrom (s.heap.objs.size+1) scope.names []) (bindC (envOfC qual scope s.heap.objs.size f cd).kindOf (ps.zip us) fun _=>none) s1):
  Inv (Y5 CX P w K mg base N qual scope f cd A outer s H E) [] (JR N vs) H s1:=by
 have hpl:ps.length≤N.length:=by have:=congrArg List.length S.pre;rw [Cu] at this;omega
 obtain ⟨h1,tk,rfl,hk⟩:=x.done;have noA:∀ b:Addr,b∉(Y5 CX P w K mg base N qual scope f cd A outer s H E).ex:=fun b z=>absurd (show b∈([]:List Addr) from z) (by simp)
 refine ⟨⟨e0.mod,S.kind,rfl,rfl,Ag _,fun y z c h1 h2=>?_,fun y hy=>?_,fun y c _ h=>?_,fun _=>hd,Around.frames_deeper e0.frames,.inr ⟨rfl,rfl⟩,fun b z=>absurd z (noA b),e0.bs,e0.bsz,fun b _ _=>noA b,fun b z=>absurd z (noA b),e0.funs,e0.frf⟩,
  rfl,e0.bare,Un.kept hk,⟨_,x.toInCall.ns,fun i y v h1 h2 h3=>?_⟩,fun y c h=>⟨_,x.cell y c h⟩,e0.hok.fresh (Ag _),fun y c h=>?_,fun p hp=>absurd (show p∈([]:List (Addr×Obj)) from hp) (by simp),e0.hok.kept hk,?_⟩
 ·exact name_of_addr x.apart (Bq h1) (Bq h2)
 ·have hy:scope.names.lookup y=some .cell∨scope.names.lookup y=some .free:=hy;rcases hy with hy | hy
  ·exact Q8 hy
  ·exact absurd rfl (S.nofree _ (Bq hy))
 ·exact Nat.le_of_lt (x.above y c (Bq h))
 ·have hi:i<vs.length:=by
   unfold JR at h2
   by_cases hi:i<vs.length
   ·exact hi
   ·rw [Bl (by simpa using hi)] at h2
    rw [List.getElem?_replicate] at h2;split at h2 <;> cases h2
  have ha:vs[i]?=some v:=by
   unfold JR at h2;rw [Bp (by simpa using hi),Ar] at h2
   cases e:vs[i]? with
   | none=>rw [e] at h2;cases h2
   | some a=>rw [e] at h2;cases h2;rfl
  obtain ⟨u,hu,rv⟩:=r.get ha;have hp:ps[i]?=some y:=by
   rw [← S.pre,List.getElem?_take_of_lt ⋯];exact h1
  have ndP:ps.Nodup:=by rw [← S.pre];exact S.nd.sublist (List.take_sublist _ _)
  refine ⟨u,rv,?_⟩;rcases S.par y (Ay hp) with k | k
  ·exact .inl ⟨k,X6 ndP hp hu k⟩
  ·obtain ⟨c,e⟩:=Q8 (n:=s.heap.objs.size+1) k;refine .inr ⟨.inl k,c,e,?_⟩;have q:=x.cell y c e;rw [X8 ndP hp hu (by show scope.names.lookup y≠_;rw [k];decide)] at q
   exact q
 ·exact e0.hok.fresh (Nat.le_of_lt (x.above y c (Bq h)))
 ·unfold JR;show _=N.length;rw [Ac,Ab,List.length_replicate];omega
theorem qmy {CX:CXT} {P:Program} {w:World} {K:Frag} {mg:Str→Option Value} {base:Heap} {k:Nat} {f:Addr} {name qual:Str} {params:Arguments} {body:List Stmt} {scope:Scope} {dV kV doc pm cdv ct oc:Value} {an od:Option Addr}
  {osl:Array (Option Value)} {N ps:List Str} {sp:Sp} (lk:K.lookup f=some ⟨oc,od,.func (PySem.W.fnOf name qual params body scope dV kV doc pm an cdv ct),osl⟩) (hcd:PySem.W.codeIn K cdv qual=true) (S:FnScope N ps scope)
  (len:∀ vs H Q E,sp vs H Q E→vs.length=ps.length)
  (hbody:∀ (A:Around) (outer:List Env) (s:Shared) (H:Hp) (vs:List V) (Q:VK) (E:XK),Room k (A.deeper (envOfC qual scope s.heap.objs.size f cdv))→sp vs H Q E→
   ∃ t,PSs (Y5 CX P w K mg base N qual scope f cdv A outer s H E) body t∧t {nx:=fun _ H'=>Q .non H',rt:=Q} (JR N vs) H):
  FnOk P w K mg base CX (k+1) f (PySem.W.fnOf name qual params body scope dV kV doc pm an cdv ct) ps sp:=by
 refine ⟨len,fun A outer s H args us vs Q E hr e0 hb r hsp=>?_⟩;have hl:=len _ _ _ _ hsp;have KX:K.In s.heap:=e0.mod.kin.keeps fun b o e=>(e0.bs b o e).1;have lim:s.heap.NoLimit:=e0.mod.nolimit.keeps fun b o e=>(e0.bs b o e).1;have hkind:∀ y∈ps.zip us,scope.names.lookup y.1=some .local∨(scope.names.lookup y.1=some .cell∧((cellsFrom (s.heap.objs.size+1) scope.names []).lookup y.1).isSome=true):=fun ⟨n,v⟩ hy=>by
  rcases S.par n (Dg hy).1 with q | q
  ·exact .inl q
  ·exact .inr ⟨q,PySem.W.cellsFrom_some _ _ _ (.inl q)⟩
 refine codeAny_call_function hr.depth (KX _ _ lk) rfl S.co S.gen rfl (PySem.W.codeRec_of KX hcd) (hb _ _ _ _ ?_);refine wpAny_newFunctionEnv_cells S.kind hkind fun env he s1 x=>?_;subst he;refine ⟨lim.keeps x.toInCall.keep,codeAny_func ?_⟩;obtain ⟨t,ht,hq⟩:=hbody A outer s H vs Q E (hr.deeper _) hsp;have I:Inv (Y5 CX P w K mg base N qual scope f cdv A outer s H E) [] (JR N vs) H s1:=XX S hr.hd e0 hl r x;refine Ed (ht [] s1 (JR N vs) H _ I hq) (fun fl s' hs=>?_) fun e s' hs=>hs;have fin:∀ {σ':St} {H':Hp} {v:V} {u:Value},Inv (Y5 CX P w K mg base N qual scope f cdv A outer s H E) [] σ' H' s'→qN v u→Q v H'→CE outer P w H s Q u s':=
  fun {σ' H' v u} J rv q=>⟨v,H',J.os,J.bare,J.base,J.hok,rv,q⟩
 cases fl with
 | ret u=>
  obtain ⟨v,σ',H',J,rv,q⟩:=hs;exact fin J rv q
 | next=>
  obtain ⟨σ',H',J,q⟩:=hs;exact fin (v:=V.non) (u:=Value.none) J rfl q
 | brk=>
  obtain ⟨_,_,_,q⟩:=hs;exact False.elim q
 | cont=>
  obtain ⟨_,_,_,q⟩:=hs;exact False.elim q
section
variable {X:Cx} {x:Str} {p pos:Pos} {e:Expr} {es:List Expr} {t:TA} {id T:String} {r:List V→Hp→VK→Prop}
def tCB (r:List V→Hp→VK→Prop) (t:TA):TE:=fun σ H Q=>t σ H fun vs H1=>r vs H1 Q
theorem qx (hc:Jt X (.builtin id) r) (hg:Gl X x) (hm:X.mg x=none) (hv:bootBuiltins x=some (.builtin id)) (ha:PA X (e::es) t) (hn:x≠"__name__":=by decide) (hdb:(x==("__debug__":Str))=false:=by decide)
  (he:starEach (e::es) X.env=(false,eval e X.env)::starEach es X.env:=by rfl) (hpl:(backTo pos (starEach es X.env)).any (·.1)=false:=by rfl):PE X (.Call (.Name x p) (e::es) [] pos) (tCB r t):=by
 intro pins s σ H Q I h;refine Ec (J9 I hg hm hv ?_ hn hdb);exact PyProof.Rows.callWith_builtin1 (thn (ha pos pins s σ H _ I h) fun us s1 ⟨vs,H1,I1,r1,q1⟩=>hc pins s1 σ H1 vs us Q I1 r1 q1) he hpl
theorem qW (hc:Jt X (.type T) r) (hg:Gl X x) (hm:X.mg x=none) (hv:bootBuiltins x=some (.type T)) (ha:PA X (e::es) t) (hn:x≠"__name__":=by decide) (hdb:(x==("__debug__":Str))=false:=by decide)
  (he:starEach (e::es) X.env=(false,eval e X.env)::starEach es X.env:=by rfl) (hpl:(backTo pos (starEach es X.env)).any (·.1)=false:=by rfl):PE X (.Call (.Name x p) (e::es) [] pos) (tCB r t):=by
 intro pins s σ H Q I h;refine Ec (J9 I hg hm hv ?_ hn hdb);exact Cc (thn (ha pos pins s σ H _ I h) fun us s1 ⟨vs,H1,I1,r1,q1⟩=>hc pins s1 σ H1 vs us Q I1 r1 q1) he hpl
end
end L2
namespace HT
open PySem PyProof.Rows
section
open PySem.SeqAt
open PySem.AutoSeq1 (wpAny_loadPart')
open PySem.MeetsSeq PySem.MeetsSeq2 PySem.MeetsSeq3
end
section
variable {prog:Program} {w:World} {A:Around} {E:Value→Shared→Prop} {s:Shared}
def sIx (n d:Nat):Option Int→Nat
 | none=>d
 | some v=>if v<0 then (v+(n:Int)).toNat else min v.toNat n
theorem sIx_none (n d:Nat):sIx n d none=d:=rfl
theorem sIx_nat (n d k:Nat):sIx n d (some (k:Int))=min k n:=by
 show (if (k:Int)<0 then ((k:Int)+(n:Int)).toNat else min (k:Int).toNat n)=min k n
 rw [if_neg ⋯,Int.toNat_natCast]
theorem qj7 (n d:Nat) (hd:d≤n) (o:Option Int):sIx n d o≤n:=by
 cases o with
 | none=>exact hd
 | some v=>
  show (if v<0 then (v+(n:Int)).toNat else min v.toNat n)≤n
  by_cases hv:v<0
  ·rw [if_pos hv];omega
  ·rw [if_neg hv];exact Nat.min_le_right _ _
theorem qdh (v:Int) (n d:Nat):(if v<0 then max (v+(n:Int)) 0 else min v (n:Int))=((sIx n d (some v):Nat):Int):=by
 show (if v<0 then max (v+(n:Int)) 0 else min v (n:Int))=(((if v<0 then (v+(n:Int)).toNat else min v.toNat n):Nat):Int)
 by_cases hv:v<0
 ·simp only [if_pos hv];omega
 ·simp only [if_neg hv];omega
theorem qb2 (lo hi:Option Int) (n:Nat):Builtin.Slice.sliceAdjust lo hi 1 (n:Int)=(((sIx n 0 lo:Nat):Int),((sIx n n hi:Nat):Int)):=by
 have h1:¬ ((1:Int)<0):=⋯;unfold Builtin.Slice.sliceAdjust;simp only [h1,if_false];refine Prod.ext ?_ ?_
 ·cases lo with
  | none=>rfl
  | some v=>exact qdh v n 0
 ·cases hi with
  | none=>rfl
  | some v=>exact qdh v n n
theorem qbg (i j:Nat):Builtin.Slice.slicePlaces (i:Int) (j:Int) 1=j - i:=by
 unfold Builtin.Slice.slicePlaces;have h1:(1:Int)>0:=⋯;simp only [h1,if_true,Int.ediv_one];split <;> omega
theorem yR {v:Value} {o:Option Int} {Q:Option Int→Shared→Prop} (p:IsPart v o) (h:Q o s):wpAny (model prog w) A (Builtin.Slice.slicePartIndex v) Q E s:=by
 cases p with
 | none=>exact slicePart_none h
 | int i t=>exact slicePart_int h
theorem wH {sl:Addr} {vl vu:Value} {lo hi:Option Int} {n:Nat} {Q:Int×Int×Nat→Shared→Prop} (hs:s.heap.IsSliceOf sl vl vu .none) (pl:IsPart vl lo) (pu:IsPart vu hi)
  (h:Q (((sIx n 0 lo:Nat):Int),1,sIx n n hi - sIx n 0 lo) s):wpAny (model prog w) A (Builtin.Slice.sliceApplied (.ref sl) (pure (n:Int))) Q E s:=by
 obtain ⟨os,hos,hcs,hds⟩:=id hs;unfold Builtin.Slice.sliceApplied Builtin.Slice.sliceFields;refine Aa (Aa (B5 hos hds (x:=vl) rfl (Aa (B5 hos hds (x:=vu) rfl (Aa (B5 hos hds (x:= .none) rfl (Aq ?_)))))));refine Aa (slicePart_none ?_);show wpAny _ _ (if ((1:Int)==0)=true then _ else _) _ _ s
 rw [if_neg O0];refine Aa (yR pl (Aa (yR pu (Aa (Aq ?_)))));show wpAny _ _ (match Builtin.Slice.sliceAdjust lo hi 1 (n:Int) with | (lo,hi)=>pure (lo,(1:Int),Builtin.Slice.slicePlaces lo hi 1)) _ _ s
 rw [qb2 lo hi n];show wpAny _ _ (pure (((sIx n 0 lo:Nat):Int),(1:Int),Builtin.Slice.slicePlaces ((sIx n 0 lo:Nat):Int) ((sIx n n hi:Nat):Int) 1)) _ _ s;rw [qbg];exact Aq h
theorem qge (xs:Array Value) (i k:Nat):((List.range k).filterMap fun (m:Nat)=>xs[((i:Int)+(m:Int)*1).toNat]?).toArray=((xs.toList.drop i).take k).toArray:=by
 have e:(fun (m:Nat)=>xs[((i:Int)+(m:Int)*1).toNat]?)=fun m=>xs[i+m]?:=by
  funext m;have:((i:Int)+(m:Int)*1).toNat=i+m:=⋯;rw [this]
 rw [e];have:=pick_run xs i k;rw [List.filterMap_map] at this;have e2:((fun x=>xs[x]?) ∘ fun x=>i+x)=fun m=>xs[i+m]?:=rfl;rw [e2] at this;rw [this]
theorem getItem_tuple_cut {t sl:Addr} {qu:Array Value} {vl vu:Value} {lo hi:Option Int} {Q:Value→Shared→Prop} (ht:IsTup s.heap t qu) (hs:s.heap.IsSliceOf sl vl vu .none) (pl:IsPart vl lo) (pu:IsPart vu hi)
  (hw:¬ (sIx qu.size 0 lo=0∧sIx qu.size qu.size hi=qu.size))
  (h:Q (.ref s.heap.objs.size) {s with heap:=s.heap.push {cls:= .type "tuple",data:= .seq ((qu.toList.drop (sIx qu.size 0 lo)).take (sIx qu.size qu.size hi - sIx qu.size 0 lo)).toArray}})
  (hsz:qu.size≤sizeLine):wpAny (model prog w) A (getItem (.ref t) (.ref sl)) Q E s:=by
 have htake:sizeOk (.seq ((qu.toList.drop (sIx qu.size 0 lo)).take (sIx qu.size qu.size hi - sIx qu.size 0 lo)).toArray):=by
  show ((qu.toList.drop (sIx qu.size 0 lo)).take (sIx qu.size qu.size hi - sIx qu.size 0 lo)).toArray.size≤sizeLine;rw [Aw,Cu,List.length_drop,Dm];omega
 have hj:sIx qu.size qu.size hi≤qu.size:=qj7 _ _ (Ag _) hi;obtain ⟨os,hos,hcs,hds⟩:=id hs;have hTs:s.TypeIs (.ref sl) "slice":=⟨os,hos,hcs⟩;unfold getItem
 try with_reducible refine Dl ?_
 first | refine Aa (Aq ?_) | skip
 refine Aa (wpAny_sequenceKey ht.typeIs O0 ?_);refine Aa (Cr (name:=Str.ofString "__getitem__") ht.typeIs PyProof.Rows.slot_tuple_getitem
  (Co PyProof.Rows.slot_tuple_getitem ht.typeIs entry_tuple_getitem ?_ (args_tuple_getitem _ _)))
 show wpAny _ _ (Builtin.Tuple.tupleItemsOf (.ref t)>>=_) _ _ s;refine Aa (tupleItemsOf_ ht ?_);refine Aa (wpAny_typeOf hTs ?_);rw [if_pos O0];refine Aa (wH hs pl pu ?_);have hno:¬ ((((sIx qu.size 0 lo:Nat):Int)==0&&(1:Int)==1&&(sIx qu.size qu.size hi - sIx qu.size 0 lo)==qu.size)=true):=by
  intro q;rw [Ae,Ae] at q;have q1:((sIx qu.size 0 lo:Nat):Int)=0:=eq_of_beq q.1.1;have q2:sIx qu.size qu.size hi - sIx qu.size 0 lo=qu.size:=eq_of_beq q.2;exact hw ⟨⋯,⋯⟩
 show wpAny _ _ (if (((sIx qu.size 0 lo:Nat):Int)==0&&(1:Int)==1&&(sIx qu.size qu.size hi - sIx qu.size 0 lo)==qu.size)=true then _ else _) _ _ s
 rw [if_neg hno,qge]
 first
  | exact Aa (m:=Builtin.Tuple.tupleExact _) (Cp (Aq ⟨_,rfl,Aq h⟩) htake)
  | exact Aa (m:=Builtin.Tuple.tupleExact _) (Cp (Aa (Aq (Aq ⟨_,rfl,Aq h⟩))) htake)
  | exact Aa (Aa (m:=Builtin.Tuple.tupleExact _) (Cp (Aq (Aq ⟨_,rfl,Aq h⟩)) htake))
  | exact Aa (Aa (m:=Builtin.Tuple.tupleExact _) (Cp (Aq ⟨_,rfl,Aq h⟩) htake))
end
end HT
namespace L2
open PySem PySem.Spec PyProof.Rows
abbrev TO:=St→Hp→(Option Int→Hp→Prop)→Prop
def PO (X:Cx) (e:Option Expr) (t:TO):Prop:=
 ∀ (pins:List (Addr×Obj)) (s:Shared) (σ:St) (H:Hp) (Q:Option Int→Hp→Prop),Inv X pins σ H s→t σ H Q→
  wpAny (model X.prog X.w) X.A (evalPart e X.env) (fun u s'=>∃ o H',Inv X pins σ H' s'∧IsPart u o∧Q o H') X.xe s
def wb:TO:=fun _ H Q=>Q none H
def yO (t:TE):TO:=fun σ H Q=>t σ H fun x H1=>∃ i,x= .int i∧Q (some i) H1
section
variable {X:Cx} {e:Expr} {te:TE} {lo hi:Option Expr} {tl th:TO} {pos p2:Pos}
theorem Vr:PO X none wb:=by
 intro pins s σ H Q I h;rw [evalPart_none];exact Aq ⟨none,H,I,.none,h⟩
theorem JY (h:PE X e te):PO X (some e) (yO te):=by
 intro pins s σ H Q I hw;rw [evalPart_some];refine thn (h pins s σ H _ I hw) fun u s1 ⟨x,H1,I1,r1,q1⟩=>?_;obtain ⟨i,rfl,q⟩:=q1;obtain ⟨t,rfl⟩:=r1;exact ⟨some i,H1,I1,.int i t,q⟩
def SlR (X:Cx) (r:V→Option Int→Option Int→Hp→VK→Prop):Prop:=
 ∀ (pins:List (Addr×Obj)) (s:Shared) (σ:St) (H:Hp) (x:V) (v vl vu:Value) (lo hi:Option Int) (sl:Addr) (Q:VK),Inv X pins σ H s→qN x v→s.heap.IsSliceOf sl vl vu .none→IsPart vl lo→IsPart vu hi→r x lo hi H Q→
  ∃ T id,typeLookup (.type T) "__getitem__"=pure (some (.builtin id))∧s.TypeIs v T∧wpAny (model X.prog X.w) X.A (getItem v (.ref sl)) (EP X pins σ Q) X.xe s
theorem SlR.or {r r':V→Option Int→Option Int→Hp→VK→Prop} (h:SlR X r) (h':SlR X r'):SlR X (fun x lo hi H Q=>r x lo hi H Q∨r' x lo hi H Q):=by
 intro pins s σ H x v vl vu lo hi sl Q I rx hs pl pu q;rcases q with q | q
 ·exact h pins s σ H x v vl vu lo hi sl Q I rx hs pl pu q
 ·exact h' pins s σ H x v vl vu lo hi sl Q I rx hs pl pu q
def tSl (r:V→Option Int→Option Int→Hp→VK→Prop) (te:TE) (tl th:TO):TE:=fun σ H Q=>te σ H fun x H1=>tl σ H1 fun l H2=>th σ H2 fun u H3=>r x l u H3 Q
theorem JM {r:V→Option Int→Option Int→Hp→VK→Prop} (hr:SlR X r) (he:PE X e te) (hl:PO X lo tl) (hu:PO X hi th):PE X (.Subscript e (.Slice lo hi none p2) pos) (tSl r te tl th):=by
 intro pins s σ H Q I h;refine Subscript_ (thn (he pins s σ H _ I h) fun v s1 ⟨x,H1,I1,r1,q1⟩=>?_);refine wpAny_Slice (thn (hl pins s1 σ H1 _ I1 q1) fun vl s2 ⟨l,H2,I2,pl,q2⟩=>thn (hu pins s2 σ H2 _ I2 q2) fun vu s3 ⟨u,H3,I3,pu,q3⟩=>?_);rw [evalPart_none];refine Aq ?_;have I4:Inv X pins σ H3 {s3 with heap:=s3.heap.push {cls:= .type "slice",data:= .fields #[vl,vu,.none]}}:=I3.kept (t':=s3.toks) fun b ob q=>Aj _ q
 obtain ⟨T,id,hT,ht,hg⟩:=hr pins {s3 with heap:=s3.heap.push {cls:= .type "slice",data:= .fields #[vl,vu,.none]}} σ H3 x v vl vu l u s3.heap.objs.size Q I4 r1 (Heap.IsSliceOf.new ..) pl pu q3
 show wpAny (model X.prog X.w) X.A (subscriptTail e (.Slice lo hi none p2) v (.ref s3.heap.objs.size)) (EP X pins σ Q) X.xe {s3 with heap:=s3.heap.push {cls:= .type "slice",data:= .fields #[vl,vu,.none]}}
 exact tail_any (ops:=[.ref s3.heap.objs.size,v]) ht hT hg (by with_unfolding_all rfl)
def wv (xs:List V) (lo hi:Option Int):List V:=(xs.drop (HT.sIx xs.length 0 lo)).take (HT.sIx xs.length xs.length hi - HT.sIx xs.length 0 lo)
theorem WU (xs:List V) (lo hi:Option Int):(wv xs lo hi).length≤xs.length:=by
 unfold wv;rw [Cu,List.length_drop];omega
def ql6 (K:Frag):V→Option Int→Option Int→Hp→VK→Prop:=fun x lo hi H Q=>∃ a xs,x= .ref a∧SqT K H a xs∧
 ¬ (HT.sIx xs.length 0 lo=0∧HT.sIx xs.length xs.length hi=xs.length)∧∀ p,H p=none→Q (.ref p) (upd H p (.tup (wv xs lo hi)))
theorem qj3:SlR X (ql6 X.K):=by
 intro pins s σ H x v vl vu lo hi sl Q I rx hs pl pu h;obtain ⟨a,xs,rfl,hx,hw,q⟩:=h;cases rx;obtain ⟨its,r,ht,hz⟩:=I.tuple hx;have hlen:its.toArray.size=xs.length:=by rw [Aw];exact r.length.symm
 refine ⟨"tuple",_,PyProof.Rows.slot_tuple_getitem.lookup,ht.typeIs,?_⟩;refine HT.getItem_tuple_cut ht hs pl pu (by rw [hlen];exact hw) ?_ (by rw [hlen];exact hz)
 rw [hlen];refine ⟨.ref s.heap.objs.size,_,I.laid (t':=s.toks) (o:= .tup (wv xs lo hi)) (fun b ob q=>Aj _ q) (Ag _) ?_,rfl,q _ (I.hok.fresh (Ag _))⟩;exact ⟨A0 (WU xs lo hi) hz,_,(r.drop (HT.sIx xs.length 0 lo)).take (HT.sIx xs.length xs.length hi - HT.sIx xs.length 0 lo),IsTup.new _ _⟩
end
def ixN (n:Nat) (i:Int):Option Nat:=if 0≤i then (if i<n then some i.toNat else none) else if -(n:Int)≤i then some (i+n).toNat else none
def atI {α:Type} (xs:List α) (i:Int):Option α:=(ixN xs.length i).bind fun j=>xs[j]?
theorem qcy {n:Nat} {i:Int} {j:Nat} (h:ixN n i=some j):seqIndex? i n=some j∧j<n∧ -(n:Int)≤i∧i<n:=by
 unfold ixN at h
 by_cases h0:0≤i
 ·rw [if_pos h0] at h
  by_cases h1:i<n
  ·rw [if_pos h1] at h;have e:i.toNat=j:=Bg h;exact ⟨by rw [seqIndex_of h0 h1,e],⋯,⋯,h1⟩
  ·rw [if_neg h1] at h;cases h
 ·rw [if_neg h0] at h
  by_cases h1: -(n:Int)≤i
  ·rw [if_pos h1] at h;have e:(i+n).toNat=j:=Bg h;exact ⟨by rw [seqIndex_neg ⋯ h1,e],⋯,h1,⋯⟩
  ·rw [if_neg h1] at h;cases h
theorem ZV {α:Type} {xs:List α} {i:Int} {v:α} (h:atI xs i=some v):∃ j,seqIndex? i xs.length=some j∧xs[j]?=some v∧j<xs.length∧ -(xs.length:Int)≤i∧i<xs.length:=by
 unfold atI at h;cases e:ixN xs.length i with
 | none=>rw [e] at h;cases h
 | some j=>
  rw [e] at h;obtain ⟨h1,h2,h3,h4⟩:=qcy e;exact ⟨j,h1,h,h2,h3,h4⟩
theorem qo {α:Type} {xs:List α} {j:Nat} {v:α} (h:xs[j]?=some v):atI xs (j:Int)=some v:=by
 have hj:j<xs.length:=(Be.mp h).1;have e:ixN xs.length (j:Int)=some j:=by
  unfold ixN;rw [if_pos ⋯,if_pos ⋯];simp
 unfold atI;rw [e];exact h
def qdo (b:Expr):Prop:=∀ o i,subscripted b false o i=operate [o,i] (getItem o i)
def IxR (X:Cx) (r:R2):Prop:=
 ∀ (value slice:Expr) (pins:List (Addr×Obj)) (s:Shared) (σ:St) (H:Hp) (x y:V) (v u:Value) (Q:VK),Inv X pins σ H s→qN x v→qN y u→r x y H Q→
  subscripted slice false v u=operate [v,u] (getItem v u)→wpAny (model X.prog X.w) X.A (subscriptTail value slice v u) (EP X pins σ Q) X.xe s
def MtR (X:Cx) (id:String) (r:V→List V→Hp→VK→Prop):Prop:=
 ∀ (pins:List (Addr×Obj)) (s:Shared) (σ:St) (H:Hp) (x:V) (xs:List V) (v:Value) (us:List Value) (Q:VK),Inv X pins σ H s→qN x v→qM xs us→r x xs H Q→
  wpAny (model X.prog X.w) X.A (call (.builtin id) (v::us)) (EP X pins σ Q) X.xe s
section
variable {X:Cx} {a b:Expr} {ta tb:TE} {pos:Pos}
theorem IxR.or {r r':R2} (h:IxR X r) (h':IxR X r'):IxR X (fun x y H Q=>r x y H Q∨r' x y H Q):=by
 intro value slice pins s σ H x y v u Q I rx ry q hs;rcases q with q | q
 ·exact h value slice pins s σ H x y v u Q I rx ry q hs
 ·exact h' value slice pins s σ H x y v u Q I rx ry q hs
theorem qmh {r:R2} (hr:IxR X r) (ha:PE X a ta) (hb:PE X b tb) (hs:qdo b):PE X (.Subscript a b pos) (tOp r ta tb):=by
 intro pins s σ H Q I h;exact Subscript_ (qlq ha hb I h fun v u s2 x y H2 I2 rx ry q=>hr a b pins s2 σ H2 x y v u Q I2 rx ry q (hs _ _))
def qmc (K:Frag):R2:=fun x y H Q=>∃ p xs i v,x= .ref p∧y= .int i∧SqL K H p xs∧atI xs i=some v∧Q v H
def qma (K:Frag):R2:=fun x y H Q=>∃ p xs i v,x= .ref p∧y= .int i∧SqT K H p xs∧atI xs i=some v∧Q v H
def qmb:R2:=fun x y H Q=>∃ z i c,x= .str z∧y= .int i∧z.length≤sizeLine∧atI z.cps.toList i=some c∧Q (.str ⟨#[c]⟩) H
theorem qir:IxR X (qmc X.K):=by
 intro value slice pins s σ H x y v u Q I rx ry h hs;obtain ⟨p,xs,i,z,rfl,rfl,hq,he,q⟩:=h;cases rx;obtain ⟨t,rfl⟩:=ry;obtain ⟨its,r,pl,hz⟩:=I.list hq;obtain ⟨j,h1,h2,h3,h4,h5⟩:=ZV he;obtain ⟨w,ew,rw'⟩:=r.get h2;have hl:=r.length;have hn:=wQ;have fin:EP X pins σ Q w s:=⟨z,H,I,rw',q⟩
 by_cases h0:0≤i
 ·have hj:i.toNat=j:=by
   rw [seqIndex_of h0 h5] at h1;exact Bg h1
  exact item_listR pl.isList h0 ⋯ (by rw [hj];simpa using ew) fin hs
 ·have hj:(i+(its.toArray.size:Int)).toNat=j:=by
   rw [seqIndex_neg ⋯ h4] at h1;rw [Aw,← hl];exact Bg h1
  exact subscriptTail_builtinR (x:=w) pl.isList.typeIs slot_list_getitem.lookup
   (wpAny_getItem_list_neg (Q:=fun r s'=>r=w∧EP X pins σ Q r s') pl.isList ⋯ (by rw [Aw] <;> omega) ⋯ (by rw [hj];simpa using ew) ⟨rfl,fin⟩) hs
theorem qk8:IxR X (qma X.K):=by
 intro value slice pins s σ H x y v u Q I rx ry h hs;obtain ⟨p,xs,i,z,rfl,rfl,hq,he,q⟩:=h;cases rx;obtain ⟨t,rfl⟩:=ry;obtain ⟨its,r,pl,hz⟩:=I.tuple hq;obtain ⟨j,h1,h2,h3,h4,h5⟩:=ZV he;obtain ⟨w,ew,rw'⟩:=r.get h2;have hl:=r.length;have hn:=wQ;have fin:EP X pins σ Q w s:=⟨z,H,I,rw',q⟩;exact subscriptTail_builtinR (x:=w) pl.typeIs slot_tuple_getitem.lookup
  (getItem_tuple (j:=j) (Q:=fun r s'=>r=w∧EP X pins σ Q r s') pl ⋯ ⋯ (by rw [Aw,← hl];exact h1) (by simpa using ew) ⟨rfl,fin⟩) hs
theorem qk9:IxR X qmb:=by
 intro value slice pins s σ H x y v u Q I rx ry h hs;obtain ⟨z,i,c,rfl,rfl,hz,he,q⟩:=h;obtain ⟨t,rfl⟩:=rx;obtain ⟨t',rfl⟩:=ry;obtain ⟨j,h1,h2,h3,h4,h5⟩:=ZV he;have hl:z.cps.toList.length=z.length:=by simp [Str.length]
 rw [hl] at h1 h4 h5;have hn:=wQ;exact tail_any (typeIs_str s z t) slot_str_getitem.lookup (getItem_str (c:=c) (by
  have e1:decide (i< -(2 ^ 63:Int))=false:=As ⋯;have e2:decide (i ≥ 2 ^ 63)=false:=As ⋯;rw [e1,e2,Ea]) (by rw [h1];simpa using h2) ⟨.str ⟨#[c]⟩,H,I.tok _,⟨_,rfl⟩,q⟩) hs
def rIx (K:Frag):R2:=fun x y H Q=>qmc K x y H Q∨qma K x y H Q∨qmb x y H Q
theorem qla:IxR X (rIx X.K):=qir.or (qk8.or qk9)
theorem qbr (its:List Value) (n j:Nat) (u:Value):Obj.mapSeq (·.setIfInBounds j u) {cls:= .type "list",data:= .seq its.toArray n}={cls:= .type "list",data:= .seq (its.set j u).toArray n}:=by
 simp [Obj.mapSeq]
theorem Inv.lst {pins:List (Addr×Obj)} {σ:St} {H:Hp} {s:Shared} {p:Addr} {xs:List V} (I:Inv X pins σ H s) (h:H p=some (.lst xs)):
  ∃ (its:List Value) (n:Nat),qM xs its∧s.heap.get? p=some {cls:= .type "list",data:= .seq its.toArray n}∧xs.length≤sizeLine:=by
 obtain ⟨z,its,n,r,e⟩:=I.hok p _ h;exact ⟨its,n,r,e,z⟩
theorem Inv.lstUpd {pins:List (Addr×Obj)} {σ:St} {H:Hp} {s:Shared} {p:Addr} {xs ys:List V} {its its':List Value} {n n':Nat} {f:Obj→Obj} (I:Inv X pins σ H s) (h:H p=some (.lst xs))
  (ho:s.heap.get? p=some {cls:= .type "list",data:= .seq its.toArray n}) (hf:f {cls:= .type "list",data:= .seq its.toArray n}={cls:= .type "list",data:= .seq its'.toArray n'}) (r:qM ys its') (hz:ys.length≤sizeLine) (t:Nat):
  Inv X pins σ (upd H p (.lst ys)) {s with heap:=s.heap.update p f,toks:=t}:=by
 have e:(s.heap.update p f).get? p=some {cls:= .type "list",data:= .seq its'.toArray n'}:=by
  rw [C3 f ho (by rw [hf] <;> rfl),hf]
 refine I.write (x:=p) (e:=p) (by rw [h];trivial) (.inl rfl) (fun b u hb q=>(Ce _ _ (Ne.symm hb)).trans q) ⟨_,e⟩ ?_
 exact ⟨hz,its',n',r,e⟩
def ql9:V→V→V→Hp→(Hp→Prop)→Prop:=fun o i v H Q=>∃ p xs k j,o= .ref p∧i= .int k∧H p=some (.lst xs)∧ixN xs.length k=some j∧Q (upd H p (.lst (xs.set j v)))
theorem qfy:qm2 X ql9:=by
 intro pins s σ H o i v ov iv u Q I ro ri rv h;obtain ⟨p,xs,k,j,rfl,rfl,hp,hj,q⟩:=h;cases ro;obtain ⟨t,rfl⟩:=ri;obtain ⟨its,n,r,ho,hz⟩:=I.lst hp;obtain ⟨h1,h2,h3,h4⟩:=qcy hj;have hl:=r.length;have hn:=wQ;have I':Inv X pins σ (upd H p (.lst (xs.set j v))) {s with heap:=s.heap.update p (Obj.mapSeq (·.setIfInBounds j u))}:=
  I.lstUpd hp ho (qbr its n j u) (r.set rv j) (by rw [Dv];exact hz) s.toks
 by_cases h0:0≤k
 ·have hk:k.toNat=j:=by
   rw [seqIndex_of h0 h4] at h1;exact Bg h1
  exact PySem.W.ki_setAt ho h0 ⋯ (by rw [Aw,← hl];exact h4) (by rw [hk];exact ⟨_,I',q⟩)
 ·have hk:(k+(its.toArray.size:Int)).toNat=j:=by
   rw [seqIndex_neg ⋯ h3] at h1;rw [Aw,← hl];exact Bg h1
  exact PySem.W.ki_setBack ho ⋯ (by rw [Aw,← hl];exact h3) ⋯ (by rw [hk];exact ⟨_,I',q⟩)
theorem Zh (lo hi:Option Int) (n:Nat):(sliceBounds lo hi none n).1=((HT.sIx n 0 lo:Nat):Int)∧(sliceBounds lo hi none n).2.1=((HT.sIx n n hi:Nat):Int)∧(sliceBounds lo hi none n).2.2=1:=by
 refine ⟨?_,?_,rfl⟩
 ·cases lo with
  | none=>simp [sliceBounds,HT.sIx]
  | some i=>
   simp only [sliceBounds,HT.sIx,Option.getD_none,show (1:Int)>0 from O0,if_true]
   by_cases h:i<0
   ·simp only [h,if_true] <;> omega
   ·simp only [h,if_false] <;> omega
 ·cases hi with
  | none=>simp [sliceBounds,HT.sIx]
  | some i=>
   simp only [sliceBounds,HT.sIx,Option.getD_none,show (1:Int)>0 from O0,if_true]
   by_cases h:i<0
   ·simp only [h,if_true] <;> omega
   ·simp only [h,if_false] <;> omega
theorem YZ (its:List Value) (lo hi:Option Int):slicePick its.toArray lo hi none=((its.drop (HT.sIx its.length 0 lo)).take (HT.sIx its.length its.length hi - HT.sIx its.length 0 lo)).toArray:=by
 obtain ⟨h1,h2,h3⟩:=Zh lo hi its.toArray.size;unfold slicePick;rw [h1,h2,h3];simp only [sliceRange_one,pick_run,Aw] <;> rfl
def ql8 (K:Frag):V→Option Int→Option Int→Hp→VK→Prop:=fun x lo hi H Q=>∃ a xs,x= .ref a∧SqL K H a xs∧∀ p,H p=none→Q (.ref p) (upd H p (.lst (wv xs lo hi)))
theorem qhr:SlR X (ql8 X.K):=by
 intro pins s σ H x v vl vu lo hi sl Q I rx hs pl pu h;obtain ⟨a,xs,rfl,hx,q⟩:=h;cases rx;obtain ⟨its,r,ht,hz⟩:=I.list hx;have hlen:=r.length;refine ⟨"list",_,slot_list_getitem.lookup,ht.isList.typeIs,?_⟩;refine wpAny_getItem_list_slice ht.isList hs pl pu .none (by simp) ?_ (by rw [Aw] <;> omega)
 rw [YZ,← hlen];refine ⟨.ref s.heap.objs.size,_,I.laid (t':=s.toks) (o:= .lst (wv xs lo hi)) (fun b ob q=>Aj _ q) (Ag _) ?_,rfl,q _ (I.hok.fresh (Ag _))⟩;exact ⟨A0 (WU xs lo hi) hz,_,0,(r.drop (HT.sIx xs.length 0 lo)).take (HT.sIx xs.length xs.length hi - HT.sIx xs.length 0 lo),A6 _ rfl⟩
def Vi:V→Bool
 | .non=>true
 | .bl _=>true
 | .int _=>true
 | .str _=>true
 | _=>false
def eqV:V→V→Bool
 | .non,.non=>true
 | .bl a,.bl b=>a==b
 | .bl a,.int b=>(if a then 1 else 0)==b
 | .int a,.bl b=>a==(if b then 1 else 0)
 | .int a,.int b=>a==b
 | .str a,.str b=>a==b
 | _,_=>false
theorem qli {A:Around} {s:Shared} {y x:V} {u v:Value} (ry:qN y u) (rx:qN x v) (fy:Vi y=true) (fx:Vi x=true):SeqAt.EqAt A s u v (eqV y x):=by
 cases y with
 | non=>
  cases ry;cases x with
  | non=>cases rx;exact SeqAt.EqAt.same _
  | bl b=>cases rx;exact SeqAt.EqAt.none_bool b
  | int b=>obtain ⟨t,rfl⟩:=rx;exact SeqAt.EqAt.none_int b t
  | str b=>obtain ⟨t,rfl⟩:=rx;exact SeqAt.EqAt.none_str b t
  | _=>exact absurd (show false=true from fx) Ai
 | bl a=>
  cases ry;cases x with
  | non=>cases rx;exact SeqAt.EqAt.bool_none a
  | bl b=>cases rx;exact SeqAt.EqAt.bool_bool a b
  | int b=>obtain ⟨t,rfl⟩:=rx;exact SeqAt.EqAt.bool_int a b t
  | str b=>obtain ⟨t,rfl⟩:=rx;exact SeqAt.EqAt.bool_str a b t
  | _=>exact absurd (show false=true from fx) Ai
 | int a=>
  obtain ⟨t',rfl⟩:=ry;cases x with
  | non=>cases rx;exact SeqAt.EqAt.int_none a t'
  | bl b=>cases rx;exact SeqAt.EqAt.int_bool a t' b
  | int b=>obtain ⟨t,rfl⟩:=rx;exact SeqAt.EqAt.int_int a t' b t
  | str b=>obtain ⟨t,rfl⟩:=rx;exact SeqAt.EqAt.int_str a t' b t
  | _=>exact absurd (show false=true from fx) Ai
 | str a=>
  obtain ⟨t',rfl⟩:=ry;cases x with
  | non=>cases rx;exact SeqAt.EqAt.str_none a t'
  | bl b=>cases rx;exact SeqAt.EqAt.str_bool a t' b
  | int b=>obtain ⟨t,rfl⟩:=rx;exact SeqAt.EqAt.str_int a t' b t
  | str b=>obtain ⟨t,rfl⟩:=rx;exact SeqAt.EqAt.str_str a t' b t
  | _=>exact absurd (show false=true from fx) Ai
 | _=>exact absurd (show false=true from fy) Ai
def eqU (x:V) (u:Value):Bool:=match u with
 | .none=>eqV .non x
 | .bool b=>eqV (.bl b) x
 | .int i _=>eqV (.int i) x
 | .str z _=>eqV (.str z) x
 | _=>false
theorem qg9 {x y:V} {u:Value} (r:qN y u) (f:Vi y=true):eqU x u=eqV y x:=by
 cases y with
 | non=>cases r;rfl
 | bl b=>cases r;rfl
 | int i=>obtain ⟨t,rfl⟩:=r;rfl
 | str z=>obtain ⟨t,rfl⟩:=r;rfl
 | _=>exact absurd (show false=true from f) Ai
theorem wz {x:V}:∀ {xs:List V} {us:List Value},qM xs us→xs.all Vi=true→us.any (eqU x)=xs.any fun y=>eqV y x
 | _,_,.nil,_=>rfl
 | y::xs,u::us,.cons r t,f=>by
  rw [Ex,Ae] at f;rw [Cw,Cw,qg9 r f.1,wz t f.2]
theorem Va {A:Around} {s:Shared} {x:V} {v:Value} (rx:qN x v) (fx:Vi x=true):∀ {xs:List V} {us:List Value},qM xs us→xs.all Vi=true→∀ u∈us,SeqAt.EqAt A s u v (eqU x u)
 | _,_,.nil,_=>fun u hu=>by cases hu
 | y::xs,u::us,.cons r t,f=>fun u' hu=>by
  rw [Ex,Ae] at f;rcases Ao.mp hu with rfl | hu
  ·rw [qg9 r f.1];exact qli r rx f.1 fx
  ·exact Va rx fx t f.2 u' hu
def inV (x:V) (xs:List V):Bool:=xs.any fun y=>eqV y x
def rIn (K:Frag) (neg:Bool):R2:=fun x y H Q=>∃ p xs,y= .ref p∧(SqL K H p xs∨SqT K H p xs)∧Vi x=true∧xs.all Vi=true∧Q (.bl (if neg then !inV x xs else inV x xs)) H
theorem qd5:OpR X (compareOp .In) (rIn X.K false):=by
 intro pins s σ H x y v u Q I rx ry h;obtain ⟨p,xs,rfl,hq,fx,fs,q⟩:=h;cases ry;rcases hq with hq | hq
 ·obtain ⟨its,r,pl,hz⟩:=I.list hq;refine SeqAt.in_listAt (eqU x) pl.isList (fun w hw=>Va rx fx r fs w (by simpa using hw)) ⟨.bl _,H,I,rfl,?_⟩
  rw [show its.toArray.any (eqU x)=its.any (eqU x) by simp,wz r fs]
  exact q
 ·obtain ⟨its,r,pl,hz⟩:=I.tuple hq;refine SeqAt.in_tupleAt (eqU x) pl (fun w hw=>Va rx fx r fs w (by simpa using hw)) ⟨.bl _,H,I,rfl,?_⟩
  rw [show its.toArray.any (eqU x)=its.any (eqU x) by simp,wz r fs]
  exact q
theorem Zs:OpR X (compareOp .NotIn) (rIn X.K true):=by
 intro pins s σ H x y v u Q I rx ry h;obtain ⟨p,xs,rfl,hq,fx,fs,q⟩:=h;cases ry;rcases hq with hq | hq
 ·obtain ⟨its,r,pl,hz⟩:=I.list hq;refine SeqAt.notIn_listAt (eqU x) pl.isList (fun w hw=>Va rx fx r fs w (by simpa using hw)) ⟨.bl _,H,I,rfl,?_⟩
  rw [show its.toArray.any (eqU x)=its.any (eqU x) by simp,wz r fs]
  exact q
 ·obtain ⟨its,r,pl,hz⟩:=I.tuple hq;refine SeqAt.notIn_tupleAt (eqU x) pl (fun w hw=>Va rx fx r fs w (by simpa using hw)) ⟨.bl _,H,I,rfl,?_⟩
  rw [show its.toArray.any (eqU x)=its.any (eqU x) by simp,wz r fs]
  exact q
theorem j4:Jt X (.type "list") (fun xs H Q=>∃ p ys,xs=[.ref p]∧(SqL X.K H p ys∨SqT X.K H p ys)∧∀ l,H l=none→Q (.ref l) (upd H l (.lst ys))):=by
 intro pins s σ H xs us Q I r h;obtain ⟨p,ys,rfl,hq,q⟩:=h;obtain ⟨u,rfl,rx⟩:=vb r;cases rx;have fin:∀ (its:List Value),qM ys its→ys.length≤sizeLine→∀ (h':Heap) (c':Nat),(∀ b o',s.heap.get? b=some o'→h'.get? b=some o')→
   h'.get? s.heap.objs.size=some {cls:= .type "list",dict:=none,data:= .seq its.toArray c',slots:= #[]}→EP X pins σ Q (.ref s.heap.objs.size) {s with heap:=h'}:=fun its r' hz h' c' kp e=>
  ⟨.ref s.heap.objs.size,_,I.laid (t':=s.toks) kp (Ag _) (show zL X.prog X.w _ h' _ (.lst ys) from ⟨hz,its,c',r',e⟩),rfl,q _ (I.hok.fresh (Ag _))⟩
 rcases hq with hq | hq
 ·obtain ⟨its,r',pl,hz⟩:=I.list hq;have hlen:=r'.length;obtain ⟨o,ho,hc,n,hd⟩:=pl.isList;exact call_list_seq p (.inl rfl) ho hc hd (fun h' c' kp e=>fin its r' hz h' c' kp e) (by simp only [Aw] <;> omega)
 ·obtain ⟨its,r',pl,hz⟩:=I.tuple hq;have hlen:=r'.length;obtain ⟨o,ho,hc,n,hd⟩:=pl;exact call_list_seq p (.inr rfl) ho hc hd (fun h' c' kp e=>fin its r' hz h' c' kp e) (by simp only [Aw] <;> omega)
theorem Y6:Jt X (.type "tuple") (fun xs H Q=>∃ p ys,xs=[.ref p]∧((SqL X.K H p ys∧∀ l,H l=none→Q (.ref l) (upd H l (.tup ys)))∨(SqT X.K H p ys∧Q (.ref p) H))):=by
 intro pins s σ H xs us Q I r h;obtain ⟨p,ys,rfl,h⟩:=h;obtain ⟨u,rfl,rx⟩:=vb r;cases rx;rcases h with ⟨hq,q⟩ | ⟨hq,q⟩
 ·obtain ⟨its,r',pl,hz⟩:=I.list hq;have hlen:=r'.length;refine call_tuple_list pl.isList (fun h' kp=>?_) (by simp only [Aw] <;> omega)
  have I1:Inv X pins σ H {s with heap:=h'}:=I.kept (t':=s.toks) kp
  have I2:Inv X pins σ (upd H h'.objs.size (.tup ys)) {s with heap:=h'.push {cls:= .type "tuple",data:= .seq its.toArray}}:=
   I1.laid (t':=s.toks) (fun b o e=>Aj _ e) (Ag _) (show zL X.prog X.w _ _ _ (.tup ys) from ⟨hz,its,r',IsTup.new _ _⟩)
  exact ⟨.ref h'.objs.size,_,I2,rfl,q _ (I1.hok.fresh (Ag _))⟩
 ·obtain ⟨its,r',pl,hz⟩:=I.tuple hq;exact call_tuple_same pl ⟨.ref p,H,I,rfl,q⟩
def tyV (K:Frag) (T:String) (x:V) (H:Hp):Prop:=match x with
 | .str _=>T="str"
 | .int _=>T="int"
 | .ref p=>(T="list"∧∃ xs,SqL K H p xs)∨(T="tuple"∧∃ o,K.lookup p=some o∧o.cls= .type "tuple"∧o.dict=none)∨
   (T="dict"∧((∃ kvs,H p=some (.dK kvs))∨∃ kvs,H p=some (.dT kvs)))∨(T="set"∧∃ S n,H p=some (.set S n))
 | _=>False
theorem qfd {pins:List (Addr×Obj)} {σ:St} {H:Hp} {s:Shared} {T:String} {x:V} {v:Value} (I:Inv X pins σ H s) (r:qN x v) (ty:tyV X.K T x H):
  s.TypeIs v T∧∀ a,v= .ref a→∃ ob,s.heap.get? a=some ob∧ob.dict=none:=by
 cases x with
 | str z=>
  obtain ⟨t,rfl⟩:=r;cases (show T="str" from ty);exact ⟨typeIs_str s z t,fun _ e=>nomatch e⟩
 | int i=>
  obtain ⟨t,rfl⟩:=r;cases (show T="int" from ty);exact ⟨typeIs_int s i t,fun _ e=>nomatch e⟩
 | ref p=>
  cases r;rcases ty with ⟨rfl,xs,hq⟩ | ⟨rfl,o,hk,hc,hd⟩ | ⟨rfl,hk⟩ | ⟨rfl,S,n,hk⟩
  ·obtain ⟨its,_,pl,_⟩:=I.list hq;refine ⟨pl.isList.typeIs,fun a e=>?_⟩;cases e;obtain ⟨o,n,e,c,hd,_⟩:=pl;exact ⟨o,e,hd⟩
  ·refine ⟨⟨o,I.kIn p o hk,hc⟩,fun a e=>?_⟩;cases e;exact ⟨o,I.kIn _ o hk,hd⟩
  ·have z:∃ o,s.heap.get? p=some o∧o.ExactDict:=by
    rcases hk with ⟨kvs,hk⟩ | ⟨kvs,hk⟩
    ·obtain ⟨_,_,_,_,o,_,_,e,ex,_⟩:=I.hok p _ hk;exact ⟨o,e,ex⟩
    ·obtain ⟨_,_,_,_,o,_,_,e,ex,_⟩:=I.hok p _ hk;exact ⟨o,e,ex⟩
   obtain ⟨o,e,ex⟩:=z;refine ⟨⟨o,e,ex.1⟩,fun a e2=>?_⟩;cases e2;exact ⟨o,e,ex.2.1⟩
  ·obtain ⟨o,_,_,_,e,ex,_⟩:=I.hok p _ hk;refine ⟨⟨o,e,ex.1⟩,fun a e2=>?_⟩;cases e2;exact ⟨o,e,ex.2.1⟩
 | _=>exact False.elim ty
def qfk (K:Frag) (T:String) (r:V→List V→Hp→VK→Prop) (to:TE):TE:=fun σ H Q=>to σ H fun x H1=>tyV K T x H1∧r x [] H1 Q
def tBM (K:Frag) (T:String) (r:V→List V→Hp→VK→Prop) (to:TE) (t:TA):TE:=fun σ H Q=>to σ H fun x H1=>tyV K T x H1∧t σ H1 fun xs H2=>r x xs H2 Q
variable {o e:Expr} {es:List Expr} {to:TE} {t:TA} {name:Str} {apos cpos:Pos} {T id:String} {r:V→List V→Hp→VK→Prop}
theorem qkq (pa:PlainAttrs T) (slot:Slot T name id) (hty:typeOf (.builtin id)=pure (.type "method_descriptor")) (hm:MtR X id r) (ho:PE X o to)
  (hbase:attributeBase o name X.env (eval o X.env)=eval o X.env:=by rfl) (hline:(apos.endLine==cpos.line)=true:=by rfl):PE X (.Call (.Attribute o name apos) [] [] cpos) (qfk X.K T r to):=by
 intro pins s σ H Q I h;refine wpAny_Call_method0_late hbase hline (thn (ho pins s σ H _ I h) fun v s1 ⟨x,H1,I1,r1,ty,q1⟩=>?_);obtain ⟨h1,h2⟩:=qfd I1 r1 ty;exact ⟨T,id,pa,slot,hty,h1,h2,Calls.callWith_builtin rfl (PySem.evalArgs_none (hm pins s1 σ H1 x [] v [] Q I1 r1 .nil q1))⟩
theorem qmi (pa:PlainAttrs T) (slot:Slot T name id) (hty:typeOf (.builtin id)=pure (.type "method_descriptor")) (hm:MtR X id r) (ho:PE X o to) (ha:PA X (e::es) t)
  (hbase:attributeBase o name X.env (eval o X.env)=eval o X.env:=by rfl)
  (hfew:((backTo cpos (starEach (e::es) X.env)).all (fun x=>!x.1)&&(backToKw cpos (keywordEach [] X.env)).all (fun x=>x.1.isSome)
   &&decide ((e::es).length+([]:List Keyword).length+(if ([]:List Keyword).isEmpty then 0 else 1)<30))=true:=by rfl)
  (hline:(apos.endLine==cpos.line)=true:=by rfl) (hs:starEach (e::es) X.env=(false,eval e X.env)::starEach es X.env:=by rfl) (hplain:(backTo cpos (starEach es X.env)).any (·.1)=false:=by rfl):
  PE X (.Call (.Attribute o name apos) (e::es) [] cpos) (tBM X.K T r to t):=by
 intro pins s σ H Q I h;refine wpAny_Call_method_late hbase hfew hline rfl (thn (ho pins s σ H _ I h) fun v s1 ⟨x,H1,I1,r1,ty,q1⟩=>?_);obtain ⟨h1,h2⟩:=qfd I1 r1 ty;refine ⟨T,id,pa,slot,hty,h1,h2,?_⟩;have hA:=ha cpos pins s1 σ H1 _ I1 q1;rw [hs] at hA ⊢;refine Calls.callWith_builtin (by show (false||(backTo cpos (starEach es X.env)).any (·.1))=false;rw [hplain] <;> rfl) (Calls.evalArgs_plain ?_)
 exact thn hA fun us s2 ⟨vs,H2,I2,r2,q2⟩=>hm pins s2 σ H2 x vs v us Q I2 r1 r2 q2
end
def MtM (X:Cx) (id:String) (r:V→List V→Hp→VK→Prop):Prop:=
 ∀ (pins:List (Addr×Obj)) (s:Shared) (σ:St) (H:Hp) (x:V) (xs:List V) (v:Value) (us:List Value) (Q:VK),Inv X pins σ H s→qN x v→qM xs us→r x xs H Q→
  wpAny (model X.prog X.w) X.A (call (.builtin id) (v::us)) (EP X pins σ Q) X.xe s
theorem qM.one:∀ {x:V} {us:List Value},qM [x] us→∃ u,us=[u]∧qN x u
 | _,_,.cons r .nil=>⟨_,rfl,r⟩
theorem qM.zero:∀ {us:List Value},qM [] us→us=[]
 | _,.nil=>rfl
theorem qM.dropLast {xs:List V} {us:List Value} (h:qM xs us):qM xs.dropLast us.dropLast:=by
 induction h with
 | nil=>exact .nil
 | cons r t ih=>
  cases t with
  | nil=>exact .nil
  | cons q t'=>exact .cons r ih
theorem qb0 {α:Type} (l:List α):l.eraseIdx (l.length - 1)=l.dropLast:=by
 induction l with
 | nil=>rfl
 | cons a r ih=>
  cases r with
  | nil=>rfl
  | cons b r=>
   have e:(a::b::r).length - 1=((b::r).length - 1)+1:=by
    have h1:(a::b::r).length=r.length+2:=rfl;have h2:(b::r).length=r.length+1:=rfl;omega
   rw [e,List.eraseIdx_cons_succ,ih]
   all_goals rfl
section
variable {X:Cx} {pins:List (Addr×Obj)} {σ:St} {H:Hp} {s:Shared} {l b:Addr} {xs ys zs:List V}
theorem Inv.lset {its its':List Value} {n:Nat} {f:Array Value→Array Value} {t':Nat} (I:Inv X pins σ H s) (hH:H l=some (.lst xs))
  (e:s.heap.get? l=some {cls:= .type "list",data:= .seq its.toArray n}) (hf:f its.toArray=its'.toArray) (hv:qM ys its') (hz:ys.length≤sizeLine):
  Inv X pins σ (upd H l (.lst ys)) {s with heap:=s.heap.update l (Obj.mapSeq f),toks:=t'}:=by
 have q:=PySem.IsL.update e f;rw [hf] at q;refine I.write (x:=l) (e:=l) (by rw [hH];exact trivial) (.inl rfl) (fun b' u hb hu=>(Ce s.heap (Obj.mapSeq f) (Ne.symm hb)).trans hu) ⟨_,q⟩ ?_
 exact ⟨hz,its',_,hv,q⟩
theorem Inv.lnew {its:List Value} {t':Nat} (I:Inv X pins σ H s) (hv:qM ys its) (hz:ys.length≤sizeLine):
  Inv X pins σ (upd H s.heap.objs.size (.lst ys)) {s with heap:=s.heap.push {cls:= .type "list",data:= .seq its.toArray},toks:=t'}:=
 I.laid (fun _ _ q=>Aj _ q) (Ag _) ⟨hz,its,0,hv,A6 _ rfl⟩
theorem Inv.fresh (I:Inv X pins σ H s):H s.heap.objs.size=none:=I.hok.fresh (Ag _)
theorem Inv.lstM (I:Inv X pins σ H s) (hH:H l=some (.lst xs)):xs.length≤sizeLine∧∃ (its:List Value) (n:Nat),qM xs its∧xs.length=its.length∧s.heap.get? l=some {cls:= .type "list",data:= .seq its.toArray n}:=by
 obtain ⟨z,its,n,r,e⟩:=I.hok l _ hH;exact ⟨z,its,n,r,r.length,e⟩
theorem qgm {n:Nat} (h:n≤sizeLine):Builtin.List.listTooLong n=false:=by
 unfold Builtin.List.listTooLong;exact As ⋯
end
section
variable {X:Cx}
def zM:V→List V→Hp→VK→Prop:=fun x vs H Q=>∃ l xs y,x= .ref l∧vs=[y]∧H l=some (.lst xs)∧xs.length<sizeLine∧Q .non (upd H l (.lst (xs++[y])))
theorem zC:MtM X "list.append" zM:=by
 intro pins s σ H x vs v us Q I rx rv h;obtain ⟨l,xs,y,rfl,rfl,hH,hz,q⟩:=h;cases rx;obtain ⟨u,rfl,ru⟩:=rv.one;obtain ⟨z,its,n,r,hl,e⟩:=I.lstM hH;refine call_meets F.slot_list_append ⟨_,e,rfl⟩ F.entry_list_append (F.args_list_append_2 _ _) (PySem.list_append l its.toArray n u (by rw [Aw];omega)) ⟨e,?_⟩
 refine ⟨.non,_,I.lset (its':=its++[u]) hH e (by simp) (r.append (.cons ru .nil)) ?_,rfl,q⟩
 rw [Ac,Av];omega
def jU:V→List V→Hp→VK→Prop:=fun x vs H Q=>∃ l b xs zs,x= .ref l∧vs=[.ref b]∧H l=some (.lst xs)∧H b=some (.lst zs)∧xs.length+zs.length≤sizeLine∧Q .non (upd H l (.lst (xs++zs)))
theorem jH:MtM X "list.extend" jU:=by
 intro pins s σ H x vs v us Q I rx rv h;obtain ⟨l,b,xs,zs,rfl,rfl,hH,hB,hz,q⟩:=h;cases rx;obtain ⟨u,rfl,ru⟩:=rv.one;cases ru;obtain ⟨z,its,n,r,hl,e⟩:=I.lstM hH;obtain ⟨z2,its2,n2,r2,hl2,e2⟩:=I.lstM hB;have hsz:its.toArray.size+its2.toArray.size≤sizeLine:=by rw [Aw,Aw];omega
 have hlong:¬ (!its.toArray.isEmpty&&Builtin.List.listTooLong (its.toArray.size+its2.toArray.size))=true:=by
  rw [qgm hsz,D7];exact Ai
 refine call_meets F.slot_list_extend ⟨_,e,rfl⟩ F.entry_list_extend (F.args_list_extend_2 _ _)
  (AutoSeq1.list_extend_list_list_0 l its.toArray n b its2.toArray n2 hlong (by rw [Aw];omega) ⋯) ⟨e,e2,?_⟩
 refine ⟨.non,_,I.lset (its':=its++its2) hH e (by simp) (r.append r2) ?_,rfl,q⟩
 rw [Ac];omega
def qh3:V→List V→Hp→VK→Prop:=fun x vs H Q=>∃ l xs y,x= .ref l∧vs=[]∧H l=some (.lst xs)∧xs[xs.length - 1]?=some y∧Q y (upd H l (.lst xs.dropLast))
theorem qbp:MtM X "list.pop" qh3:=by
 intro pins s σ H x vs v us Q I rx rv h;obtain ⟨l,xs,y,rfl,rfl,hH,hy,q⟩:=h;cases rx;have hus:=rv.zero;subst hus;obtain ⟨z,its,n,r,hl,e⟩:=I.lstM hH;obtain ⟨u,hu,ru⟩:=r.get hy;have hy':its.toArray[its.toArray.size - 1]?=some u:=by
  show its.toArray[its.length - 1]?=some u;rw [← Array.getElem?_toList,← hl];exact hu
 refine call_meets F.slot_list_pop ⟨_,e,rfl⟩ F.entry_list_pop (F.args_list_pop_1 _) (MeetsSeq.list_pop_last l its.toArray n u hy' (by rw [Aw];omega)) ⟨e,?_⟩
 refine ⟨y,_,I.lset (its':=its.dropLast) hH e ?_ r.dropLast ?_,ru,q⟩
 ·show its.toArray.eraseIdxIfInBounds (its.toArray.size - 1)=its.dropLast.toArray;rw [Aw,List.eraseIdxIfInBounds_toArray,qb0]
 ·rw [List.length_dropLast];omega
def qmd:R2:=fun x y H Q=>∃ l b xs zs,x= .ref l∧y= .ref b∧H l=some (.lst xs)∧H b=some (.lst zs)∧xs.length+zs.length≤sizeLine∧∀ p,H p=none→Q (.ref p) (upd H p (.lst (xs++zs)))
theorem qkw:OpR X (binaryOp .Add) qmd:=by
 intro pins s σ H x y v u Q I rx ry h;obtain ⟨l,b,xs,zs,rfl,rfl,hH,hB,hz,q⟩:=h;cases rx;cases ry;obtain ⟨z,its,n,r,hl,e⟩:=I.lstM hH;obtain ⟨z2,its2,n2,r2,hl2,e2⟩:=I.lstM hB;refine PySem.P.add_list e e2 ?_ (by rw [Aw,Aw];omega)
 have ea:its.toArray++its2.toArray=(its++its2).toArray:=by simp
 rw [ea];exact ⟨.ref _,_,I.lnew (t':=s.toks) (r.append r2) (by rw [Ac];omega),rfl,q _ I.fresh⟩
end
section
variable {prog:Program} {w:World} {A:Around} {E:Value→Shared→Prop} {s:Shared}
end
section
variable {X:Cx}
end
end L2
namespace Att
open PySem PySem.W PySem.Calls PyProof.Rows
theorem W6 {P:Params} {h:Heap}:∀ (ns:List Int) (vs:List Value),WellAll P h vs (ns.map WData.int)→IntsAre vs ns:=by
 intro ns
 induction ns with
 | nil=>
  intro vs w;rw [Ej] at w;cases w;exact .nil
 | cons n ns ih=>
  intro vs w;rw [Ba] at w;cases w with
  | cons a b=>
   cases a;exact .cons _ _ (ih _ b)
theorem qdx {l:OpenLaw} {n:Nat} (hn:l.most=some n) {P:Params} {h:Heap} {args:List WData} {vals:List Value}
  (hpre:l.row.toRowW.claim.pre args=true) (hwl:WellAll P h vals args):
  ∃ a vs ns,vals=[Value.ref a]∧args=[WData.list (ns.map WData.int)]∧h.get? a=some {cls:= .type "list",data:= .seq vs.toArray}∧IntsAre vs ns∧ns.length≤n:=by
 have hsh:WShape.hasAll [] args [.list .int]=true:=(pre_splitW hpre).1;have hc:l.pre.holds [] {args:=args}=true:=(pre_splitW hpre).2;obtain ⟨d,r,rfl,h1,h2⟩:=hasAllW_cons hsh;obtain rfl:=hasAllW_nil h2;obtain ⟨xs,rfl,h3⟩:=hasW_list h1;obtain ⟨ns,rfl⟩:=items_int h3;have hlen:ns.length≤n:=by
  unfold OpenLaw.pre at hc;have h4:(WTm.not (.lt (.lit (.int (n:Int))) (.len (.arg 0)))).holds [] {args:=[.list (ns.map .int)]}=true:=by
   have h4:=(holds_andW hc).1;rw [hn] at h4;exact h4
  have h5:=condW_of h4 (w_not (w_lt w_lit (w_len_list (w_arg rfl))));rw [Ab] at h5;refine Nat.le_of_not_lt fun q=>?_;have q':(n:Int)<((ns.length:Nat):Int):=⋯
  first
   | (rw [Al q'] at h5;exact absurd h5 O0)
   | (simp at h5;omega)
 cases hwl with
 | cons w1 w2=>
  cases w2;cases w1 with
  | list ho hall=>exact ⟨_,_,ns,rfl,rfl,ho,W6 ns _ hall,hlen⟩
theorem qd3 (l:OpenLaw) (args:List WData):l.row.toRowW.claim.post args (.bool true) args=true:=
 postW_of (r:=l.row.toRowW) (X:=(true==true))
  (show WShape.has [] (.bool true) .bool=true by first | rfl | decide | simp [WShape.has,WShape.arms,WShape.armsAll])
  (show (WTm.eq .res (.lit (.bool true))).value [] {args:=args,res:=some (.bool true),after:=args}=some (.bool (true==true)) from w_eq_bool (w_res rfl) w_lit) rfl
theorem attach_call {l:OpenLaw} {n:Nat} {q:Program} {loose:List Str} {XP:(Str→Option Value)→Heap→Prop} {YP:World→Heap→Prop} {d:DefRec}
  (hn:l.most=some n) (hdf:d.params.defaults=[])
  (call:∀ (w:World) (s₀ s₁:Shared) (mg mb:Str→Option Value) (fa:Addr) (o:Obj) (pm cd doc:Value) (a:Addr) (vs:List Value) (ns:List Int),
   Ground q loose [] XP w s₀ mg mb s₁.heap→YP w s₁.heap→
   s₁.heap.get? fa=some o→o.data= .func (docDef d.name d.params d.body d.scope pm cd doc)→s₁.heap.CodeRec cd d.name→mg d.name=some (.ref fa)→
   s₁.heap.get? a=some {cls:= .type "list",data:= .seq vs.toArray}→IntsAre vs ns→ns.length≤n→s₁.gens= #[]→
   codeAny (model l.prog w) callerA (.call (.ref fa) ⟨[.ref a],[]⟩) (fun r s'=>r= .ok (.ret (.bool true))∧OldK s₁.heap s'.heap∧s'.os=s₁.os∧AllBare s'.gens) s₁):
  WalkO q loose XP YP l.row.toRowW d [] (fun f vs=>PySem.call f vs):=by
 intro w s₀ s₁ mg mb G Y fa o pm cd doc dV kV ho hd hcd hD hmg hg args vals as hpre hlay hrd hwl hlo;obtain rfl:dV= .none:=Dflts.none hD hdf;obtain rfl:kV= .none:=Dflts.noKw hD;obtain ⟨a,vs,ns,rfl,rfl,hobj,hints,hlen⟩:=qdx hn hpre hwl;refine enter_call (Er (call w s₀ s₁ mg mb fa o pm cd doc a vs ns G Y ho (fd_plain hd) hcd hmg hobj hints hlen hg) fun r s' hq=>?_);obtain ⟨rfl,h2,h3,h4⟩:=hq;exact ⟨.inl ⟨.bool true,.bool true,[],rfl,fun _=>rfl,.bool true,qd3 l _,fun _=>⟨List.Pairwise.nil,fun _ hm=>(nomatch hm)⟩⟩,h2,h3,h4⟩
section
variable {prog:Program} {w:World} {A:Around} {E:Value→Shared→Prop} {s:Shared} {K:Frag}
end
end Att
namespace L2
open PySem PySem.Spec PyProof.Rows
theorem wC:∀ {vs:List Value} {ns:List Int},IntsAre vs ns→qM (ns.map V.int) vs
 | _,_,.nil=> .nil
 | _,_,.cons n t h=> .cons ⟨t,rfl⟩ (wC h)
def qlw (H:Hp):Prop:=∀ b,H b=none∨∃ o xs,H b=some (.frz o (.lst xs))
def qc1 (s:Stmt) (j:Nat):Stmt:=match s with
 | .ClassDef _ _ _ body _ _ _ _ _ _ _=>body.getD j (.Pass ⟨0,0,0,0⟩)
 | _=> .Pass ⟨0,0,0,0⟩
def Vx (s:Stmt):Arguments:=match s with
 | .FunctionDef _ a _ _ _ _ _ _ _ _=>a
 | _=>{posonlyargs:=[],args:=[],vararg:=none,kwonlyargs:=[],kw_defaults:=[],kwarg:=none,defaults:=[]}
def J3 (s:Stmt):List Stmt:=match s with
 | .FunctionDef _ _ b _ _ _ _ _ _ _=>b
 | _=>[]
def ql (s:Stmt):Scope:=match s with
 | .FunctionDef _ _ _ _ _ _ sc _ _ _=>sc
 | _=>{kind:= .function,names:=[],isGenerator:=false,isCoroutine:=false}
abbrev CX0:CXT:=fun _ _ _ _ _ _=>False
abbrev E0:XK:=fun _ _ _=>False
theorem qgj {X:Cx}:WF CX0 X E0:=fun _ _ _ _ _ _ _ h=>h.elim
structure Fun (K:Frag) (x qual:Str) (st:Stmt) (f:Addr) (fd:FuncData):Prop where
 ex:∃ (oc:Value) (od:Option Addr) (kV doc pm:Value) (an:Option Addr) (cdv ct:Value) (osl:Array (Option Value)),
  fd=PySem.W.fnOf x qual (Vx st) (J3 st) (ql st) .none kV doc pm an cdv ct∧K.lookup f=some ⟨oc,od,.func fd,osl⟩∧PySem.W.codeIn K cdv qual=true
 kp:PySem.W.keepIn K (.ref f)=true
section
variable {P:Program} {w:World} {K:Frag} {mg:Str→Option Value} {base:Heap}
theorem Fun.ok {x qual:Str} {st:Stmt} {f:Addr} {fd:FuncData} {N ps:List Str} {k:Nat} {sp:Sp} (F:Fun K x qual st f fd) (S:FnScope N ps (ql st)) (len:∀ vs H Q E,sp vs H Q E→vs.length=ps.length)
  (hbody:∀ (cdv:Value) (A:Around) (outer:List Env) (s:Shared) (H:Hp) (vs:List V) (Q:VK) (E:XK),Room k (A.deeper (envOfC qual (ql st) s.heap.objs.size f cdv))→sp vs H Q E→
   ∃ t,PSs (Y5 CX0 P w K mg base N qual (ql st) f cdv A outer s H E).nox (J3 st) t∧t {nx:=fun _ H'=>Q .non H',rt:=Q} (JR N vs) H):FnOk P w K mg base CX0 (k+1) f fd ps sp:=by
 obtain ⟨oc,od,kV,doc,pm,an,cdv,ct,osl,rfl,lk,hcd⟩:=F.ex;refine qmy lk hcd S len fun A outer s H vs Q E hr hsp=>?_;obtain ⟨t,h,q⟩:=hbody cdv A outer s H vs Q E hr hsp;exact ⟨t,h.nox,q⟩
theorem Fun.binds {x qual:Str} {st:Stmt} {f:Addr} {fd:FuncData} {ps:List Str} (F:Fun K x qual st f fd)
  (h:∀ (kV doc pm:Value) (an:Option Addr) (cdv ct:Value) (us:List Value),us.length=ps.length→bindArgs (PySem.W.fnOf x qual (Vx st) (J3 st) (ql st) .none kV doc pm an cdv ct) ⟨us,[]⟩=pure (ps.zip us)):vO K fd ps []:=by
 obtain ⟨oc,od,kV,doc,pm,an,cdv,ct,osl,rfl,lk,hcd⟩:=F.ex;exact .all (h kV doc pm an cdv ct)
theorem qg5 {x qual:Str} {st:Stmt} {f:Addr} {oc:Value} {od an:Option Addr} {osl:Array (Option Value)} {kV doc pm cdv ct:Value} (l:K.lookup f=some ⟨oc,od,.func (PySem.W.fnOf x qual (Vx st) (J3 st) (ql st) .none kV doc pm an cdv ct),osl⟩)
  (c:PySem.W.codeIn K cdv qual=true) (k:PySem.W.keepIn K (.ref f)=true):Fun K x qual st f (PySem.W.fnOf x qual (Vx st) (J3 st) (ql st) .none kV doc pm an cdv ct):=⟨⟨oc,od,kV,doc,pm,an,cdv,ct,osl,rfl,l,c⟩,k⟩
end
theorem Ve {A:Around} {k:Nat} (hr:Room k A):A.units+1<cLine:=Cf (Nat.add_le_add_left (O0:1≤64) _) hr.units
section
variable {X:Cx}
theorem pv (i:Nat) {x:Str} {pos:Pos} (hN:X.N[i]?=some x:=by rfl) (hv:Vis X.env.scope x:=by first | exact Or.inl rfl | exact Or.inr (Or.inl rfl) | exact Or.inr (Or.inr rfl)) (hd:(x==("__debug__":Str))=false:=by decide)
  (hcd:(x==("__classdict__":Str))=false:=by decide):PE X (.Name x pos) (qg i):=qkl hN hv hd hcd
end
theorem QQ {A B:Prop} (h:B):if false=true then A else B:=by
 rw [if_neg Ai];exact h
theorem vF {A B:Prop} (h:A):if true=true then A else B:=by
 rw [if_pos rfl];exact h
theorem Vd {c A B:Prop} [Decidable c] (h1:c→A) (h2:¬ c→B):if c then A else B:=by
 by_cases h:c
 ·rw [if_pos h];exact h1 h
 ·rw [if_neg h];exact h2 h
def qv (H H':Hp):Prop:=∀ b o,H b=some o→H' b=some o
theorem qv.refl (H:Hp):qv H H:=fun _ _ h=>h
theorem qv.trans {H H1 H2:Hp} (a:qv H H1) (b:qv H1 H2):qv H H2:=fun c o h=>b c o (a c o h)
theorem qv.free {H H':Hp} (e:qv H H') {l:Addr} (h:H' l=Option.none):H l=Option.none:=by
 cases q:H l with
 | none=>rfl
 | some o=>
  rw [e l o q] at h;cases h
theorem qv.seq {K:Frag} {H H':Hp} {a:Addr} {xs:List V} (e:qv H H') (h:SqL K H a xs):SqL K H' a xs:=by
 rcases h with (h | ⟨o,h⟩) | h
 ·exact .inl (.inl (e _ _ h))
 ·exact .inl (.inr ⟨o,e _ _ h⟩)
 ·exact .inr h
section
variable {κ:Type} [DecidableEq κ]
def vP (kvs:List (κ×V)) (k:κ):Option V:=(kvs.find? fun kv=>decide (kv.1=k)).map (·.2)
def zG (kvs:List (κ×V)) (k:κ) (v:V):List (κ×V):=
 if (kvs.any fun kv=>decide (kv.1=k))=true then kvs.map (fun kv=>if kv.1=k then (kv.1,v) else kv) else kvs++[(k,v)]
theorem Jh {p:κ×V} {r:List (κ×V)} {k:κ} (e:p.1=k):vP (p::r) k=some p.2:=by simp [vP,C2,e]
theorem zZ {p:κ×V} {r:List (κ×V)} {k:κ} (e:¬ p.1=k):vP (p::r) k=vP r k:=by simp [vP,C2,e]
theorem vW (k:κ):∀ kvs:List (κ×V),(kvs.any fun kv=>decide (kv.1=k))=(vP kvs k).isSome
 | []=>rfl
 | p::r=>by
  rw [Cw]
  by_cases e:p.1=k
  ·simp only [Jh e,Al e,Bool.true_or,Option.isSome_some]
  ·rw [zZ e,As e,Bool.false_or];exact vW k r
theorem Vc (kvs:List (κ×V)) (k:κ) (v:V):(zG kvs k v).length≤kvs.length+1:=by
 unfold zG;split
 ·rw [Ab];omega
 ·rw [Ac,Ak,B1];omega
theorem VC.isSome_eq {o:Option V} {u:Option Value} (r:VC o u):o.isSome=u.isSome:=by
 cases o with
 | none=>cases u with
  | none=>rfl
  | some _=>exact (show False from r).elim
 | some _=>cases u with
  | none=>exact (show False from r).elim
  | some _=>rfl
theorem KV.val {kvs:List (κ×V)} {vs:List (κ×Value)} (r:KV kvs vs) (k:κ):VC (vP kvs k) (valueAt vs k):=by
 unfold KV at r
 induction r with
 | nil=>exact True.intro
 | @cons p q ps qs h t ih=>
  obtain ⟨h1,h2⟩:=h
  by_cases e:p.1=k
  ·have e':q.1=k:=h1.symm.trans e;have b:valueAt (q::qs) k=some q.2:=by simp [valueAt,C2,e']
   rw [Jh e,b];exact h2
  ·have e':¬ q.1=k:=fun z=>e (h1.trans z);have b:valueAt (q::qs) k=valueAt qs k:=by simp [valueAt,C2,e']
   rw [zZ e,b];exact ih
theorem KV.any {kvs:List (κ×V)} {vs:List (κ×Value)} (r:KV kvs vs) (k:κ):(kvs.any fun kv=>decide (kv.1=k))=vs.any fun kv=>decide (kv.1=k):=by
 unfold KV at r
 induction r with
 | nil=>rfl
 | cons h t ih=>rw [Cw,Cw,ih,h.1]
theorem KV.repl {kvs:List (κ×V)} {vs:List (κ×Value)} (r:KV kvs vs) (k:κ) {y:V} {u:Value} (ry:qN y u):
  KV (kvs.map fun kv=>if kv.1=k then (kv.1,y) else kv) (vs.map fun kv=>if kv.1=k then (kv.1,u) else kv):=by
 unfold KV at r ⊢
 induction r with
 | nil=>exact .nil
 | @cons p q ps qs h t ih=>
  rw [Ba,Ba];refine .cons ?_ ih;obtain ⟨h1,h2⟩:=h
  by_cases e:p.1=k
  ·rw [if_pos e,if_pos (h1.symm.trans e)];exact ⟨h1,ry⟩
  ·rw [if_neg e,if_neg (fun z=>e (h1.trans z))];exact ⟨h1,h2⟩
theorem KV.put {kvs:List (κ×V)} {vs:List (κ×Value)} (r:KV kvs vs) (k:κ) {y:V} {u:Value} (ry:qN y u):KV (zG kvs k y) (stored vs k u):=by
 unfold zG stored;rw [r.any k]
 by_cases e:(vs.any fun kv=>decide (kv.1=k))=true
 ·rw [if_pos e,if_pos e];exact r.repl k ry
 ·rw [if_neg e,if_neg e];exact Paired.snoc r ⟨rfl,ry⟩
theorem KV.keys {kvs:List (κ×V)} {vs:List (κ×Value)} (r:KV kvs vs):kvs.map (·.1)=vs.map (·.1):=by
 unfold KV at r
 induction r with
 | nil=>rfl
 | cons h t ih=>rw [Ba,Ba,ih,h.1]
theorem KV.length {kvs:List (κ×V)} {vs:List (κ×Value)} (r:KV kvs vs):kvs.length=vs.length:=Cm r
end
theorem QN {P:Program} {w:World} {k:Key} {u:Value} (r:qN (kV k) u):(zo P w).is k u=true:=by
 cases k with
 | inl i=>obtain ⟨t,e⟩:=(show ∃ t,u=Value.int i t from r);subst e;exact QM P w i t
 | inr x=>obtain ⟨t,e⟩:=(show ∃ t,u=Value.str x t from r);subst e;exact WQ P w x t
theorem XW {P:Program} {w:World}:∀ {ks:List Key} {us:List Value},qM (ks.map kV) us→ItemsAre (zo P w) ks us
 | [],_,r=>by rw [Ej] at r;cases r;exact .nil
 | k::ks,_,r=>by
  rw [Ba] at r;cases r with
  | cons h t=>exact .cons (QN h) (XW t)
abbrev KT (H:Hp):List (List Key×V)→List (List Key×Addr×Value)→Prop:=Paired fun p q=>p.1=q.1∧H q.2.1=some (.tup (p.1.map kV))∧qN p.2 q.2.2
theorem KT.val {H:Hp} {kvs:List (List Key×V)} {xs:List (List Key×Addr×Value)} (r:KT H kvs xs) (k:List Key):VC (vP kvs k) ((atKey xs k).map (·.2)):=by
 induction r with
 | nil=>exact True.intro
 | @cons p q ps qs h t ih=>
  obtain ⟨h1,_,h2⟩:=h
  by_cases e:p.1=k
  ·have e':q.1=k:=h1.symm.trans e;have b:atKey (q::qs) k=some q.2:=by simp [atKey,C2,e']
   rw [Jh e,b];exact h2
  ·have e':¬ q.1=k:=fun z=>e (h1.trans z);have b:atKey (q::qs) k=atKey qs k:=by simp [atKey,C2,e']
   rw [zZ e,b];exact ih
theorem KT.repl {H:Hp} {kvs:List (List Key×V)} {xs:List (List Key×Addr×Value)} (r:KT H kvs xs) (k:List Key) {y:V} {u:Value} (ry:qN y u):
  KT H (kvs.map fun kv=>if kv.1=k then (kv.1,y) else kv) (xs.map (putAt k u)):=by
 induction r with
 | nil=>exact .nil
 | @cons p q ps qs h t ih=>
  rw [Ba,Ba];refine .cons ?_ ih;obtain ⟨h1,h2,h3⟩:=h;unfold putAt
  by_cases e:p.1=k
  ·rw [if_pos e,if_pos (h1.symm.trans e)];exact ⟨h1,h2,ry⟩
  ·rw [if_neg e,if_neg (fun z=>e (h1.trans z))];exact ⟨h1,h2,h3⟩
theorem KT.put {H:Hp} {kvs:List (List Key×V)} {xs:List (List Key×Addr×Value)} (r:KT H kvs xs) (k:List Key) {b:Addr} {y:V} {u:Value} (hb:H b=some (.tup (k.map kV))) (ry:qN y u):
  KT H (zG kvs k y) (storedH xs k b u):=by
 have e:(kvs.any fun kv=>decide (kv.1=k))=(atKey xs k).isSome:=by
  rw [vW,(r.val k).isSome_eq,Option.isSome_map]
 unfold zG storedH;rw [e]
 by_cases q:(atKey xs k).isSome=true
 ·rw [if_pos q,if_pos q];exact r.repl k ry
 ·rw [if_neg q,if_neg q];exact Paired.snoc r ⟨rfl,hb,ry⟩
theorem KT.keeps {H H':Hp} {kvs:List (List Key×V)} {xs:List (List Key×Addr×Value)} (r:KT H kvs xs) (ht:∀ b ys,H b=some (.tup ys)→H' b=some (.tup ys)):KT H' kvs xs:=
 Paired.mapP r fun _ _ z=>⟨z.1,ht _ _ z.2.1,z.2.2⟩
section
variable {P:Program} {w:World} {H:Hp} {h:Heap} {a:Addr}
theorem qjl {u:HO} (ok:HOk P w H h) (e:Rd H a u):zL P w H h a u:=e.ok ok
theorem qdc {kvs:List (Key×V)} (ok:HOk P w H h) (e:Rd H a (.dK kvs)):kvs.length≤sizeLine∧(a==sysModules)=false∧∃ vs,KV kvs vs∧h.DictOf (zo P w) a vs:=
 show zL P w H h a (.dK kvs) from qjl ok e
theorem qjs {kvs:List (Key×V)} (ok:HOk P w H h) (e:H a=some (.dK kvs)):kvs.length≤sizeLine∧(a==sysModules)=false∧∃ vs,KV kvs vs∧h.DictOf (zo P w) a vs:=qdc ok (.inl e)
theorem ZF {ks:List Key} (ok:HOk P w H h) (e:H a=some (.tup (ks.map kV))):(tupleKind (zo P w)).is h ks a:=by
 obtain ⟨_,its,r,o,h1,h2,n,h3⟩:=(show zL P w H h a (.tup (ks.map kV)) from ok a _ e);exact ⟨o,its.toArray,n,h1,h2,h3,by simpa using XW r⟩
theorem qdb {kvs:List (List Key×V)} (ok:HOk P w H h) (e:Rd H a (.dT kvs)):kvs.length≤sizeLine∧(a==sysModules)=false∧
  ∃ xs,KT H kvs xs∧h.DictOfH (tupleKind (zo P w)) a xs:=by
 obtain ⟨z,y,xs,r,o,es,ep,h1,h2,h3,h4,h5⟩:=(show zL P w H h a (.dT kvs) from qjl ok e);refine ⟨z,y,xs,r,o,es,ep,h1,h2,h3,h4,fun x hx=>?_,h5⟩;have all:∀ {l:List (List Key×V)} {m:List (List Key×Addr×Value)},KT H l m→∀ x∈m,(tupleKind (zo P w)).is h x.1 x.2.1:=by
  intro l m q
  induction q with
  | nil=>intro x hx;exact nomatch hx
  | @cons p q ps qs hq t ih=>
   intro x hx;rcases Ao.mp hx with e | hx
   ·subst e;exact ZF ok (by rw [← hq.1];exact hq.2.1)
   ·exact ih x hx
 exact all r x hx
theorem qmz {kvs:List (List Key×V)} (ok:HOk P w H h) (e:H a=some (.dT kvs)):kvs.length≤sizeLine∧(a==sysModules)=false∧
  ∃ xs,KT H kvs xs∧h.DictOfH (tupleKind (zo P w)) a xs:=qdb ok (.inl e)
end
def vL (H:Hp) (a:Addr) (y:V) (r:Option V):Prop:=
 (∃ kvs k,Rd H a (.dK kvs)∧y=kV k∧r=vP kvs k)∨∃ kvs k b,Rd H a (.dT kvs)∧y= .ref b∧H b=some (.tup (k.map kV))∧r=vP kvs k
def yA (H:Hp) (a:Addr) (y v:V) (H':Hp):Prop:=
 (∃ kvs k,H a=some (.dK kvs)∧y=kV k∧kvs.length<sizeLine∧H'=upd H a (.dK (zG kvs k v)))∨
 ∃ kvs k b,H a=some (.dT kvs)∧y= .ref b∧H b=some (.tup (k.map kV))∧kvs.length<sizeLine∧H'=upd H a (.dT (zG kvs k v))
theorem vL.k {H:Hp} {a:Addr} {kvs:List (Key×V)} {k:Key} (e:H a=some (.dK kvs)):vL H a (kV k) (vP kvs k):= .inl ⟨kvs,k,.inl e,rfl,rfl⟩
theorem yA.k {H:Hp} {a:Addr} {kvs:List (Key×V)} {k:Key} {v:V} (e:H a=some (.dK kvs)) (hl:kvs.length<sizeLine):yA H a (kV k) v (upd H a (.dK (zG kvs k v))):= .inl ⟨kvs,k,e,rfl,hl,rfl⟩
section
variable {X:Cx} {pins:List (Addr×Obj)} {σ:St} {H:Hp} {s:Shared} {a:Addr} {y v:V} {u r:Value} {o:Option V} {A:Around} {E:Value→Shared→Prop}
theorem Inv.big (I:Inv X pins σ H s):sysModules<s.heap.objs.size:=by
 have h:mainGlobals<s.heap.objs.size:=(I.mod.glob.keeps I.bk).lt;exact Nat.lt_trans O0 h
theorem qet {Q:Value→Shared→Prop} (hu:A.units+1<cLine) (I:Inv X pins σ H s) (g:vL H a y (some v)) (ry:qN y u) (h:∀ w' s',Inv X pins σ H s'→qN v w'→Q w' s'):
  wpAny (model X.prog X.w) A (getItem (.ref a) u) Q E s:=by
 rcases g with ⟨kvs,k,e,ey,l⟩ | ⟨kvs,k,b,e,ey,eb,l⟩
 ·subst ey;obtain ⟨z,hd,vs,rel,dd⟩:=qdc I.hok e;obtain ⟨w',hw,rw'⟩:=VC.some_of (v:=v) (o:=valueAt vs k) (by rw [l];exact rel.val k)
  exact wpAny_getItem_of (QN ry) dd.mapOf hw (h w' _ (I.tok _) rw')
 ·subst ey;cases (show u=Value.ref b from ry);obtain ⟨z,hd,xs,rel,dd⟩:=qdb I.hok e;obtain ⟨w',hw,rw'⟩:=VC.some_of (v:=v) (o:=(atKey xs k).map (·.2)) (by rw [l];exact rel.val k)
  obtain ⟨p,hp,hp2⟩:=Option.map_eq_some_iff.mp hw;refine wpAny_getItem_heap (tupleKind_room_in1 hu) (ZF I.hok eb) dd hp ?_;rw [hp2];exact h w' _ (I.tok _) rw'
theorem d_in {Q:Value→Shared→Prop} (hu:A.units+1<cLine) (I:Inv X pins σ H s) (g:vL H a y o) (ry:qN y u) (h:∀ s',Inv X pins σ H s'→Q (.bool o.isSome) s'):
  wpAny (model X.prog X.w) A (compareOp .In u (.ref a)) Q E s:=by
 rcases g with ⟨kvs,k,e,ey,l⟩ | ⟨kvs,k,b,e,ey,eb,l⟩
 ·subst ey;obtain ⟨z,hd,vs,rel,dd⟩:=qdc I.hok e;refine wpAny_in_of (QN ry) hd dd.mapOf ?_;rw [← (rel.val k).isSome_eq,← l];exact h _ (I.tok _)
 ·subst ey;cases (show u=Value.ref b from ry);obtain ⟨z,hd,xs,rel,dd⟩:=qdb I.hok e;refine wpAny_in_heap (tupleKind_room_in1 hu) (ZF I.hok eb) hd dd ?_;have q:=(rel.val k).isSome_eq;rw [Option.isSome_map] at q;rw [← q,← l];exact h _ (I.tok _)
theorem ZP {h':Heap} {t':Nat} {ob:HO} (I:Inv X pins σ H s) (mu:Mut (H a)) (hs:Heap.SameBut a s.heap h') (he:∃ q,h'.get? a=some q) (new:zL X.prog X.w (upd H a ob) h' a ob):
  Inv X pins σ (upd H a ob) {s with heap:=h',toks:=t'}:=
 I.write (x:=a) (e:=a) mu (.inl rfl) (fun b q hb z=>(hs.2 b hb).trans z) he new
theorem qha {P:Program} {w:World} {H':Hp} {h':Heap} {kvs:List (Key×V)} {vs:List (Key×Value)} (z:kvs.length≤sizeLine) (hd:(a==sysModules)=false) (rel:KV kvs vs) (dd:h'.DictOf (zo P w) a vs):
  zL P w H' h' a (.dK kvs):=⟨z,hd,vs,rel,dd⟩
theorem qes {H':Hp} {Q:Unit→Shared→Prop} (hu:A.units+1<cLine) (I:Inv X pins σ H s) (g:yA H a y v H') (ry:qN y u) (rv:qN v r) (h:∀ s',Inv X pins σ H' s'→Q () s'):
  wpAny (model X.prog X.w) A (setItem (.ref a) u r) Q E s:=by
 rcases g with ⟨kvs,k,e,ey,l,eH⟩ | ⟨kvs,k,b,e,ey,eb,l,eH⟩
 ·subst ey eH;obtain ⟨z,hd,vs,rel,dd⟩:=qjs I.hok e;have hz:vs.length≤sizeLine:=by rw [← rel.length];exact z
  have hl:(zG kvs k v).length≤sizeLine:=by have:=Vc kvs k v;omega
  refine wpAny_setItem_pairs (hsz:=hz) (QN ry) dd fun h' dd' hs=>h _ ?_;have he:∃ q,h'.get? a=some q:=let ⟨q,_,_,hq,_⟩:=dd';⟨q,hq⟩;exact ZP I (by rw [e];exact True.intro) hs he (qha hl hd (rel.put k rv) dd')
 ·subst ey eH;cases (show u=Value.ref b from ry);obtain ⟨z,hd,xs,rel,dd⟩:=qmz I.hok e;have hz:xs.length≤sizeLine:=by rw [← Cm rel];exact z
  have hl:(zG kvs k v).length≤sizeLine:=by have:=Vc kvs k v;omega
  refine wpAny_setItem_heap (hsz:=hz) (tupleKind_room_in1 hu) (ZF I.hok eb) dd fun h' dd' hs=>h _ ?_;obtain ⟨q,es,ep,hq,h2,h3,h4,_,h5⟩:=dd';refine ZP I (by rw [e];exact True.intro) hs ⟨q,hq⟩ ⟨hl,hd,_,(rel.put k eb rv).keeps fun c ys ec=>?_,q,es,ep,hq,h2,h3,h4,h5⟩
  rw [qk (qgn ec e (fun z=>nomatch z))];exact ec
end
section
variable {X:Cx} {pins:List (Addr×Obj)} {σ:St} {H:Hp} {s:Shared} {a:Addr} {kvs:List (Key×V)} {k:Key} {u:Value} {A:Around} {E:Value→Shared→Prop}
end
def qja (i:Expr):Prop:=∀ ov iv,subscripted i false ov iv=operate [ov,iv] (getItem ov iv)
theorem Zf {prog:Program} {w:World} {A:Around} {E:Value→Shared→Prop} {s:Shared} {env:Env} {value slice:Expr} {pos:Pos} {T id:String} {Q:Value→Shared→Prop}
  (hl:typeLookup (.type T) "__getitem__"=pure (some (.builtin id))) (hs:qja slice)
  (h:wpAny (model prog w) A (eval value env) (fun o s₁=>wpAny (model prog w) A (eval slice env) (fun i s₂=>s₂.TypeIs o T∧wpAny (model prog w) A (getItem o i) Q E s₂) E s₁) E s):
  wpAny (model prog w) A (eval (.Subscript value slice pos) env) Q E s:=by
 refine Subscript_ (Ed h (fun o s₁ h₁=>Ed h₁ (fun i s₂ h₂=>?_) fun _ _ x=>x) fun _ _ x=>x);obtain ⟨hT,h₂⟩:=h₂;unfold subscriptTail;refine Aa ?_;rw [getitemInPython_of_ne hT.not_modules];refine Aa (Di hT hl ?_);have fin:wpAny (model prog w) A (subscripted slice false o i) (fun r s₃=>wpAny (model prog w) A (letTemporaryGo value o r>>=fun _=>pure r) Q E s₃) E s₂:=by
  rw [hs o i];exact wpAny_operating (Ed h₂ (fun r s₃ h₃=>Aa (wpAny_letTemporaryGo (Aq h₃))) fun _ _ x=>x)
 first
  | exact Aq (Aa fin)
  | exact Aa (Aq (Aa fin))
  | exact Aa fin
theorem Q7 {X:Cx} {pins:List (Addr×Obj)} {σ:St} {H:Hp} {s:Shared} {a:Addr} {y:V} {o:Option V} (I:Inv X pins σ H s) (g:vL H a y o):s.TypeIs (.ref a) "dict":=by
 rcases g with ⟨kvs,k,e,_,_⟩ | ⟨kvs,k,b,e,_,_,_⟩
 ·obtain ⟨_,_,vs,_,dd⟩:=qdc I.hok e;exact dd.typeIs
 ·obtain ⟨_,_,xs,_,dd⟩:=qdb I.hok e;exact dd.typeIs
def VD (td ty:TE):TE:=fun σ H Q=>td σ H fun x H1=>ty σ H1 fun y H2=>∃ a v,x= .ref a∧vL H2 a y (some v)∧Q v H2
def qlz (ty td:TE):TE:=fun σ H Q=>ty σ H fun y H1=>td σ H1 fun x H2=>∃ a o,x= .ref a∧vL H2 a y o∧Q (.bl o.isSome) H2
def XI (td ty tv:TE):TS:=fun D σ H=>tv σ H fun v H1=>td σ H1 fun x H2=>ty σ H2 fun y H3=>∃ a H4,x= .ref a∧yA H3 a y v H4∧D.nx σ H4
section
variable {X:Cx} {o i e value:Expr} {pos pos' tpos:Pos} {td ty tv:TE}
theorem zS (hu:X.A.units+1<cLine) (ho:PE X o td) (hi:PE X i ty) (hs:qja i):PE X (.Subscript o i pos) (VD td ty):=by
 intro pins s σ H Q I h;refine Zf PySem.F.slot_dict_getitem.lookup hs (thn (ho pins s σ H _ I h) fun u s1 ⟨x,H1,I1,rx,q1⟩=>thn (hi pins s1 σ H1 _ I1 q1) fun iv s2 ⟨y,H2,I2,ry,a,v,ex,g,q2⟩=>?_);subst ex;obtain rfl:u=Value.ref a:=rx;exact ⟨Q7 I2 g,qet hu I2 g ry fun w' s3 I3 rw'=>⟨v,H2,I3,rw',q2⟩⟩
theorem qkr (hu:X.A.units+1<cLine) (hi:PE X i ty) (ho:PE X o td):PC X .In i o (qlz ty td):=by
 intro pins s σ H Q I h;refine thn (hi pins s σ H _ I h) fun iv s1 ⟨y,H1,I1,ry,q1⟩=>thn (ho pins s1 σ H1 _ I1 q1) fun u s2 ⟨x,H2,I2,rx,a,ov,ex,g,q2⟩=>?_;subst ex;obtain rfl:u=Value.ref a:=rx;exact d_in hu I2 g ry fun s3 I3=>⟨.bl ov.isSome,H2,I3,rfl,q2⟩
theorem JX (hu:X.A.units+1<cLine) (ho:PE X o td) (hi:PE X i ty) (hv:PE X value tv) (hs:swapsWith value (some (.Subscript o i pos')) pos.line X.env=pure false):
  PS X (.Assign [.Subscript o i pos'] value pos) (XI td ty tv):=by
 intro pins s σ H D I h;refine wpAny_Assign_Subscript (thn (hv pins s σ H _ I h) fun r s1 ⟨v,H1,I1,rv,q1⟩=>thn (ho pins s1 σ H1 _ I1 q1) fun u s2 ⟨x,H2,I2,rx,q2⟩=>thn (hi pins s2 σ H2 _ I2 q2) fun iv s3 ⟨y,H3,I3,ry,a,H4,ex,g,q3⟩=>?_) hs;subst ex;obtain rfl:u=Value.ref a:=rx;exact qes hu I3 g ry rv fun s4 I4=>⟨σ,H4,I4,q3⟩
end
theorem Q6 {P:Program} {w:World} {H:Hp} (h:Heap) (hb:sysModules<h.objs.size):zL P w H (h.push {cls:= .type "dict",data:= .dict #[]}) h.objs.size (.dK []):=
 ⟨Bw _,Bk.mpr (Ne.symm (Bn hb)),[],.nil,Heap.DictOf.new h⟩
def wE:TE:=fun _ H Q=>∀ p,H p=none→Q (.ref p) (upd H p (.dK []))
section
variable {X:Cx} {pos:Pos}
theorem v6:PE X (.Dict [] [] pos) wE:=fun pins s σ H Q I h=>
 wpAny_Dict_empty ⟨.ref s.heap.objs.size,_,I.laid (a:=s.heap.objs.size) (o:= .dK []) (t':=s.toks) (fun _ _ q=>Aj _ q) (Ag _) (Q6 s.heap I.big),rfl,h _ (I.hok.fresh (Ag _))⟩
end
def qa8:List (TE×TE)→St→Hp→(List (V×V)→Hp→Prop)→Prop
 | [],_,H,Q=>Q [] H
 | (tk,tv)::r,σ,H,Q=>tk σ H fun x H1=>tv σ H1 fun y H2=>qa8 r σ H2 fun ps H3=>Q ((x,y)::ps) H3
abbrev VV:List (V×V)→List (Value×Value)→Prop:=Paired fun p q=>qN p.1 q.1∧qN p.2 q.2
def PPs (X:Cx) (pos:Pos) (keys:List (Option Expr)) (values:List Expr) (trs:List (TE×TE)):Prop:=
 ∀ (pins:List (Addr×Obj)) (s:Shared) (σ:St) (H:Hp) (Q:List (V×V)→Hp→Prop),Inv X pins σ H s→qa8 trs σ H Q→
  wpAny (model X.prog X.w) X.A (evalPairs (pairTrees keys values X.env pos)) (fun vs s'=>∃ ps H',Inv X pins σ H' s'∧VV ps vs∧Q ps H') X.xe s
theorem qid {X:Cx} {pos:Pos}:PPs X pos [] [] []:=fun pins s σ H Q I h=>pairTrees_nil_walk ⟨[],H,I,.nil,h⟩
theorem v5 {X:Cx} {pos:Pos} {k v:Expr} {ks:List (Option Expr)} {vs:List Expr} {tk tv:TE} {trs:List (TE×TE)} (hk:PE X k tk) (hv:PE X v tv) (hr:PPs X pos ks vs trs):
  PPs X pos (some k::ks) (v::vs) ((tk,tv)::trs):=fun pins s σ H Q I h=>
 pairTrees_cons_walk (thn (hk pins s σ H _ I h) fun u s1 ⟨x,H1,I1,rx,q1⟩=>thn (hv pins s1 σ H1 _ I1 q1) fun w2 s2 ⟨y,H2,I2,ry,q2⟩=>
  thn (hr pins s2 σ H2 _ I2 q2) fun ws s3 ⟨ps,H3,I3,rel,q3⟩=>⟨(x,y)::ps,H3,I3,.cons ⟨rx,ry⟩ rel,q3⟩)
def V5 (kvs more:List (Key×V)):List (Key×V):=more.foldl (fun acc kv=>zG acc kv.1 kv.2) kvs
theorem KV.merge:∀ {more:List (Key×V)} {rs:List (Key×Value)} {kvs:List (Key×V)} {vs:List (Key×Value)},KV more rs→KV kvs vs→KV (V5 kvs more) (merged vs rs):=by
 intro more rs kvs vs r;unfold KV at r
 induction r generalizing kvs vs with
 | nil=>intro q;exact q
 | @cons p q ps qs h t ih=>
  intro r0;have e:KV (zG kvs p.1 p.2) (stored vs q.1 q.2):=by
   have:=r0.put p.1 h.2;rw [← h.1];exact this
  exact ih e
theorem VO:∀ (more kvs:List (Key×V)),(V5 kvs more).length≤kvs.length+more.length
 | [],kvs=>by show kvs.length≤kvs.length+0;omega
 | p::r,kvs=>by
  have h1:=VO r (zG kvs p.1 p.2);have h2:=Vc kvs p.1 p.2;show (V5 (zG kvs p.1 p.2) r).length≤_;rw [Ak];omega
theorem Yu {P:Program} {w:World}:∀ {kvs:List (Key×V)} {ws:List (Value×Value)},VV (kvs.map fun kv=>(kV kv.1,kv.2)) ws→∃ rs,Carries (zo P w) ws rs∧KV kvs rs
 | [],_,r=>by rw [Ej] at r;cases r;exact ⟨[],True.intro,.nil⟩
 | p::kvs,_,r=>by
  rw [Ba] at r;cases r with
  | @cons a b as bs h t=>
   obtain ⟨rs,c,q⟩:=Yu (P:=P) (w:=w) t;obtain ⟨b1,b2⟩:=b;exact ⟨(p.1,b2)::rs,⟨QN h.1,rfl,c⟩,.cons ⟨rfl,h.2⟩ q⟩
def qjh (trs:List (TE×TE)):TE:=fun σ H Q=>∀ p,H p=none→qa8 trs σ (upd H p (.dK [])) fun ps H2=>H2 p=some (.dK [])∧∃ kvs:List (Key×V),ps=kvs.map (fun kv=>(kV kv.1,kv.2))∧kvs.length≤15∧Q (.ref p) (upd H2 p (.dK (V5 [] kvs)))
theorem qih {X:Cx} {pos:Pos} {keys:List (Option Expr)} {values:List Expr} {trs:List (TE×TE)} (h:PPs X pos keys values trs) (hall:keys.all (·.isSome)=true) (hl:keys.length=values.length) (h0:keys≠[])
  (h15:keys.length≤15):PE X (.Dict keys values pos) (qjh trs):=by
 intro pins s σ H Q I q;have hn:=I.hok.fresh (Ag s.heap.objs.size);have I1:=I.laid (a:=s.heap.objs.size) (o:= .dK []) (h':=s.heap.push {cls:= .type "dict",data:= .dict #[]}) (t':=s.toks) (fun _ _ q=>Aj _ q) (Ag _) (Q6 s.heap I.big);refine wpAny_Dict_walk (knd:=zo X.prog X.w) hall hl h0 h15 (thn (h pins _ σ _ _ I1 (q _ hn)) fun ws s2 ⟨ps,H2,I2,rel,e,kvs,ep,lk,q2⟩=>?_);subst ep;obtain ⟨rs,c,rk⟩:=Yu (P:=X.prog) (w:=X.w) rel;obtain ⟨z,hd,vs0,r0,dd⟩:=qjs I2.hok e;cases r0;refine ⟨rs,c,dd,fun h' dd' hs=>⟨.ref s.heap.objs.size,_,?_,rfl,q2⟩⟩;have hz:(V5 [] kvs).length≤sizeLine:=by
  have h1:=VO kvs [];rw [B1] at h1;rw [sizeLine_eq];omega
 have he:∃ q,h'.get? s.heap.objs.size=some q:=let ⟨q,_,_,hq,_⟩:=dd';⟨q,hq⟩;exact ZP I2 (by rw [e];exact True.intro) hs he (qha hz hd (rk.merge .nil) dd')
section
variable {X:Cx} {pins:List (Addr×Obj)} {σ:St} {H:Hp} {s:Shared} {a:Addr} {y d:V} {u r:Value} {o:Option V} {A:Around} {E:Value→Shared→Prop}
end
section
variable {X:Cx} {o e f:Expr} {apos cpos:Pos} {td ty tx:TE}
end
section
variable {X:Cx} {pins:List (Addr×Obj)} {σ:St} {H:Hp} {s:Shared} {a:Addr} {kvs:List (Key×V)} {A:Around} {E:Value→Shared→Prop}
end
section
variable {X:Cx} {pins:List (Addr×Obj)} {σ:St} {H:Hp} {s:Shared} {a:Addr} {y:V} {u:Value} {A:Around} {E:Value→Shared→Prop}
end
section
variable {X:Cx}
end
section
variable {κ:Type} [DecidableEq κ]
end
end L2
set_option maxHeartbeats 4000000
set_option maxRecDepth 100000
namespace L2
open PySem PySem.Spec PyProof.Rows
theorem Inv.track {X:Cx} {pins:List (Addr×Obj)} {σ:St} {H:Hp} {s:Shared} {D:Addr} {o:HO} (I:Inv X pins σ H s) (f:wB X pins H D) (new:zL X.prog X.w (upd H D o) s.heap D o):Inv X pins σ (upd H D o) s:=by
 obtain ⟨f0,f1,f2,f3,f4,f5⟩:=f;show Inv X pins σ (upd H D o) {s with heap:=s.heap,gens:=s.gens,drawn:=s.drawn,toks:=s.toks}
 refine I.step (g':=s.gens) (d':=s.drawn) (t':=s.toks) (h':=s.heap) (ch:=[D]) (fun b hb=>?_) (fun b o _ _ _ e _=>e) (fun b o _ _ _ e _=>⟨o.slots,e⟩) (fun b ob hc e n=>?_) (fun b ob _ e=>⟨ob,e⟩)
  (fun b xs e=>?_) (fun b ob u e=>?_) (fun b ps e=>⟨#[],?_⟩) (fun m hm=>hm) (fun b u e=>?_) I.bare
 ·have z:b=D:=by simpa using hb
  subst z;exact ⟨f3,f1,f4,f5⟩
 ·rw [qk (fun z=>hc (by simp [z]))];exact n
 ·rw [qk (qD e f0)];exact e
 ·rw [qk (qD e f0)];exact e
 ·rw [qk (qD e f0),e];simp
 ·by_cases hb:b=D
  ·subst hb;rw [upd_same] at e;cases e;exact new
  ·rw [qk hb] at e;exact (I.hok b u e).stay (fun c v _ q=>q) (fun c q=>by rw [qk (qD q f0)];exact q) fun c xs q=>by rw [qk (qD q f0)];exact q
theorem Vl {env:Env} {f:Str×NameKind→List (Str×Addr)→Sem (ForInStep (List (Str×Addr)))} (h1:∀ n k cs,k≠ .free→f (n,k) cs=pure (.yield cs))
  (h2:∀ n cs c,env.cells.lookup n=some c→f (n,.free) cs=pure (.yield ((n,c)::cs))):∀ (names:List (Str×NameKind)) (acc:List (Str×Addr)),(∀ y∈names,y.2= .free→∃ c,env.cells.lookup y.1=some c)→
   ∃ cl,forIn names acc f=pure cl∧(∀ x c,cl.lookup x=some c→acc.lookup x=some c∨env.cells.lookup x=some c)∧(∀ x,(acc.lookup x).isSome=true→(cl.lookup x).isSome=true)∧
    ∀ y∈names,y.2= .free→(cl.lookup y.1).isSome=true
 | [],acc,_=>⟨acc,rfl,fun x c e=> .inl e,fun x e=>e,fun y hy=>absurd hy (by simp)⟩
 | (n,k)::r,acc,h=>by
  have hr:∀ y∈r,y.2= .free→∃ c,env.cells.lookup y.1=some c:=fun y hy=>h y (A9 _ hy)
  by_cases hk:k= .free
  ·subst hk;obtain ⟨c,hc⟩:=h (n,.free) A5 rfl;obtain ⟨cl,e,a1,a2,a3⟩:=Vl h1 h2 r ((n,c)::acc) hr;refine ⟨cl,by rw [Ep,h2 n acc c hc,pure_bind];exact e,fun x d hx=>?_,fun x hx=>a2 x ?_,fun y hy hf=>?_⟩
   ·rcases a1 x d hx with q | q
    ·rw [Cb] at q;cases z:x==n with
     | true=>
      rw [z] at q;have z':x=n:=by simpa using z
      subst z';cases q;exact .inr hc
     | false=>rw [z] at q;exact .inl q
    ·exact .inr q
   ·rw [Cb];cases x==n with
    | true=>rfl
    | false=>exact hx
   ·rcases Ao.mp hy with z | z
    ·subst z;refine a2 n ?_;rw [Cb];simp
    ·exact a3 y z hf
  ·obtain ⟨cl,e,a1,a2,a3⟩:=Vl h1 h2 r acc hr;refine ⟨cl,by rw [Ep,h1 n k acc hk,pure_bind];exact e,a1,a2,fun y hy hf=>?_⟩
   rcases Ao.mp hy with z | z
   ·subst z;exact absurd hf hk
   ·exact a3 y z hf
theorem Yt {scope:Scope} {env:Env} (h:∀ y∈scope.names,y.2= .free→∃ c,env.cells.lookup y.1=some c):
  ∃ cl,closureFor scope env=pure cl∧(∀ x c,cl.lookup x=some c→env.cells.lookup x=some c)∧∀ y∈scope.names,y.2= .free→∃ c,cl.lookup y.1=some c:=by
 obtain ⟨cl,e,a1,_,a3⟩:=Vl (env:=env) (f:=fun x r=>if (x.2==NameKind.free)=true then (do let c ← cellOf env x.1;pure (ForInStep.yield ((x.1,c)::r))) else pure (ForInStep.yield r)) (fun n k cs hk=>by
  have z:(k==NameKind.free)=false:=by simpa using hk
  simp only [z,Bool.false_eq_true,if_false]) (fun n cs c hc=>by
  simp only [beq_self_eq_true,if_true,cellOf,hc,pure_bind]) scope.names [] h
 simp only [closureFor];refine ⟨cl,by rw [e,pure_bind],fun x c q=>?_,fun y hy hf=>Option.isSome_iff_exists.mp (a3 y hy hf)⟩
 rcases a1 x c q with z | z
 ·cases z
 ·exact z
theorem Zm {scope:Scope} {env:Env} {x:Str} (hcell:∀ y∈scope.names,y.2≠ .cell) (h:(relabel scope env).names.lookup x=some .cell∨(relabel scope env).names.lookup x=some .free):scope.names.lookup x=some .free:=by
 unfold relabel at h;dsimp only at h;generalize scope.names=l at h hcell
 induction l with
 | nil=>rcases h with h | h <;> cases h
 | cons y r ih=>
  obtain ⟨n,k⟩:=y;have hr:∀ y∈r,y.2≠ .cell:=fun y hy=>hcell y (A9 _ hy);have hk:k≠ .cell:=hcell (n,k) A5;rw [Ba] at h;dsimp only at h;rw [Cb];cases hx:x==n with
  | true=>
   dsimp only
   by_cases hc:(k==NameKind.free&&env.scope.kind== .function&&env.kindOf n==some .cell)=true
   ·simp only [Ae,A4] at hc;rw [hc.1.1]
   ·rw [if_neg hc,Cb,hx] at h;dsimp only at h;rcases h with h | h
    ·exact absurd (Bg h) hk
    ·exact h
  | false=>
   dsimp only;refine ih ?_ hr
   by_cases hc:(k==NameKind.free&&env.scope.kind== .function&&env.kindOf n==some .cell)=true
   ·rw [if_pos hc,Cb,hx] at h;exact h
   ·rw [if_neg hc,Cb,hx] at h;exact h
theorem Zn {scope:Scope} {env:Env} {x:Str} (h:scope.names.lookup x=some .free):(relabel scope env).names.lookup x=some .cell∨(relabel scope env).names.lookup x=some .free:=by
 unfold relabel;dsimp only;generalize scope.names=l at h
 induction l with
 | nil=>cases h
 | cons y r ih=>
  obtain ⟨n,k⟩:=y;rw [Cb] at h;rw [Ba];dsimp only;cases hx:x==n with
  | true=>
   rw [hx] at h;have hk:k= .free:=Bg h;subst hk
   by_cases hc:(NameKind.free==NameKind.free&&env.scope.kind== .function&&env.kindOf n==some .cell)=true
   ·rw [if_pos hc,Cb,hx];exact .inl rfl
   ·rw [if_neg hc,Cb,hx];exact .inr rfl
  | false=>
   rw [hx] at h
   by_cases hc:(k==NameKind.free&&env.scope.kind== .function&&env.kindOf n==some .cell)=true
   ·rw [if_pos hc,Cb,hx];exact ih h
   ·rw [if_neg hc,Cb,hx];exact ih h
theorem V6 {scope:Scope} {env:Env} {x:Str} (h:scope.names.lookup x=some .free):¬ (relabel scope env).names.lookup x=some .local:=fun e=>by
 rcases Zn (env:=env) h with q | q <;> (rw [e] at q;cases q)
def cxC (X:Cx) (scope:Scope) (cl:List (Str×Addr)) (C:Addr) (N:List Str) (fp:List Addr) (s:Shared) (H:Hp):Cx where
 prog:=X.prog
 w:=X.w
 K:=X.K
 mg:=X.mg
 base:=X.base
 A:=X.A
 N:=N
 s₀:=s
 H₀:=H
 env:=compEnvC scope cl C X.env
 outer:=X.stack
 stack:=X.stack
 ex:=fp
 fn:=fun _=>false
 calm:=X.calm
 pn:=[]
 xe:=fun _ _=>False
def j6 (js:List (Option Nat)) (σ:St):St:=js.map fun j=>match j with
 | some i=>(σ[i]?).join
 | none=>none
structure CompScope (sc scope:Scope) (NX N:List Str) (js:List (Option Nat)):Prop where
 cell:∀ y∈scope.names,y.2≠ .cell
 kind:scope.kind= .function
 names:∀ y∈scope.names,y.2= .local→scope.names.lookup y.1=some .local
 free:∀ y∈scope.names,y.2= .free→sc.names.lookup y.1=some .cell∨sc.names.lookup y.1=some .free
 len:js.length=N.length
 out:∀ p∈js.zip N,∀ j∈p.1,NX[j]?=some p.2∧scope.names.lookup p.2=some .free
def PF (X:Cx) (ifs:List Expr) (t:TT):Prop:=
 ∀ (pins:List (Addr×Obj)) (s:Shared) (σ:St) (H:Hp) (Q:Bool→Hp→Prop),Inv X pins σ H s→t σ H Q→
  wpAny (model X.prog X.w) X.A (forIn ifs true fun c r=>if r=true then do let ok ← isTrue c X.env (eval c X.env);pure (ForInStep.yield ok) else pure (ForInStep.yield r)) (TP X pins σ Q) X.xe s
def vQ:TT:=fun _ H Q=>Q true H
theorem jp {X:Cx}:PF X [] vQ:=fun _ _ _ H _ I h=>by
 rw [List.forIn_nil];exact Aq ⟨H,I,h⟩
theorem qbh {X:Cx} {c:Expr} {t:TT} (hc:PT X c t):PF X [c] t:=fun pins s σ H Q I h=>by
 rw [Ep];simp only [if_true];rw [bind_assoc];refine Aa (thn (hc pins s σ H Q I h) fun b s1 q=>?_);rw [pure_bind];dsimp only;rw [List.forIn_nil];exact Aq q
section
variable {prog:Program} {w:World} {A:Around} {R:Result→Shared→Prop} {s:Shared}
theorem ZR {elt target iter:Expr} {ifs:List Expr} {scope:Scope} {pos:Pos} {it acc:Value} {env:Env} (I:Nat→Shared→Prop)
  (turn:∀ n s,I n s→wpAny (model prog w) A (pyNext it) (fun r s₁=>match r with
   | none=>R (.ok .next) s₁
   | some v=>wpAny (model prog w) A (letOwnedTupleGo target it v) (fun _ s₀=>wpAny (model prog w) A (assign target env v) (fun _ s₂=>
     wpAny (model prog w) A (forIn ifs true fun c r=>if r=true then do let ok ← isTrue c env (eval c env);pure (ForInStep.yield ok) else pure (ForInStep.yield r)) (fun ok s₃=>
      if ok=true then wpAny (model prog w) A (eval elt env) (fun x s₄=>
       wpAny (model prog w) A (call (.builtin "list.append") [acc,x]) (fun _ s₅=>∃ m,m<n∧I m s₅) (fun _ _=>False) s₄) (fun _ _=>False) s₃
      else ∃ m,m<n∧I m s₃) (fun _ _=>False) s₂) (fun _ _=>False) s₀) (fun _ _=>False) s₁) (fun _ _=>False) s)
  (n:Nat) (h:I n s):codeAny (model prog w) A (.compLoop (.ListComp elt [⟨target,iter,ifs,0⟩] scope pos) 0 it acc env) R s:=by
 refine codeAny_loop rfl I (fun n s hI=>?_) n h;show wpAny _ A ((compTurn (.ListComp elt [⟨target,iter,ifs,0⟩] scope pos) 0 it acc env).onRaise (fun x=>do noteFrame x env;theTreesLotGoes x)) _ _ s
 refine wpAny_noted ?_;rw [compTurn_list];refine Ed (E:=fun _ _=>False) ?_ (fun _ _ q=>q) fun _ _ f=>f.elim;refine Aa (wpAny_standAt (Aa (thn (turn n s hI) (fun r s₁ h₁=>?_))));cases r with
 | none=>exact Aq h₁
 | some v=>
  refine Aa (thn h₁ fun _ s₀ h₀=>?_);refine Aa (thn h₀ (fun _ s₂ h₂=>Aa (thn h₂ (fun ok s₃ h₃=>?_))));cases ok with
  | false=>exact Aq ⟨rfl,h₃⟩
  | true=>
   exact Aa (Aa (thn h₃ (fun x s₄ h₄=>Aa (thn h₄ (fun _ s₅ h₅=>Aq (Aq ⟨rfl,h₅⟩))))))
end
def qhk (js:List (Option Nat)) (g:TG):Prop:=∀ (σ:St) (x:V) (H:Hp) (Q:St→Hp→Prop),g x (j6 js σ) H Q→
 g x (j6 js σ) H fun σ3 H3=>(σ3.length=(j6 js σ).length∧∀ (i:Nat) v,(j6 js σ)[i]?=some (some v)→σ3[i]?=some (some v))∧Q σ3 H3
def YY (J:It) (js:List (Option Nat)) (g:TG) (tt:TT) (te:TE) (σ:St) (H1:Hp) (Q:VK):Prop:=∃ W:Nat→Nat→List V→Hp→Prop,(∃ m,W 0 m [] H1)∧
 ∀ i m ys H',W i m ys H'→ys.length≤sizeLine∧((J.stop i H'∧∀ D,H' D=none→Q (.ref D) (upd H' D (.lst ys)))∨
  (J.go i H'∧∃ N:List V→Hp→Prop,(∀ ys H,N ys H→∃ m',m'<m∧W (i+1) m' ys H)∧
   ∀ x H2,J.yld i H' x H2→g x (j6 js σ) H2 fun σ3 H3=>tt σ3 H3 fun ok H4=>if ok=true then te σ3 H4 fun y H5=>N (ys++[y]) H5 else N ys H4))
def jM (wi:TI) (js:List (Option Nat)) (g:TG) (tt:TT) (te:TE):TE:=fun σ H Q=>wi σ H fun J H1=>YY J js g tt te σ H1 Q
theorem zD {J:It} {js:List (Option Nat)} {g:TG} {tt:TT} {te:TE} {σ:St} {H1:Hp} {Q:VK} (n:Nat) (Pv:Nat→List V→Hp→Prop) (h0:Pv 0 [] H1) (hl:∀ i ys H,Pv i ys H→ys.length≤i) (hz:n≤sizeLine)
  (hs:∀ i ys H,i<n→Pv i ys H→J.go i H∧∀ x H2,J.yld i H x H2→g x (j6 js σ) H2 fun σ3 H3=>tt σ3 H3 fun ok H4=>if ok=true then te σ3 H4 fun y H5=>Pv (i+1) (ys++[y]) H5 else Pv (i+1) ys H4)
  (hd:∀ ys H,Pv n ys H→J.stop n H∧∀ D,H D=none→Q (.ref D) (upd H D (.lst ys))):YY J js g tt te σ H1 Q:=by
 refine ⟨fun i m ys H=>m=n - i∧i≤n∧Pv i ys H,⟨n,by simp,Bw _,h0⟩,?_⟩
 rintro i m ys H ⟨rfl,hi,p⟩;refine ⟨A0 (hl i ys H p) (A0 hi hz),?_⟩
 by_cases hlt:i<n
 ·obtain ⟨a,b⟩:=hs i ys H hlt p;exact .inr ⟨a,Pv (i+1),fun ys' H' p'=>⟨n - (i+1),⋯,rfl,hlt,p'⟩,b⟩
 ·have e:i=n:=⋯;subst e;exact .inl (hd ys H p)
theorem zA {js:List (Option Nat)} {k:Nat} (h:js[k]?=some none):qhk js (qm k):=fun σ x H Q q=>by
 refine ⟨⟨by rw [Dv],fun i v e=>?_⟩,q⟩
 by_cases hik:k=i
 ·subst hik;unfold j6 at e;rw [Ar,h] at e;cases e
 ·rw [D4 hik];exact e
theorem Zp {K:Frag} {js:List (Option Nat)} {k l:Nat} (h:js[k]?=some none) (h':js[l]?=some none):qhk js (W7 K 2 (jb (qm k) (jb (qm l) Yl))):=fun σ x H Q q=>by
 obtain ⟨a,xs,e1,e2,e3,v,r,rfl,v2,r2,rfl,rfl,q⟩:=q;have key:∀ {i:Nat} {z:V},(j6 js σ)[i]?=some (some z)→i≠k∧i≠l:=fun {i z} e=>by
  unfold j6 at e;rw [Ar] at e;refine ⟨fun q=>?_,fun q=>?_⟩
  ·subst q;rw [h] at e;cases e
  ·subst q;rw [h'] at e;cases e
 refine ⟨a,_,e1,e2,e3,v,_,rfl,v2,_,rfl,rfl,⟨by rw [Dv,Dv],fun i z e=>?_⟩,q⟩
 obtain ⟨n1,n2⟩:=key e;rw [D4 (Ne.symm n2),D4 (Ne.symm n1)];exact e
section
variable {X:Cx} {sc scope:Scope} {NX N:List Str} {js:List (Option Nat)} {elt iter tg:Expr} {ifs:List Expr} {pos:Pos} {wi:TI} {g:TG} {tt:TT} {te:TE}
theorem qaa {pins:List (Addr×Obj)} {σ:St} {H2:Hp} {s2:Shared} {fp:List Addr} {cl:List (Str×Addr)} {h1:Heap} {tk:Nat} (hsc:X.env.scope=sc) (hNX:X.N=NX) (ok:CompScope sc scope NX N js) (I2:Inv X pins σ H2 s2)
  (cl1:∀ x c,cl.lookup x=some c→X.env.cells.lookup x=some c) (cl2:∀ y∈scope.names,y.2= .free→∃ c,cl.lookup y.1=some c) (f2:∀ b∈fp,wB X pins H2 b) (hfp:∀ b∈fp,b<s2.heap.objs.size)
  {C:Addr} (hC:s2.heap.objs.size≤C) (old:∀ b o,s2.heap.get? b=some o→h1.get? b=some o) (hns:h1.Ns C fun _=>none):
  Inv (cxC X scope cl C N fp s2 H2) [] (j6 js σ) H2 {s2 with heap:=h1,toks:=tk}:=by
 have cOld:∀ x c,X.env.cells.lookup x=some c→c<s2.heap.objs.size:=fun x c e=>by
  obtain ⟨v,z⟩:=I2.cell x c e;exact z.lt
 refine ⟨⟨I2.ok.mod,?_,I2.ok.glob,I2.ok.blt,hC,fun x y c e1 e2=>I2.ok.inj x y c (cl1 x c e1) (cl1 y c e2),fun x hx=>?_,fun x c hf _=>absurd hf Ai,I2.ok.hd,I2.ok.frames,.inl rfl,fun b hb=>⟨Bn (Br (hfp b hb) hC),fun x c e=>(f2 b hb).2.2.2.2.1 x c (cl1 x c e)⟩,
  I2.bs,A0 I2.ok.bsz I2.sz,fun b o e hb=>?_,fun b hb z=>?_,I2.stack,I2.stkFree⟩,rfl,I2.bare,Un.kept old,⟨_,hns,fun i x v e1 e2 e3=>?_⟩,fun x c e=>?_,I2.hok.fresh hC,fun x c e=>I2.freeC x c (cl1 x c e),fun p hp=>absurd (show p∈([]:List (Addr×Obj)) from hp) (by simp),I2.hok.kept old,?_⟩
 ·exact ok.kind
 ·have q:scope.names.lookup x=some .free:=Zm ok.cell hx;exact cl2 (x,.free) (Bq q) rfl
 ·rcases (f2 b hb).2.2.2.1 with z | z
  ·exact I2.ok.noex b o e z
  ·exact absurd (Br (Au (I2.ok.bs b o e).1) z) (Dz _)
 ·rcases Ao.mp (I2.stkSub b z) with q | q
  ·exact (f2 b hb).2.1 q
  ·exact (f2 b hb).2.2.1 q
 ·have e1':N[i]?=some x:=e1;have e2':(j6 js σ)[i]?=some (some v):=e2;unfold j6 at e2';rw [Ar] at e2';cases hj:js[i]? with
  | none=>rw [hj] at e2';cases e2'
  | some oj=>
   rw [hj] at e2';cases oj with
   | none=>cases e2'
   | some j=>
    have e4:(σ[j]?).join=some v:=Bg e2';have e5:σ[j]?=some (some v):=by
     cases z:σ[j]? with
     | none=>rw [z] at e4;cases e4
     | some ov=>
      rw [z] at e4;have e6:ov=some v:=e4;rw [e6]
    have hz:(some j,x)∈js.zip N:=by
     refine Ay (i:=i) ?_;rw [D3];exact ⟨hj,e1'⟩
    obtain ⟨q1,q2⟩:=ok.out _ hz j rfl;have q3:=ok.free (x,.free) (Bq q2) rfl;rw [← hsc] at q3;obtain ⟨m,hn,hl⟩:=I2.loc;obtain ⟨u,r,l⟩:=hl j x v (by rw [hNX];exact q1) e5 (.inr q3)
    refine ⟨u,r,.inr ?_⟩;rcases l with ⟨k,_⟩ | ⟨_,c,hc,hcell⟩
    ·have k':X.env.scope.names.lookup x=some .local:=k;rcases q3 with q3 | q3 <;> (rw [k'] at q3;cases q3)
    ·obtain ⟨c',hc'⟩:=cl2 (x,.free) (Bq q2) rfl;have ec:=cl1 x c' hc';rw [hc] at ec;cases ec;refine ⟨?_,c,hc',?_⟩
     ·have e3':Vis (relabel scope X.env) x:=e3;rcases e3' with e3' | e3' | e3'
      ·have:=V6 q2 (env:=X.env);exact absurd e3' this
      ·exact .inl e3'
      ·exact .inr e3'
     ·obtain ⟨o,ho,hd⟩:=hcell;exact ⟨o,old _ _ ho,hd⟩
 ·obtain ⟨v,o,ho,hd⟩:=I2.cell x c (cl1 x c e);exact ⟨v,o,old _ _ ho,hd⟩
 ·show (j6 js σ).length=N.length;unfold j6;rw [Ab,ok.len]
theorem X2 {pins:List (Addr×Obj)} {σ:St} {H2:Hp} {s2:Shared} {it:Addr} {fp:List Addr} {tn:Nat→Heap→Prop} {J:It} {cl:List (Str×Addr)} {Q:VK} {E:Value→Shared→Prop} {RR:Value→Addr→Result→Shared→Prop}
  (hsc:X.env.scope=sc) (hNX:X.N=NX) (ok:CompScope sc scope NX N js) (hc:X.calm=true) (I2:Inv X pins σ H2 s2)
  (cl1:∀ x c,cl.lookup x=some c→X.env.cells.lookup x=some c) (cl2:∀ y∈scope.names,y.2= .free→∃ c,cl.lookup y.1=some c)
  (T:Turn X.prog X.w X.K tg J fp it tn) (st2:tn 0 s2.heap) (f2:∀ b∈fp,wB X pins H2 b)
  (hg:∀ C,PG (cxC X scope cl C N fp s2 H2) tg g) (ht:∀ C,PF (cxC X scope cl C N fp s2 H2) ifs tt) (he:∀ C,PE (cxC X scope cl C N fp s2 H2) elt te)
  (own:qhk js g) {W:Nat→Nat→List V→Hp→Prop} {m0:Nat} (w0:W 0 m0 [] H2)
  (turn:∀ i m ys H',W i m ys H'→ys.length≤sizeLine∧((J.stop i H'∧∀ D,H' D=none→Q (.ref D) (upd H' D (.lst ys)))∨
   (J.go i H'∧∃ N:List V→Hp→Prop,(∀ ys H,N ys H→∃ m',m'<m∧W (i+1) m' ys H)∧
    ∀ x H2,J.yld i H' x H2→g x (j6 js σ) H2 fun σ3 H3=>tt σ3 H3 fun ok H4=>if ok=true then te σ3 H4 fun y H5=>N (ys++[y]) H5 else N ys H4)))
  (fin:∀ D C m s' Hf,Inv X pins σ Hf s'→s'.heap.Ns C m→wB X pins Hf C→Q (.ref D) Hf→RR (.ref D) C (.ok .next) s'):
  wpAny (model X.prog X.w) X.A (newList []) (fun acc s₃=>wpAny (model X.prog X.w) X.A (newFunctionEnv scope X.env.globals cl [] X.env.qual none .none (some X.env)) (fun cenv s₄=>
   codeAny (model X.prog X.w) X.A (.compStart (.ListComp elt [⟨tg,iter,ifs,0⟩] scope pos) 0 (.ref it) acc {cenv with scope:=relabel scope X.env}) (RR acc cenv.locals) s₄) E s₃) E s2:=by
 refine Cp (wpAny_newFunctionEnv ok.cell (by intro y hy;simp at hy) (fun h₁ hns₁ hsb₁=>?_) ok.kind)
 dsimp only at hns₁ hsb₁ ⊢;generalize hHH:s2.heap.push {cls:= .type "list",dict:=none,data:= .seq ([]:List Value).toArray}=HH at hns₁ hsb₁ ⊢;have hCe:HH.objs.size=s2.heap.objs.size+1:=by rw [← hHH,Cy]
 obtain ⟨D,hD⟩:∃ D:Nat,D=s2.heap.objs.size:=⟨_,rfl⟩;obtain ⟨C,hC⟩:∃ C:Nat,C=HH.objs.size:=⟨_,rfl⟩;rw [← hC] at hCe hns₁ hsb₁ ⊢;rw [← hD] at hCe ⊢;have hDC:D≠C:=⋯;have hCle:s2.heap.objs.size≤C:=⋯;have hfp:∀ b∈fp,b<s2.heap.objs.size:=fun b hb=>by
  obtain ⟨o,e,_⟩:=T.obj 0 _ st2 b hb;exact Au e
 have old:∀ b o,s2.heap.get? b=some o→h₁.get? b=some o:=fun b o e=>hsb₁.extBut b o (Bn (Br (Au e) hCle)) (Aj _ (hHH▸Aj _ e));have hacc:h₁.PlainList D #[]:=⟨_,hsb₁.extBut _ _ hDC (Aj _ (by rw [← hHH,hD];exact A6 _ rfl))⟩
 have hns:h₁.Ns C fun _=>none:=hns₁;have I4:Inv (cxC X scope cl C N fp s2 H2) [] (j6 js σ) H2 {s2 with heap:=h₁,toks:=s2.toks+([]:List (Str×Value)).length}:=
  qaa hsc hNX ok I2 cl1 cl2 f2 hfp ⋯ old hns
 have st4:tn 0 h₁:=T.keep 0 _ _ st2 fun b _ o e=>old b o e;have cOld:∀ x c,X.env.cells.lookup x=some c→c<s2.heap.objs.size:=fun x c e=>by
  obtain ⟨v,z⟩:=I2.cell x c e;exact z.lt
 have nDfp:D∉fp:=fun z=>absurd (hfp D z) (by rw [hD];exact Dz _)
 have stat:∀ {pl:List (Addr×Obj)} {H':Hp},(∀ b∈fp,H' b=none)→(∀ p∈pl,p.1∉fp)→∀ b∈fp,wB (cxC X scope cl C N fp s2 H2) pl H' b:=fun {pl H'} hn hp b hb=>by
  refine ⟨hn b hb,(I4.ok.exf b hb).1,I4.ok.exfs b hb,.inl hb,(I4.ok.exf b hb).2,fun p hpp z=>?_⟩;exact hp p (by simpa [cxC] using hpp) (z▸hb)
 have fpD:∀ {H':Hp},H' D=none→wB (cxC X scope cl C N fp s2 H2) [] H' D:=fun {H'} hn=>by
  refine ⟨hn,hDC,fun z=>?_,.inr (by show s2.heap.objs.size≤D;omega),fun x c e=>?_,fun p hpp=>absurd (show p∈([]:List (Addr×Obj)) from hpp) (by simp)⟩
  ·obtain ⟨_,o,ho,_⟩:=I4.ok.funs.mem z;exact absurd (show D<s2.heap.objs.size from Au ho) (by rw [hD];exact Dz _)
  ·exact Bn (by rw [hD];exact cOld x c (cl1 x c e))
 refine (fun loop=>codeAny_compStart_list (loop _ rfl) (T.self X.A 0 _ _ _ st4 (loop _ rfl))) (fun s₃ (hs₃:s₃={s2 with heap:=h₁,toks:=s2.toks+([]:List (Str×Value)).length})=>?_)
 subst hs₃;refine ZR (env:=compEnvC scope cl C X.env) (fun n s'=>∃ i ys its H',Inv (cxC X scope cl C N fp s2 H2) [] (j6 js σ) H' s'∧tn i s'.heap∧(∀ b∈fp,H' b=none)∧s'.heap.PlainList D its∧qM ys its.toList∧H' D=none∧W i n ys H')
  ?_ m0 ⟨0,[],#[],H2,I4,st4,fun b hb=>(f2 b hb).1,hacc,.nil,I2.hok.fresh ⋯,w0⟩
 rintro n s5 ⟨i,ys,its,H5,I5,st5,fr5,⟨k5,pl5⟩,vl5,hD5,w5⟩;obtain ⟨hz,tr⟩:=turn i n ys H5 w5;have hz':its.size≤sizeLine:=by
  have:=vl5.length;have e4:its.toList.length=its.size:=by simp
  omega
 have I5':Inv (cxC X scope cl C N fp s2 H2) [(D,{cls:= .type "list",data:= .seq its k5})] (j6 js σ) H5 s5:=I5.pins_of fun p hp=>by
  have e:p=(D,{cls:= .type "list",data:= .seq its k5}):=by simpa using hp
  subst e;exact ⟨pl5,hD5,hDC,(fpD hD5).2.2.1,fun v z=>by cases z⟩
 have np:∀ p∈[(D,({cls:= .type "list",data:= .seq its k5}:Obj))],p.1∉fp:=fun p hp=>by
  have e:p=(D,{cls:= .type "list",data:= .seq its k5}):=by simpa using hp
  subst e;exact nDfp
 rcases tr with ⟨stop,qn⟩ | ⟨go,N',hN,step⟩
 ·refine thn (T.done (cxC X scope cl C N fp s2 H2) rfl rfl rfl hc i _ s5 (j6 js σ) H5 (fun _ _=>False) I5' (stat fr5 np) st5 stop) fun r s6 ⟨hr,I6⟩=>?_;subst hr;have pD:=(I6.pin _ (A7 _ A5)).1;have I6':Inv (cxC X scope cl C N fp s2 H2) [] (j6 js σ) H5 s6:=I6.pins_of fun p hp=>absurd hp (by simp)
  have I7:Inv (cxC X scope cl C N fp s2 H2) [] (j6 js σ) (upd H5 D (.lst ys)) s6:=I6'.track (fpD hD5) ⟨hz,its.toList,k5,vl5,by simpa using pD⟩
  obtain ⟨m,hn,_⟩:=I7.loc;have hfC:upd H5 D (.lst ys) C=none:=I7.free;refine fin D C m s6 (upd H5 D (.lst ys)) ?_ hn (I2.fpOk ⋯ hfC) (qn D hD5);exact I2.call' (ch:=fp) I7.os I7.base I7.hok I7.bare fun b hb=>⟨(f2 b hb).2.2.2.1,(f2 b hb).2.1,(f2 b hb).2.2.2.2.1,(f2 b hb).2.2.2.2.2⟩
 ·refine thn (T.item (cxC X scope cl C N fp s2 H2) rfl rfl rfl hc i _ s5 (j6 js σ) H5 (fun _ _=>False) I5' (stat fr5 np) st5 go) fun r s6 ⟨u,hr,h6⟩=>?_;subst hr;refine thn h6 fun _ s7 ⟨x,H7,I7,r7,y7,st7,fr7⟩=>?_;have I7':=I7.pinned (stat fr7 np) (T.obj _ _ st7);have q7:=own σ x H7 _ (step x H7 y7);refine thn (hg C _ s7 (j6 js σ) H7 x u _ I7' r7 q7) fun _ s8 ⟨σ8,H8,I8,ag8,q8⟩=>?_;have keepD:∀ {σ9:St} {H9:Hp} {s9:Shared},Inv (cxC X scope cl C N fp s2 H2) ([(D,{cls:= .type "list",data:= .seq its k5})]++V0 fp s7.heap) σ9 H9 s9→s9.heap.get? D=some {cls:= .type "list",data:= .seq its k5}∧H9 D=none:=fun I9=>by
   obtain ⟨a,b,_⟩:=I9.pin _ (A7 _ (By _ A5));exact ⟨a,b⟩
  have keepF:∀ {σ9:St} {H9:Hp} {s9:Shared},Inv (cxC X scope cl C N fp s2 H2) ([(D,{cls:= .type "list",data:= .seq its k5})]++V0 fp s7.heap) σ9 H9 s9→tn (i+1) s9.heap∧∀ b∈fp,H9 b=none:=fun I9=>by
   refine ⟨T.keep _ _ _ st7 fun b hb o e=>(I9.pin (b,o) (A7 _ (A7 _ (vE hb e)))).1,fun b hb=>?_⟩;obtain ⟨o,e,d⟩:=T.obj _ _ st7 b hb;exact (I9.pin (b,o) (A7 _ (A7 _ (vE hb e)))).2.1
  refine thn (ht C _ s8 σ8 H8 _ I8 q8) fun okb s9 ⟨H9,I9,q9⟩=>?_;have again:∀ {H10:Hp} {s10:Shared},Inv (cxC X scope cl C N fp s2 H2) ([(D,{cls:= .type "list",data:= .seq its k5})]++V0 fp s7.heap) σ8 H10 s10→Inv (cxC X scope cl C N fp s2 H2) [] (j6 js σ) H10 s10:=fun I=>(I.pins_of fun p hp=>absurd hp (by simp)).weak ag8.1.symm ag8.2
  cases okb with
  | false=>
   have q9':N' ys H9:=q9;obtain ⟨m',hm,w9⟩:=hN _ _ q9';show ∃ m,m<n∧_;exact ⟨m',hm,i+1,ys,its,H9,again I9,(keepF I9).1,(keepF I9).2,⟨k5,(keepD I9).1⟩,vl5,(keepD I9).2,w9⟩
  | true=>
   have q9':te σ8 H9 fun y H5=>N' (ys++[y]) H5:=q9;show wpAny _ _ (eval elt (compEnvC scope cl C X.env)) _ _ s9;refine thn (he C _ s9 σ8 H9 _ I9 q9') fun yv s10 ⟨y,H10,I10,r10,q10⟩=>?_;obtain ⟨m',hm,w10⟩:=hN _ _ q10;refine wpAny_list_append_plain (hsz:=hz') ⟨k5,(keepD I10).1⟩ fun h' hl' hs'=>?_;refine ⟨m',hm,i+1,ys++[y],its.push yv,H10,?_,?_,(keepF I10).2,hl',?_,(keepD I10).2,w10⟩
   ·obtain ⟨g0,g1,g2,g3,g4,g5⟩:=fpD (keepD I10).2;exact (again I10).turned (t':=s10.toks) (fun b o hb e=>(hs'.2 b hb).trans e) g0 g1 g3 g4 g5
   ·exact T.keep _ _ _ (keepF I10).1 fun b hb o e=>(hs'.2 b (fun z=>nDfp (z▸hb))).trans e
   ·rw [Array.toList_push];exact vl5.append (.cons r10 .nil)
theorem zX (hi:PI X tg iter wi) (hg:∀ cl C fp s H,PG (cxC X scope cl C N fp s H) tg g) (ht:∀ cl C fp s H,PF (cxC X scope cl C N fp s H) ifs tt) (he:∀ cl C fp s H,PE (cxC X scope cl C N fp s H) elt te)
  (own:qhk js g) (ok:CompScope sc scope NX N js) (hsc:X.env.scope=sc:=by rfl) (hNX:X.N=NX:=by rfl) (hc:X.calm=true:=by rfl) (hs:∀ x,foldedSetIterable iter X.env x=pure x:=by intro _;rfl):
  PE X (.ListComp elt [⟨tg,iter,ifs,0⟩] scope pos) (jM wi js g tt te):=by
 intro pins s σ H Q I h;rw [eval_ListComp];obtain ⟨cl,hclos,cl1,cl2⟩:=Yt (scope:=scope) (env:=X.env) fun y hy hf=>I.ok.has y.1 (by
  have q:=ok.free y hy hf;rw [← hsc] at q;exact q)
 refine wpAny_comprehension_free (use:=none) rfl hs hclos ok.kind ok.names (thn (hi pins s σ H _ I h) fun xv s1 h1=>thn h1 fun itv s2 h2=>?_);obtain ⟨it,fp,tn,J,H2,rfl,I2,T,st2,f2,W,⟨m0,w0⟩,turn⟩:=h2;refine X2 (RR:=fun acc C=>compPost (model X.prog X.w) X.A X.xe none (EP X pins σ Q) acc C) hsc hNX ok hc I2 cl1 cl2 T st2 f2 (fun C=>hg cl C fp s2 H2) (fun C=>ht cl C fp s2 H2) (fun C=>he cl C fp s2 H2) own w0 turn fun D C m s' Hf I' hn f q=>?_;obtain ⟨g0,g1,g2,g3,g4,g5⟩:=f;exact ⟨m,hn,fun h' hs'=>⟨.ref D,Hf,I'.turned (t':=s'.toks) (fun b o hb e=>(hs'.2 b hb).trans e) g0 g1 g3 g4 g5,rfl,q⟩⟩
end
mutual
inductive Rep (K:Frag) (H:Hp):V→PyData→Prop
 | non:Rep K H .non .none
 | bl (b:Bool):Rep K H (.bl b) (.bool b)
 | int (i:Int):Rep K H (.int i) (.int i)
 | str (x:Str):Rep K H (.str x) (.str x)
 | lst {a:Addr} {xs:List V} {ds:List PyData}:SqL K H a xs→Reps K H xs ds→Rep K H (.ref a) (.list ds)
 | tup {a:Addr} {xs:List V} {ds:List PyData}:SqT K H a xs→Reps K H xs ds→Rep K H (.ref a) (.tuple ds)
inductive Reps (K:Frag) (H:Hp):List V→List PyData→Prop
 | nil:Reps K H [] []
 | cons {x:V} {xs:List V} {d:PyData} {ds:List PyData}:Rep K H x d→Reps K H xs ds→Reps K H (x::xs) (d::ds)
end
section
variable {X:Cx} {pins:List (Addr×Obj)} {σ:St} {H H':Hp} {s:Shared} {K:Frag}
mutual
theorem Rep.reads (I:Inv X pins σ H s):∀ {x:V} {d:PyData} {v:Value},Rep X.K H x d→qN x v→∃ as,Reads s.heap v d as
 | _,_,_,.non,r=>by cases (show _=Value.none from r);exact ⟨_,.none⟩
 | _,_,_,.bl b,r=>by cases (show _=Value.bool b from r);exact ⟨_,.bool b⟩
 | _,_,_,.int i,r=>by
  obtain ⟨t,rfl⟩:=(show ∃ t,_=Value.int i t from r);exact ⟨_,.int i t⟩
 | _,_,_,.str x,r=>by
  obtain ⟨t,rfl⟩:=(show ∃ t,_=Value.str x t from r);exact ⟨_,.str x t⟩
 | _,_,_,.lst (a:=a) h q,r=>by
  cases (show _=Value.ref a from r);obtain ⟨its,rv,⟨o,n,e,c,_,d⟩,_⟩:=I.list h;obtain ⟨as,z⟩:=Reps.reads I q rv;exact ⟨_,.list e c d (by simpa using z)⟩
 | _,_,_,.tup (a:=a) h q,r=>by
  cases (show _=Value.ref a from r);obtain ⟨its,rv,⟨o,e,c,n,d⟩,_⟩:=I.tuple h;obtain ⟨as,z⟩:=Reps.reads I q rv;exact ⟨_,.tuple e c d (by simpa using z)⟩
theorem Reps.reads (I:Inv X pins σ H s):∀ {xs:List V} {ds:List PyData} {vs:List Value},Reps X.K H xs ds→qM xs vs→∃ as,ReadsAll s.heap vs ds as
 | _,_,_,.nil,.nil=>⟨_,.nil⟩
 | _,_,_,.cons h q,.cons r rr=>by
  obtain ⟨as,z⟩:=Rep.reads I h r;obtain ⟨bs,y⟩:=Reps.reads I q rr;exact ⟨_,.cons z y⟩
end
theorem qv.sqT (g:qv H H') {a:Addr} {xs:List V} (h:SqT K H a xs):SqT K H' a xs:=by
 rcases h with (h | ⟨o,h⟩) | h
 ·exact .inl (.inl (g _ _ h))
 ·exact .inl (.inr ⟨o,g _ _ h⟩)
 ·exact .inr h
mutual
theorem Rep.mono (gL:∀ {a:Addr} {xs:List V},SqL K H a xs→SqL K H' a xs) (gT:∀ {a:Addr} {xs:List V},SqT K H a xs→SqT K H' a xs):∀ {x:V} {d:PyData},Rep K H x d→Rep K H' x d
 | _,_,.non=> .non
 | _,_,.bl b=> .bl b
 | _,_,.int i=> .int i
 | _,_,.str x=> .str x
 | _,_,.lst h q=> .lst (gL h) (Reps.mono gL gT q)
 | _,_,.tup h q=> .tup (gT h) (Reps.mono gL gT q)
theorem Reps.mono (gL:∀ {a:Addr} {xs:List V},SqL K H a xs→SqL K H' a xs) (gT:∀ {a:Addr} {xs:List V},SqT K H a xs→SqT K H' a xs):∀ {xs:List V} {ds:List PyData},Reps K H xs ds→Reps K H' xs ds
 | _,_,.nil=> .nil
 | _,_,.cons h q=> .cons (Rep.mono gL gT h) (Reps.mono gL gT q)
end
theorem Rep.same (g:qv H H') {x:V} {d:PyData} (h:Rep K H x d):Rep K H' x d:=h.mono g.seq g.sqT
theorem Reps.same (g:qv H H') {xs:List V} {ds:List PyData} (h:Reps K H xs ds):Reps K H' xs ds:=h.mono g.seq g.sqT
theorem Reps.length:∀ {xs:List V} {ds:List PyData},Reps K H xs ds→xs.length=ds.length
 | _,_,.nil=>rfl
 | _,_,.cons _ q=>by rw [Ak,Ak,Reps.length q]
theorem Reps.append:∀ {xs ys:List V} {ds es:List PyData},Reps K H xs ds→Reps K H ys es→Reps K H (xs++ys) (ds++es)
 | _,_,_,_,.nil,q=>q
 | _,_,_,_,.cons h p,q=> .cons h (Reps.append p q)
theorem Reps.get:∀ {xs:List V} {ds:List PyData} {i:Nat} {x:V},Reps K H xs ds→xs[i]?=some x→∃ d,ds[i]?=some d∧Rep K H x d
 | _,_,_,_,.nil,e=>by simp at e
 | _,_,0,_,.cons r _,e=>by simp at e;subst e;exact ⟨_,rfl,r⟩
 | _,_,i+1,x,.cons _ t,e=>by
  obtain ⟨d,h1,h2⟩:=Reps.get (i:=i) (x:=x) t (by simpa using e)
  exact ⟨d,by simpa using h1,h2⟩
theorem Reps.strs:∀ xs:List Str,Reps K H (xs.map V.str) (xs.map PyData.str)
 | []=> .nil
 | b::r=> .cons (.str b) (Reps.strs r)
def qh5 (K:Frag):R2:=fun x y H Q=>∃ d e,Rep K H x d∧Rep K H y e∧SeqAt.shaped d=true∧SeqAt.shaped e=true∧Q (.bl (PyData.eqv d e)) H
def qh4 (K:Frag):R2:=fun x y H Q=>∃ d e,Rep K H x d∧Rep K H y e∧SeqAt.shaped d=true∧SeqAt.shaped e=true∧Q (.bl (!PyData.eqv d e)) H
theorem qkv (hu:X.A.units+64<cLine):OpR X (compareOp .Eq) (qh5 X.K):=by
 intro pins s σ H x y v u Q I rx ry h;obtain ⟨d,e,h1,h2,z1,z2,q⟩:=h;obtain ⟨as,ra⟩:=h1.reads I rx;obtain ⟨bs,rb⟩:=h2.reads I ry;exact eq_dataH ra rb z1 z2 hu (qR I q rfl)
theorem qku (hu:X.A.units+64<cLine):OpR X (compareOp .NotEq) (qh4 X.K):=by
 intro pins s σ H x y v u Q I rx ry h;obtain ⟨d,e,h1,h2,z1,z2,q⟩:=h;obtain ⟨as,ra⟩:=h1.reads I rx;obtain ⟨bs,rb⟩:=h2.reads I ry;exact ne_dataH ra rb z1 z2 hu (qR I q rfl)
end
section
variable {X:Cx} {tg:Expr}
theorem XM:OpR X (compareOp .LtE) (fun x y H Q=>∃ i j,x= .str i∧y= .str j∧Q (.bl (!decide (j.cps.toList<i.cps.toList))) H):=by
 intro pins s σ H x y v u Q I rx ry h;obtain ⟨i,j,rfl,rfl,q⟩:=h;obtain ⟨t,rfl⟩:=rx;obtain ⟨t',rfl⟩:=ry;exact PySem.P.le_str (qR I q rfl)
def Its (x:Str):It:=⟨fun i _=>i<x.cps.size,fun i H v H'=>H'=H∧∃ c,x.cps[i]?=some c∧v= .str ⟨#[c]⟩,fun i _=>x.cps.size≤i⟩
theorem qff {P:Program} {w:World} {K:Frag} {tg:Expr} (it:Addr) (x:Str) (t:Tok):Turn P w K tg (Its x) [it] it (fun i h=>h.IsStrIter it (strIterType x) x t i) where
 mem:=by simp
 obj:=fun i h st b hb=>by
  have e:b=it:=by simpa using hb
  subst e;obtain ⟨o,e,c,d⟩:=st;exact ⟨o,e,fun v z=>by rw [d] at z;cases z⟩
 keep:=fun i h h' st k=>by
  obtain ⟨o,e,c⟩:=st;exact ⟨o,k it (by simp) o e,c⟩
 item:=by
  intro X hP hw hK hc i pins s σ H E I hf st hg;subst hP hw hK;obtain ⟨f0,f1,f2,f3,f4,f5⟩:=hf it (by simp)
  have hlt:i<x.cps.size:=hg;have hi:x.cps[i]?=some x.cps[i]:=Array.getElem?_eq_getElem hlt;have fin:∀ h',h'.IsStrIter it (strIterType x) x t (i+1)→Heap.SameBut it s.heap h'→∃ u,some (Value.str ⟨#[x.cps[i]]⟩ s.toks)=some u∧
    wpAny (model X.prog X.w) X.A (letOwnedTupleGo tg (.ref it) u) (fun _ s2=>∃ y H',Inv X pins σ H' s2∧qN y u∧(Its x).yld i H y H'∧s2.heap.IsStrIter it (strIterType x) x t (i+1)∧∀ b∈[it],H' b=none) E {s with heap:=h',toks:=s.toks+1}:=fun h' st' sb=>by
   have I1:Inv X pins σ H {s with heap:=h',toks:=s.toks+1}:=I.turned (fun b o hb e=>(sb.2 b hb).trans e) f0 f1 f3 f4 f5
   obtain ⟨o,e,c,d⟩:=id st';refine ⟨_,rfl,Q0 (s:={s with heap:=h',toks:=s.toks+1}) e c d ?_ ⟨.str ⟨#[x.cps[i]]⟩,H,I1,⟨_,rfl⟩,⟨rfl,_,hi,rfl⟩,st',fun b hb=>(hf b hb).1⟩⟩
   unfold strIterType;split <;> decide
  cases ha:x.cps.all (· <128) with
  | true=>
   have e:strIterType x="str_ascii_iterator":=by unfold strIterType;rw [if_pos ha]
   rw [e] at st;refine wpAny_pyNext_ascii_item st hi fun h' st' sb=>fin h' (by rw [e];exact st') sb
  | false=>
   have e:strIterType x="str_iterator":=by unfold strIterType;rw [if_neg (by rw [ha];decide)]
   rw [e] at st;refine wpAny_pyNext_wide_item st hi fun h' st' sb=>fin h' (by rw [e];exact st') sb
 done:=by
  intro X hP hw hK hc i pins s σ H E I hf st hg;subst hP hw hK;obtain ⟨f0,f1,f2,f3,f4,f5⟩:=hf it (by simp)
  have hi:x.cps[i]?=none:=by
   have:x.cps.size≤i:=hg;simp [this]
  cases ha:x.cps.all (· <128) with
  | true=>
   have e:strIterType x="str_ascii_iterator":=by unfold strIterType;rw [if_pos ha]
   rw [e] at st;exact wpAny_pyNext_ascii_end (I.ok.hd hc) st hi fun h' eb=>⟨rfl,I.turned (t':=s.toks) (fun b o hb e=>eb b o hb e) f0 f1 f3 f4 f5⟩
  | false=>
   have e:strIterType x="str_iterator":=by unfold strIterType;rw [if_neg (by rw [ha];decide)]
   rw [e] at st;exact wpAny_pyNext_wide_end (I.ok.hd hc) st hi fun h' eb=>⟨rfl,I.turned (t':=s.toks) (fun b o hb e=>eb b o hb e) f0 f1 f3 f4 f5⟩
 self:=fun A i s Q E st h=>by
  cases ha:x.cps.all (· <128) with
  | true=>
   have e:strIterType x="str_ascii_iterator":=by unfold strIterType;rw [if_pos ha]
   rw [e] at st;exact wpAny_pyIter_striter_ascii st h
  | false=>
   have e:strIterType x="str_iterator":=by unfold strIterType;rw [if_neg (by rw [ha];decide)]
   rw [e] at st;exact wpAny_pyIter_striter_wide st h
def ql7:V→Option Int→Option Int→Hp→VK→Prop:=fun v lo hi H Q=>∃ x,v= .str x∧x.length≤sizeLine∧Q (.str (Txt.slice x lo hi)) H
theorem qj4:SlR X ql7:=by
 intro pins s σ H x v vl vu lo hi sl Q I rx hs pl pu h;obtain ⟨z,rfl,hz,q⟩:=h;obtain ⟨t,rfl⟩:=rx;refine ⟨"str",_,F.slot_str_getitem.lookup,typeIs_str _ _ _,?_⟩;have fin:∀ t' k,EP X pins σ Q (.str (Txt.slice z lo hi) t') {s with toks:=k}:=fun t' k=>⟨.str _,H,I.tok k,⟨t',rfl⟩,q⟩
 obtain ⟨o,ho,hc,hd⟩:=hs;cases pl with
 | none=>cases pu with
  | none=>exact D9 (l:=none) (u:=none) (st:=none) ⟨o,ho,hc,hd⟩ rfl (post_val_or_str ⟨A0 (Txt.slice_le z _ _) hz,fin⟩)
  | int j tj=>exact D9 (l:=none) (u:=some (j,tj)) (st:=none) ⟨o,ho,hc,hd⟩ rfl (post_val_or_str ⟨A0 (Txt.slice_le z _ _) hz,fin⟩)
 | int i ti=>cases pu with
  | none=>exact D9 (l:=some (i,ti)) (u:=none) (st:=none) ⟨o,ho,hc,hd⟩ rfl (post_val_or_str ⟨A0 (Txt.slice_le z _ _) hz,fin⟩)
  | int j tj=>exact D9 (l:=some (i,ti)) (u:=some (j,tj)) (st:=none) ⟨o,ho,hc,hd⟩ rfl (post_val_or_str ⟨A0 (Txt.slice_le z _ _) hz,fin⟩)
theorem qd2 {bs:List Bool}:(List.range bs.length).all (fun i=>bs.getD i false)=bs.all id:=by
 rw [Ca,A8,A8];constructor
 ·intro h b hb;obtain ⟨i,hi,e⟩:=List.getElem_of_mem hb;have:=h i (Dc.mpr hi);rw [List.getD_eq_getElem?_getD,Af hi] at this;rw [← e];exact this
 ·intro h i hi;have hi':=Dc.mp hi;rw [List.getD_eq_getElem?_getD,Af hi'];exact h _ (Cd hi')
theorem qhf (hc:X.calm=true):Jt X (.builtin "all") (fun xs H Q=>∃ (a:Addr) (bs:List Bool),xs=[.ref a]∧SqL X.K H a (bs.map V.bl)∧Q (.bl (bs.all id)) H):=by
 intro pins s σ H xs us Q I r h;obtain ⟨a,bs,rfl,ha,q⟩:=h;obtain ⟨u,rfl,ru⟩:=vb r;cases ru;obtain ⟨its,rv,p,hz⟩:=I.list ha;have hlt:a<s.heap.objs.size:=by
  obtain ⟨o,n,e,_⟩:=id p;exact Au e
 have hl:its.length=bs.length:=by rw [← rv.length,Ab]
 refine call_all_walk (wpAny_pyIter_list p.isList ?_);refine ⟨s.heap.objs.size,[s.heap.objs.size,a],[s.heap.objs.size],its.toArray.size,_,_,fun i=>bs.getD i false,rfl,Walks.list (A:=X.A.in1) (I.ok.hd hc) s.heap.objs.size a (Bn hlt) its.toArray,⟨⟨_,A6 _ rfl,rfl,rfl⟩,p.isList.at fun o e=>Aj _ e⟩,?_,fun h' tk hk=>?_⟩
 ·intro i v s' Q' E' hv hq;have hv':its[i]?=some v:=by simpa using hv
  have hi:i<its.length:=(Be.mp hv').1;have hb:(bs.map V.bl)[i]?=some (.bl (bs.getD i false)):=by
   rw [Ar,List.getD_eq_getElem?_getD,Af ⋯];rfl
  obtain ⟨u,hu,ru⟩:=rv.get hb;rw [hv'] at hu;cases hu;cases (show v=Value.bool _ from ru);exact Cl hq
 ·have e:its.toArray.size=bs.length:=by rw [Aw];exact hl
  rw [e,qd2];refine ⟨.bl _,H,?_,rfl,q⟩;have I1:Inv X pins σ H {s with heap:=s.heap.push {cls:= .type "list_iterator",data:= .fields #[.ref a,.int 0 0]}}:=I.kept (t':=s.toks) fun b o e=>Aj _ e
  have f:=I.fpOk (Ag _) (I.hok.fresh (Ag _));exact I1.turned (fun b o hb e=>hk b o (by simpa using hb) e) f.1 f.2.1 f.2.2.2.1 f.2.2.2.2.1 f.2.2.2.2.2
theorem Zg:∀ {ys:List Str} {its:List Value},qM (ys.map V.str) its→StrsAre its ys
 | [],_,.nil=> .nil
 | y::r,_,.cons h t=>by
  obtain ⟨k,rfl⟩:=h;exact .cons _ k (Zg t)
def qjm (K:Frag):V→List V→Hp→VK→Prop:=fun x xs H Q=>∃ (z:Str) (a:Addr) (ys:List Str),x= .str z∧xs=[.ref a]∧SqL K H a (ys.map V.str)∧(ys.map (·.length)).sum+ys.length*z.length≤16777216∧Q (.str (Txt.join z ys)) H
theorem qio:MtR X "str.join" (qjm X.K):=by
 intro pins s σ H x xs v us Q I rx r h;obtain ⟨z,a,ys,rfl,rfl,ha,hk,q⟩:=h;obtain ⟨t,rfl⟩:=rx;obtain ⟨u,rfl,ru⟩:=vb r;cases ru;obtain ⟨its,rv,p,hz⟩:=I.list ha;exact join_list p.isList (by simpa using Zg rv) hk fun t' k=>⟨.str _,H,I.tok k,⟨t',rfl⟩,q⟩
def isi (t T:String):Bool:=t==T||(t=="bool"&&T=="int")
theorem Vs {K:Frag} {t T:String} (h1:t∈["NoneType","bool","int","str","list","tuple","dict"]) (h2:T∈["bool","int","str","list","tuple"]):PySem.W.kitOne K (.type t) (.type T)=some (isi t T):=by
 simp only [Ao,Bm,or_false] at h1 h2;rcases h1 with rfl | rfl | rfl | rfl | rfl | rfl | rfl <;> rcases h2 with rfl | rfl | rfl | rfl | rfl <;> kernel_rfl
end
theorem qX {c:Bool} {A B:Prop} (e:c=true) (h:A):if c=true then A else B:=by rw [if_pos e];exact h
theorem qO {c:Bool} {A B:Prop} (e:c=false) (h:B):if c=true then A else B:=by rw [if_neg (by rw [e];decide)];exact h
theorem z9:bootBuiltins "len"=some (.builtin "len"):=∅
theorem qln:bootBuiltins "max"=some (.builtin "max"):=∅
theorem Yw:bootBuiltins "all"=some (.builtin "all"):=∅
theorem qH:bootBuiltins "isinstance"=some (.builtin "isinstance"):=∅
theorem w4:bootBuiltins "str"=some (.type "str"):=∅
theorem qhg:bootBuiltins "int"=some (.type "int"):=∅
theorem qdi:bootBuiltins "bool"=some (.type "bool"):=∅
theorem vI:bootBuiltins "list"=some (.type "list"):=∅
theorem zx:bootBuiltins "tuple"=some (.type "tuple"):=∅
theorem qlm:bootBuiltins "set"=some (.type "set"):=∅
section
variable {X:Cx} {x:Str} {pos:Pos} {tg:Expr}
theorem Js {T:String} (hm:X.mg x=none) (hv:bootBuiltins x=some (.type T)) (hg:Gl X x:=by rfl) (hn:x≠"__name__":=by decide) (hd:(x==("__debug__":Str))=false:=by decide):PE X (.Name x pos) (tC (.ty T)):=qij hg hm hv rfl hn hd
theorem Qw {v:V} (h:∃ u,X.mg x=some u∧qN v u) (hg:Gl X x:=by rfl) (hd:(x==("__debug__":Str))=false:=by decide):PE X (.Name x pos) (tC v):=by
 obtain ⟨u,m,r⟩:=h;exact qcn hg m r hd
def qme:R2:=fun x y H Q=>∃ i j,x= .str i∧y= .str j∧i.length+j.length≤sizeLine∧Q (.str (i++j)) H
def jh:R2:=fun x y H Q=>rI0 (fun i j=> .int (i+j)) x y H Q∨(qme x y H Q∨qmd x y H Q)
theorem zi:OpR X (binaryOp .Add) jh:=qkx.or (qbj.or qkw)
def jD (K:Frag) (tl:TE):TI:=fun σ H R=>tl σ H fun x H1=>(∃ a,x= .ref a∧(∃ xs,SqL K H1 a xs)∧R (Itl K a) H1)∨(∃ a,x= .ref a∧(∃ xs,SqT K H1 a xs)∧R (Itt K a) H1)∨∃ z,x= .str z∧R (Its z) H1
theorem qkh {l:Expr} {tl:TE} (hl:PE X l tl):PI X tg l (jD X.K tl):=by
 intro pins s σ H R I h;refine thn (hl pins s σ H _ I h) fun v s1 ⟨x,H1,I1,r1,q1⟩=>?_;have fr:∀ b∈[s1.heap.objs.size],wB X pins H1 b:=fun b hb=>by
  have e:b=s1.heap.objs.size:=by simpa using hb
  subst e;exact I1.fpOk (Ag _) (I1.hok.fresh (Ag _))
 rcases q1 with ⟨a,e,⟨xs,hq⟩,q⟩ | ⟨a,e,⟨xs,hq⟩,q⟩ | ⟨z,e,q⟩
 ·subst e;cases r1;obtain ⟨its,rv,p,hz⟩:=I1.list hq;refine wpAny_pyIter_list p.isList ?_;exact ⟨s1.heap.objs.size,[s1.heap.objs.size],_,_,H1,rfl,I1.kept (t':=s1.toks) fun b o e=>Aj _ e,qdu a _,⟨_,A6 _ rfl,rfl,rfl⟩,fr,q⟩
 ·subst e;cases r1;obtain ⟨its,rv,p,hz⟩:=I1.tuple hq;refine Es (show s1.heap.IsTuple a its.toArray from p) ?_;exact ⟨s1.heap.objs.size,[s1.heap.objs.size],_,_,H1,rfl,I1.kept (t':=s1.toks) fun b o e=>Aj _ e,qa6 a _,⟨_,A6 _ rfl,rfl,rfl⟩,fr,q⟩
 ·subst e;obtain ⟨t,rfl⟩:=r1;refine wpAny_pyIter_strU ?_;exact ⟨s1.heap.objs.size,[s1.heap.objs.size],_,_,H1,rfl,I1.kept (t':=s1.toks) fun b o e=>Aj _ e,qff _ z t,⟨_,A6 _ rfl,rfl,rfl⟩,fr,q⟩
def qbf (K:Frag):V→Option Int→Option Int→Hp→VK→Prop:=fun x lo hi H Q=>ql8 K x lo hi H Q∨(ql7 x lo hi H Q∨ql6 K x lo hi H Q)
theorem qj5:SlR X (qbf X.K):=qhr.or (qj4.or qj3)
end
section
variable {X:Cx} {K:Frag} {tg:Expr}
theorem ix_k (h:X.K=K):IxR X (rIx K):=h▸qla
theorem qbb (h:X.K=K):SlR X (qbf K):=h▸qj5
theorem jY (h:X.K=K):Jt X (.builtin "len") (fun xs H Q=>∃ x n,xs=[x]∧Vo K x H n∧Q (.int n) H):=h▸qhe
theorem qac (h:X.K=K) (hc:X.calm=true):Jt X (.builtin "all") (fun xs H Q=>∃ (a:Addr) (bs:List Bool),xs=[.ref a]∧SqL K H a (bs.map V.bl)∧Q (.bl (bs.all id)) H):=h▸qhf hc
theorem qgv (h:X.K=K):MtR X "str.join" (qjm K):=h▸qio
theorem qjr (h:X.K=K) (hu:X.A.units+64<cLine):OpR X (compareOp .Eq) (qh5 K):=h▸qkv hu
theorem qjo (h:X.K=K) (hu:X.A.units+64<cLine):OpR X (compareOp .NotEq) (qh4 K):=h▸qku hu
theorem j5 {l:Expr} {tl:TE} (h:X.K=K) (hl:PE X l tl):PI X tg l (jD K tl):=h▸qkh hl
theorem jL (h:X.K=K):Jt X (.type "tuple") (fun xs H Q=>∃ p ys,xs=[.ref p]∧((SqL K H p ys∧∀ l,H l=none→Q (.ref l) (upd H l (.tup ys)))∨(SqT K H p ys∧Q (.ref p) H))):=h▸Y6
theorem WN {es:List Expr} {k:Nat} {t:TGs} {n:Nat} {pos:Pos} (hK:X.K=K) (hc:X.calm=true) (h:PGs X es t) (hn:(assignEach es X.env).length=n:=by rfl) (hst:(assignEach es X.env).findIdx? (·.1)=none:=by rfl):PG X (.Tuple es k pos) (W7 K n t):=hK▸qkj hc h hn hst
theorem Jn {o e:Expr} {es:List Expr} {to:TE} {t:TA} {name:Str} {apos cpos:Pos} {T id:String} {r:V→List V→Hp→VK→Prop} (hK:X.K=K) (pa:PlainAttrs T) (slot:Slot T name id) (hty:typeOf (.builtin id)=pure (.type "method_descriptor")) (hm:MtR X id r) (ho:PE X o to) (ha:PA X (e::es) t)
  (hbase:attributeBase o name X.env (eval o X.env)=eval o X.env:=by rfl)
  (hfew:((backTo cpos (starEach (e::es) X.env)).all (fun x=>!x.1)&&(backToKw cpos (keywordEach [] X.env)).all (fun x=>x.1.isSome)
   &&decide ((e::es).length+([]:List Keyword).length+(if ([]:List Keyword).isEmpty then 0 else 1)<30))=true:=by rfl)
  (hline:(apos.endLine==cpos.line)=true:=by rfl) (hs:starEach (e::es) X.env=(false,eval e X.env)::starEach es X.env:=by rfl) (hplain:(backTo cpos (starEach es X.env)).any (·.1)=false:=by rfl):
  PE X (.Call (.Attribute o name apos) (e::es) [] cpos) (tBM K T r to t):=hK▸qmi pa slot hty hm ho ha hbase hfew hline hs hplain
theorem qhj {o:Expr} {to:TE} {name:Str} {apos cpos:Pos} {T id:String} {r:V→List V→Hp→VK→Prop} (hK:X.K=K) (pa:PlainAttrs T) (slot:Slot T name id) (hty:typeOf (.builtin id)=pure (.type "method_descriptor")) (hm:MtR X id r) (ho:PE X o to)
  (hbase:attributeBase o name X.env (eval o X.env)=eval o X.env:=by rfl) (hline:(apos.endLine==cpos.line)=true:=by rfl):PE X (.Call (.Attribute o name apos) [] [] cpos) (qfk K T r to):=hK▸qkq pa slot hty hm ho hbase hline
end
def qf5 (K:Frag):R2:=fun x y H Q=>∃ (a b:Addr) (xs:List V),x= .ref a∧y= .ref b∧SqL K H a xs∧SqL K H b []∧Q (.bl xs.isEmpty) H
theorem ZN {X:Cx} {K:Frag} (h:X.K=K) (hu:X.A.units<cLine):OpR X (compareOp .Eq) (qf5 K):=by
 subst h;intro pins s σ H x y v u Q I rx ry q;obtain ⟨a,b,xs,rfl,rfl,ha,hb,q⟩:=q;cases rx;cases ry;obtain ⟨its,rv,p,_⟩:=I.list ha;obtain ⟨itb,rb,pb,_⟩:=I.list hb;cases rb;cases rv with
 | nil=>exact SeqAt.eq_listAt (e:=fun _=>true) p.isList pb.isList rfl hu (fun j h1 _=>absurd h1 (by simp)) (qR I q rfl)
 | cons r rr=>exact SeqAt.eq_list_lengthsAt p.isList pb.isList (by simp) hu (qR I q rfl)
structure Def (P:Program) (w:World) (K:Frag) (mg:Str→Option Value) (base:Heap) (k:Nat) (x:Str) (ps:List Str) (sp:Sp):Prop where
 ex:∃ (f:Addr) (fd:FuncData),FnOk P w K mg base CX0 k f fd ps sp∧vO K fd ps []∧PySem.W.keepIn K (.ref f)=true∧mg x=some (.ref f)
theorem qkp {X:Cx} {k:Nat} {x:Str} {ps:List Str} {sp:Sp} {e:Expr} {es:List Expr} {t:TA} {p pos:Pos} (D:Def X.prog X.w X.K X.mg X.base k x ps sp) (hr:Room k X.A) (ha:PA X (e::es) t) (hg:Gl X x:=by rfl)
  (hdb:(x==("__debug__":Str))=false:=by decide) (he:starEach (e::es) X.env=(false,eval e X.env)::starEach es X.env:=by rfl) (hpl:(backTo pos (starEach es X.env)).any (·.1)=false:=by rfl):
  PE X (.Call (.Name x p) (e::es) [] pos) (qG sp [] E0 t):=by
 obtain ⟨f,fd,F,B,kp,m⟩:=D.ex;exact qii F hr hg m kp B .nil qgj ha hdb he hpl
section
variable {P:Program} {w:World} {outer l2:List Env} {H H':Hp} {s s':Shared} {ea:Addr} {C:Value} {h':Heap}
end
section
variable {P:Program} {w:World} {K:Frag} {mg:Str→Option Value} {base:Heap} {N:List Str} {qual:Str} {scope:Scope} {f:Addr} {cd:Value} {A:Around} {outer:List Env} {s₀:Shared} {H₀:Hp} {E:XK}
end
section
open PySem.Builtin PySem.Builtin.ObjectAttr PySem.Builtin.Getset_descriptor
variable {prog:Program} {w:World} {A:Around} {K:Frag} {x D:Addr}
end
section
variable {P:Program} {w:World} {K:Frag} {mg:Str→Option Value} {base:Heap} {N:List Str} {qual:Str} {scope:Scope} {f:Addr} {cd:Value} {A:Around} {outer:List Env} {s₀:Shared} {H₀:Hp} {E:XK}
end
section
variable {X:Cx} {pins ps2:List (Addr×Obj)} {σ:St} {H:Hp} {s:Shared}
theorem Inv.trackN {D:Addr} {o:HO} (I:Inv X pins σ H s) (h0:H D=none) (hL:D≠X.env.locals) (hs:X.s₀.heap.get? D=none) (hc:∀ x c,X.env.cells.lookup x=some c→c≠D) (hp:∀ p∈X.pn++pins,p.1≠D)
  (new:zL X.prog X.w (upd H D o) s.heap D o):Inv X pins σ (upd H D o) s:=by
 have nD:∀ b u,H b=some u→b≠D:=fun b u q=>qD q h0;refine ⟨I.ok,I.os,I.bare,⟨I.base.keep,I.base.slot,fun b ob e n hx=>?_,I.base.there,fun b xs e=>?_,fun b ob u e=>?_,fun b ps e=>?_⟩,I.loc,I.cell,by rw [qk (Ne.symm hL)];exact I.free,fun x c e=>by rw [qk (hc x c e)];exact I.freeC x c e,fun p hpp=>?_,fun b u e=>?_,I.len⟩
 ·rw [qk (fun z=>by rw [z,hs] at e;cases e)]
  exact I.base.free b ob e n hx
 ·have q:=I.base.tups b xs e;rw [qk (nD _ _ q)];exact q
 ·have q:=I.base.frzs b ob u e;rw [qk (nD _ _ q)];exact q
 ·obtain ⟨mo,q⟩:=I.base.tbls b ps e;exact ⟨mo,by rw [qk (nD _ _ q)];exact q⟩
 ·obtain ⟨e,n,r⟩:=I.pin p hpp;exact ⟨e,by rw [qk (hp p hpp)];exact n,r⟩
 ·by_cases hb:b=D
  ·subst hb;rw [upd_same] at e;cases e;exact new
  ·rw [qk hb] at e;exact (I.hok b u e).stay (fun c v _ q=>q) (fun c q=>by rw [qk (nD _ _ q)];exact q) fun c xs q=>by rw [qk (nD _ _ q)];exact q
end
section
variable {X:Cx} {K:Frag} {e o:Expr} {es:List Expr} {te to:TE} {st:Stmt} {rest:List Stmt} {t u:TS} {pos apos cpos:Pos}
theorem Yh (hK:X.K=K):OpR X (compareOp .In) (rIn K false):=hK▸qd5
theorem Ya (hK:X.K=K):OpR X (compareOp .NotIn) (rIn K true):=hK▸Zs
end
inductive EntsAre (p:Params):List DictEntry→List (Str×Value)→Prop
 | nil:EntsAre p [] []
 | cons {x:Str} {t:Tok} {v:Value} {es:List DictEntry} {r:List (Str×Value)}:EntsAre p es r→EntsAre p (⟨PyData.keyHash p x,.str x t,v⟩::es) ((x,v)::r)
def qdp (P:Program) (w:World) (K:Frag) (a:Addr) (kvs:List (Str×Value)):Prop:=∀ h:Heap,K.In h→h.DictOf (zo P w) a (kvs.map fun e=>((Sum.inr e.1:Key),e.2))
section
variable {P:Program} {w:World} {K:Frag} {a:Addr}
theorem X1 {p:Params}:∀ {es:List DictEntry} {kvs:List (Str×Value)},EntsAre p es kvs→∀ e∈es,∃ x t,e.key= .str x t∧e.hash=PyData.keyHash p x
 | _,_,.nil,e,he=>by cases he
 | _,_,.cons (x:=x) (t:=t) h,e,he=>by
  rcases Ao.mp he with rfl | he
  ·exact ⟨x,t,rfl,rfl⟩
  ·exact X1 h e he
theorem Yo {p:Params}:∀ {es:List DictEntry} {kvs:List (Str×Value)},EntsAre p es kvs→Pairs (zo P w) es (kvs.map fun e=>((Sum.inr e.1:Key),e.2))
 | _,_,.nil=> .nil
 | _,_,.cons (x:=x) (t:=t) h=> .cons (Vt x t) rfl (Yo h)
theorem Yb {es:List DictEntry} {n:Nat} {kvs:List (Str×Value)} (l:K.lookup a=some {cls:= .type "dict",data:= .dict es.toArray n}) (e:EntsAre w.params es kvs) (nd:(kvs.map (·.1)).Nodup):qdp P w K a kvs:=by
 intro h X;refine ⟨_,es.toArray,n,X _ _ l,⟨rfl,rfl,rfl⟩,rfl,fun en hen=>?_,by simpa using Yo e,?_⟩
 ·obtain ⟨x,t,e1,e2⟩:=X1 e en (by simpa using hen)
  refine ⟨Sum.inr x,?_,?_⟩
  ·rw [e1];exact Vt x t
  ·rw [e2];rfl
 ·rw [Bx];have:(((·.1):Key×Value→Key) ∘ fun e:Str×Value=>((Sum.inr e.1:Key),e.2))=(Sum.inr:Str→Key) ∘ (·.1):=rfl;rw [this,← Bx];exact (List.pairwise_map.mpr (nd.imp fun hne z=>hne (Ew z)))
theorem Qj:∀ (kvs:List (Str×Value)) (x:Str),valueAt (kvs.map fun e=>((Sum.inr e.1:Key),e.2)) (Sum.inr x)=(kvs.find? fun e=>decide (e.1=x)).map (·.2)
 | [],_=>rfl
 | (y,v)::r,x=>by
  have ih:=Qj r x;unfold valueAt at ih ⊢;rw [Ba,C2,C2]
  by_cases h:y=x
  ·subst h;simp
  ·have h1:¬ (Sum.inr y:Key)=Sum.inr x:=fun z=>h (Ew z);simp only [As h1,As h];exact ih
end
inductive TabT (K:Frag):List (Str×List Str)→List (Str×Value)→Prop
 | nil:TabT K [] []
 | cons {x:Str} {l:List Str} {a:Addr} {T:List (Str×List Str)} {r:List (Str×Value)}:(∀ H:Hp,SqT K H a (l.map V.str))→TabT K T r→TabT K ((x,l)::T) ((x,.ref a)::r)
inductive TabS:List (Str×Str)→List (Str×Value)→Prop
 | nil:TabS [] []
 | cons {x y:Str} {t:Tok} {T:List (Str×Str)} {r:List (Str×Value)}:TabS T r→TabS ((x,y)::T) ((x,.str y t)::r)
theorem TabT.get {K:Frag}:∀ {T:List (Str×List Str)} {r:List (Str×Value)} {x:Str} {l:List Str},TabT K T r→T.lookup x=some l→∃ a,(r.find? fun e=>decide (e.1=x)).map (·.2)=some (.ref a)∧∀ H:Hp,SqT K H a (l.map V.str)
 | _,_,_,_,.nil,e=>by cases e
 | _,_,x,l,.cons (x:=y) (a:=a) h t,e=>by
  rw [Cb] at e
  by_cases hx:y=x
  ·subst hx;simp only [beq_self_eq_true] at e;cases e;exact ⟨a,by simp,h⟩
  ·have:(x==y)=false:=by simpa using fun z=>hx z.symm
   rw [this] at e;obtain ⟨b,h1,h2⟩:=TabT.get t e;exact ⟨b,by rw [C2,As hx];exact h1,h2⟩
theorem TabS.get:∀ {T:List (Str×Str)} {r:List (Str×Value)} {x y:Str},TabS T r→T.lookup x=some y→∃ t,(r.find? fun e=>decide (e.1=x)).map (·.2)=some (.str y t)
 | _,_,_,_,.nil,e=>by cases e
 | _,_,x,y,.cons (x:=z) (t:=t) h,e=>by
  rw [Cb] at e
  by_cases hx:z=x
  ·subst hx;simp only [beq_self_eq_true] at e;cases e;exact ⟨t,by simp⟩
  ·have:(x==z)=false:=by simpa using fun q=>hx q.symm
   rw [this] at e;obtain ⟨u,h1⟩:=TabS.get h e;exact ⟨u,by rw [C2,As hx];exact h1⟩
def qce (K:Frag) (T:List (Str×List Str)) (ti:TE):TE:=fun σ H Q=>ti σ H fun y H1=>∃ x l,y= .str x∧T.lookup x=some l∧∀ a,(∀ H:Hp,SqT K H a (l.map V.str))→Q (.ref a) H1
def qje (T:List (Str×Str)) (ti:TE):TE:=fun σ H Q=>ti σ H fun y H1=>∃ x z,y= .str x∧T.lookup x=some z∧Q (.str z) H1
structure KTabT (P:Program) (w:World) (K:Frag) (mg:Str→Option Value) (nm:Str) (T:List (Str×List Str)):Prop where
 ex:∃ (a:Addr) (kvs:List (Str×Value)),mg nm=some (.ref a)∧qdp P w K a kvs∧TabT K T kvs
structure KTabS (P:Program) (w:World) (K:Frag) (mg:Str→Option Value) (nm:Str) (T:List (Str×Str)):Prop where
 ex:∃ (a:Addr) (kvs:List (Str×Value)),mg nm=some (.ref a)∧qdp P w K a kvs∧TabS T kvs
section
variable {X:Cx} {K:Frag} {nm:Str} {np pos:Pos} {i:Expr} {ti:TE}
theorem Qk {pins:List (Addr×Obj)} {σ:St} {H:Hp} {s:Shared} {a:Addr} {kvs:List (Str×Value)} {x:Str} {v u:Value} {Q:Value→Shared→Prop} {A:Around} {E:Value→Shared→Prop} (I:Inv X pins σ H s) (D:qdp X.prog X.w X.K a kvs) (r:qN (.str x) u)
  (hv:(kvs.find? fun e=>decide (e.1=x)).map (·.2)=some v) (h:Q v {s with toks:=s.toks+1}):wpAny (model X.prog X.w) A (getItem (.ref a) u) Q E s:=by
 obtain ⟨t,rfl⟩:=r;exact wpAny_getItem_of (knd:=zo X.prog X.w) (k:=Sum.inr x) (Vt x t) (D _ I.kIn).mapOf ((Qj kvs x).trans hv) h
theorem Zo {T:List (Str×List Str)} (hK:X.K=K) (D:KTabT X.prog X.w X.K X.mg nm T) (hi:PE X i ti) (hs:qja i) (hg:Gl X nm:=by rfl) (hd:(nm==("__debug__":Str))=false:=by decide):PE X (.Subscript (.Name nm np) i pos) (qce K T ti):=by
 subst hK;obtain ⟨a,kvs,hm,kd,tb⟩:=D.ex;intro pins s σ H Q I h;refine Zf PySem.F.slot_dict_getitem.lookup hs (wo I hg hm (thn (hi pins s σ H _ I h) fun u s1 ⟨y,H1,I1,r1,x,l,e,hl,q1⟩=>?_) hd);subst e;obtain ⟨b,h1,h2⟩:=tb.get hl;exact ⟨(kd _ I1.kIn).mapOf.typeIs,Qk I1 kd r1 h1 ⟨.ref b,H1,I1.tok _,rfl,q1 b h2⟩⟩
theorem qif {T:List (Str×Str)} (D:KTabS X.prog X.w X.K X.mg nm T) (hi:PE X i ti) (hs:qja i) (hg:Gl X nm:=by rfl) (hd:(nm==("__debug__":Str))=false:=by decide):PE X (.Subscript (.Name nm np) i pos) (qje T ti):=by
 obtain ⟨a,kvs,hm,kd,tb⟩:=D.ex;intro pins s σ H Q I h;refine Zf PySem.F.slot_dict_getitem.lookup hs (wo I hg hm (thn (hi pins s σ H _ I h) fun u s1 ⟨y,H1,I1,r1,x,z,e,hl,q1⟩=>?_) hd);subst e;obtain ⟨t,h1⟩:=tb.get hl;exact ⟨(kd _ I1.kIn).mapOf.typeIs,Qk I1 kd r1 h1 ⟨.str z,H1,I1.tok _,⟨t,rfl⟩,q1⟩⟩
end
theorem zO {K:Frag} {a:Addr} {its:List Value} {n:Nat} {l:List Str} (h:K.lookup a=some {cls:= .type "tuple",data:= .seq its.toArray n}) (v:qM (l.map V.str) its) (hz:its.length≤1000):∀ H:Hp,SqT K H a (l.map V.str):=
 fun _=> .inr ⟨_,its.toArray,n,h,rfl,rfl,by rw [Aw];exact A0 hz O0,by simpa using v⟩
section
variable {prog:Program} {w:World} {A:Around} {E:Value→Shared→Prop} {s:Shared}
theorem V4 {it t:Addr} {i:Nat} {qu:Array Value} {x:Value} {Q:Value→Shared→Prop} (hit:s.heap.IsTupleIter it t i) (ht:s.heap.IsTuple t qu) (hx:qu[i]?=some x)
  (hQ:∀ h',h'.IsTupleIter it t (i+1)→Heap.SameBut it s.heap h'→Q x {s with heap:=h'}):wpAny (model prog w) A (Builtin.SmallTypes.nextOf (.ref it)) Q E s:=by
 obtain ⟨o,ho,hc,hd⟩:=id hit;obtain ⟨ol,hol,_,nl,hdl⟩:=ht;unfold Builtin.SmallTypes.nextOf;refine Aa (Cr (name:=Str.ofString "__next__") hit.typeIs D0 (Co D0 hit.typeIs F.entry_tuple_iterator_next ?_ (F.args_tuple_iterator_next_1 _)));show wpAny _ _ (field (.ref it) 0>>=_) _ _ s;refine Aa (B5 ho hd (x:= .ref t) rfl ?_);show wpAny _ _ (if (Value.ref t==Value.none)=true then _ else _) _ _ s;rw [if_neg (show ¬ ((Value.ref t==Value.none)=true) from Ai)]
 show wpAny _ _ (field (.ref it) 1>>=_) _ _ s;refine Aa (B5 ho hd (x:= .int i 0) rfl ?_);show wpAny _ _ (seqItems? (.ref t)>>=_) _ _ s;refine Aa (De hol hdl ?_);simp only [Int.toNat_natCast,hx];refine Aa (Et ho hd (by simp) (Aq ⟨x,rfl,Aq (hQ _ ⟨_,C3 _ ho (Obj.isFreed_of_fields (Ds hd _)),(Obj.cls_mapFields ..).trans hc,?_⟩ (Heap.SameBut.update ..))⟩))
 rw [Ds hd];simp [rawInt]
theorem XO {it t:Addr} {i:Nat} {qu:Array Value} {Q:Value→Shared→Prop} (hh:A.handled=none) (hit:s.heap.IsTupleIter it t i) (ht:s.heap.IsTuple t qu) (hx:qu[i]?=none)
  (hE:∀ h' e,Heap.ExtBut it s.heap h'→(∃ o,h'.get? e=some o∧o.cls= .type "StopIteration")→E (.ref e) {s with heap:=h'}):wpAny (model prog w) A (Builtin.SmallTypes.nextOf (.ref it)) Q E s:=by
 obtain ⟨o,ho,hc,hd⟩:=id hit;obtain ⟨ol,hol,_,nl,hdl⟩:=ht;unfold Builtin.SmallTypes.nextOf;refine Aa (Cr (name:=Str.ofString "__next__") hit.typeIs D0 (Co D0 hit.typeIs F.entry_tuple_iterator_next ?_ (F.args_tuple_iterator_next_1 _)));show wpAny _ _ (field (.ref it) 0>>=_) _ _ s;refine Aa (B5 ho hd (x:= .ref t) rfl ?_);show wpAny _ _ (if (Value.ref t==Value.none)=true then _ else _) _ _ s;rw [if_neg (show ¬ ((Value.ref t==Value.none)=true) from Ai)]
 show wpAny _ _ (field (.ref it) 1>>=_) _ _ s;refine Aa (B5 ho hd (x:= .int i 0) rfl ?_);show wpAny _ _ (seqItems? (.ref t)>>=_) _ _ s;refine Aa (De hol hdl ?_);simp only [Int.toNat_natCast,hx];refine Aa (Ez (Aa (Et ho hd (by simp) ?_)));show wpAny _ _ (newExc (.type "StopIteration") []>>=_) _ _ _
 refine Aa ?_;simp only [newExc,newTuple];refine Aa (Cp ?_ (by size_fits))
 refine Aa (m:=firstArgMember _ _) (C5 (a:=Value.none) (by first | rfl | (simp only [firstArgMember];rfl)) ?_);refine Cp ?_ (by size_fits)
 simp only [raiseNew];refine Aa (wpAny_handled ?_);first | rw [show A.in1.handled=none from hh] | rw [hh]
 refine Aa (Aq (wpAny_throw (hE _ _ (((Heap.SameBut.update ..).extBut.push _).push _) ⟨_,A6 _ rfl,rfl⟩)))
structure ZipAt (z TI TO i1 i2 l1 l2:Addr) (i:Nat) (h:Heap):Prop where
 hz:IsZip h z TI TO .none
 hTI:IsPair h TI (.ref i1) (.ref i2)
 hTO:∃ a b,IsPair h TO a b
 h1:h.IsTupleIter i1 l1 i
 h2:h.IsTupleIter i2 l2 i
theorem qdq {z TI TO i1 i2 l1 l2:Addr} {i:Nat} {xs ys:Array Value} {x y:Value} {Q:Option Value→Shared→Prop} (D:ZipApart z TI TO i1 i2 l1 l2) (Z:ZipAt z TI TO i1 i2 l1 l2 i s.heap)
  (hl1:s.heap.IsTuple l1 xs) (hl2:s.heap.IsTuple l2 ys) (hx:xs[i]?=some x) (hy:ys[i]?=some y)
  (hQ:∀ h',IsZip h' z TI TO (rawInt s.heap.objs.size)→IsPair h' TO x y→h'.IsTupleIter i1 l1 (i+1)→h'.IsTupleIter i2 l2 (i+1)→IsPair h' s.heap.objs.size x y→h'.objs.size=s.heap.objs.size+1→
   (∀ c o,c≠z→c≠TO→c≠i1→c≠i2→s.heap.get? c=some o→h'.get? c=some o)→Q (some (.ref s.heap.objs.size)) {s with heap:=h'}):
  wpAny (model prog w) A (pyNext (.ref z)) Q E s:=by
 obtain ⟨hz,hTI,⟨a,b,hTO⟩,h1,h2⟩:=Z;have hT:s.TypeIs (.ref z) "zip":=⟨_,hz,rfl⟩;unfold pyNext;refine Aa (En (Cr (name:=Str.ofString "__next__") hT F.slot_zip_next (Co F.slot_zip_next hT F.entry_zip_next ?_ (F.args_zip_next_1 _))));show wpAny _ _ (field (.ref z) 2>>=_) _ _ _;refine Aa (B5 hz rfl (x:= .bool false) rfl ?_);show wpAny _ _ (field (.ref z) 3>>=_) _ _ _;refine Aa (B5 hz rfl (x:= .ref TI) rfl ?_);refine Aa (De hTI rfl ?_);show wpAny _ _ (Builtin.SmallTypes.ownedTupleIsFree (.ref z)>>=_) _ _ _;refine Aa ?_;unfold Builtin.SmallTypes.ownedTupleIsFree;refine Aa (B5 hz rfl (x:= .none) rfl (Aq ?_));simp only [if_true];refine Aa (Ez ?_);refine Aa (B5 hz rfl (x:= .ref TO) rfl ?_);refine Aa (Dr hz (by simp) fun g1 hz1 s1=>?_)
 replace hz1:IsZip g1 z TI TO .ellipsis:=hz1
 refine Aa ?_;simp only [List.zipIdx_cons,List.zipIdx_nil,Ep,List.forIn_nil];refine Aa (Aa (wpAny_onRaise ?_));show wpAny _ _ (Builtin.SmallTypes.nextOf (.ref i1)>>=_) _ _ _;refine Aa (V4 (h1.extBut s1.extBut D.i1z) (hl1.extBut s1.extBut D.l1z) hx fun g2 k2 s2=>Aq ?_);have hTO2:IsPair g2 TO a b:=s2.extBut _ _ D.TOi1 (s1.extBut _ _ D.TOz hTO);refine Aa (De hTO2 rfl ?_);refine Aa (wpAny_updateSeq_pair hTO2 fun g3 hTO3 s3=>?_)
 replace hTO3:IsPair g3 TO x b:=hTO3
 refine Aa (wpAny_letGo (Aq ?_));refine Aa (Aa (wpAny_onRaise ?_));show wpAny _ _ (Builtin.SmallTypes.nextOf (.ref i2)>>=_) _ _ _;refine Aa (V4 (((h2.extBut s1.extBut D.i2z).extBut s2.extBut D.i12.symm).extBut s3.extBut D.TOi2.symm) (((hl2.extBut s1.extBut D.l2z).extBut s2.extBut D.l2i1).extBut s3.extBut D.l2TO) hy fun g4 k4 s4=>Aq ?_);have hTO4:IsPair g4 TO x b:=s4.extBut _ _ D.TOi2 hTO3;refine Aa (De hTO4 rfl ?_);refine Aa (wpAny_updateSeq_pair hTO4 fun g5 hTO5 s5=>?_)
 replace hTO5:IsPair g5 TO x y:=hTO5
 refine Aa (wpAny_letGo (Aq (Aq ?_)));refine Aa (De hTO5 rfl ?_);refine Aa (wpAny_newTuple ?_);have e5:g5.objs.size=s.heap.objs.size:=by rw [s5.1,s4.1,s3.1,s2.1,s1.1]
 have z5:IsZip g5 z TI TO .ellipsis:=s5.extBut _ _ D.TOz.symm (s4.extBut _ _ D.i2z.symm (s3.extBut _ _ D.TOz.symm (s2.extBut _ _ D.i1z.symm hz1)));have k5:∀ c o,c≠z→c≠TO→c≠i1→c≠i2→s.heap.get? c=some o→g5.get? c=some o:=fun c o c1 c2 c3 c4 e=>s5.extBut _ _ c2 (s4.extBut _ _ c4 (s3.extBut _ _ c2 (s2.extBut _ _ c3 (s1.extBut _ _ c1 e))));have m1:g5.IsTupleIter i1 l1 (i+1):=((k2.extBut s3.extBut D.TOi1.symm).extBut s4.extBut D.i12).extBut s5.extBut D.TOi1.symm;have m2:g5.IsTupleIter i2 l2 (i+1):=k4.extBut s5.extBut D.TOi2.symm;have zlt:z<g5.objs.size:=Au z5;show wpAny _ _ (Builtin.SmallTypes.ownedTupleHandOut (.ref z) (.ref g5.objs.size)>>=_) _ _ _;refine Aa ?_;unfold Builtin.SmallTypes.ownedTupleHandOut;have z6:IsZip (g5.push {cls:= .type "tuple",data:= .seq #[x,y]}) z TI TO .ellipsis:=Aj _ z5;refine Aa (Dr z6 (by simp) fun g7 z7 s7=>?_)
 replace z7:IsZip g7 z TI TO (rawInt g5.objs.size):=z7
 refine Dr z7 (by simp) fun g8 z8 s8=>?_
 replace z8:IsZip g8 z TI TO (rawInt g5.objs.size):=z8
 have up:∀ c o,c≠z→g5.get? c=some o→g8.get? c=some o:=fun c o c1 e=>s8.extBut _ _ c1 (s7.extBut _ _ c1 (Aj _ e));have t8:IsPair g8 g5.objs.size x y:=s8.extBut _ _ (C8 zlt) (s7.extBut _ _ (C8 zlt) (A6 _ rfl));have n8:g8.objs.size=g5.objs.size+1:=by rw [s8.1,s7.1,Cy]
 rw [e5] at z8 t8 n8;refine Aq ⟨_,rfl,?_⟩;refine Aq ?_;show Q (some (.ref g5.objs.size)) _;rw [e5];exact hQ g8 z8 (up _ _ D.TOz hTO5) (m1.at fun o e=>up _ o D.i1z e) (m2.at fun o e=>up _ o D.i2z e) t8 n8 fun c o c1 c2 c3 c4 e=>up c o c1 (k5 c o c1 c2 c3 c4 e)
theorem qe8 {z TI TO i1 i2 l1 l2:Addr} {i:Nat} {xs ys:Array Value} {Q:Option Value→Shared→Prop} (hh:A.handled=none) (D:ZipApart z TI TO i1 i2 l1 l2) (Z:ZipAt z TI TO i1 i2 l1 l2 i s.heap)
  (hl1:s.heap.IsTuple l1 xs) (hl2:s.heap.IsTuple l2 ys) (hend:xs[i]?=none∨ys[i]?=none)
  (hQ:∀ h',(∀ c o,c≠z→c≠TO→c≠i1→c≠i2→s.heap.get? c=some o→h'.get? c=some o)→Q none {s with heap:=h'}):wpAny (model prog w) A (pyNext (.ref z)) Q E s:=by
 obtain ⟨hz,hTI,⟨a,b,hTO⟩,h1,h2⟩:=Z;have hT:s.TypeIs (.ref z) "zip":=⟨_,hz,rfl⟩;unfold pyNext;have fin:∀ h' e,(∀ c o,c≠z→c≠TO→c≠i1→c≠i2→s.heap.get? c=some o→h'.get? c=some o)→(∃ o,h'.get? e=some o∧o.cls= .type "StopIteration")→
   wpAny (model prog w) A (do if ← isInstance (.ref e) (.type "StopIteration") then pure none else throw (.ref e)) Q E {s with heap:=h'}:=fun h' e hk ⟨o,ho,hc⟩=>
  Aa (El (T:="StopIteration") (b:=true) ⟨o,ho,hc⟩ isSubtype_stop (Aq (hQ _ hk)))
 refine Aa (En (Cr (name:=Str.ofString "__next__") hT F.slot_zip_next (Co F.slot_zip_next hT F.entry_zip_next ?_ (F.args_zip_next_1 _))));show wpAny _ _ (field (.ref z) 2>>=_) _ _ _;refine Aa (B5 hz rfl (x:= .bool false) rfl ?_);show wpAny _ _ (field (.ref z) 3>>=_) _ _ _;refine Aa (B5 hz rfl (x:= .ref TI) rfl ?_);refine Aa (De hTI rfl ?_);show wpAny _ _ (Builtin.SmallTypes.ownedTupleIsFree (.ref z)>>=_) _ _ _;refine Aa ?_;unfold Builtin.SmallTypes.ownedTupleIsFree;refine Aa (B5 hz rfl (x:= .none) rfl (Aq ?_));simp only [if_true];refine Aa (Ez ?_);refine Aa (B5 hz rfl (x:= .ref TO) rfl ?_);refine Aa (Dr hz (by simp) fun g1 hz1 s1=>?_)
 replace hz1:IsZip g1 z TI TO .ellipsis:=hz1
 refine Aa ?_;simp only [List.zipIdx_cons,List.zipIdx_nil,Ep,List.forIn_nil];refine Aa (Aa (wpAny_onRaise ?_));show wpAny _ _ (Builtin.SmallTypes.nextOf (.ref i1)>>=_) _ _ _;cases hx:xs[i]? with
 | none=>
  refine Aa (XO hh (h1.extBut s1.extBut D.i1z) (hl1.extBut s1.extBut D.l1z) hx fun g2 e s2 he=>?_);obtain ⟨oe,hoe,hce⟩:=he;have z2:IsZip g2 z TI TO .ellipsis:=s2 _ _ D.i1z.symm hz1;have ez:e≠z:=fun q=>by subst q;rw [z2] at hoe;cases hoe;simp at hce
  exact Dr z2 (by simp) fun g3 _ s3=>fin g3 e (fun c o c1 _ c3 _ q=>s3.extBut _ _ c1 (s2 _ _ c3 (s1.extBut _ _ c1 q))) ⟨oe,s3.extBut _ _ ez hoe,hce⟩
 | some x=>
  have hy:ys[i]?=none:=by rcases hend with h | h;rw [hx] at h;cases h;exact h
  refine Aa (V4 (h1.extBut s1.extBut D.i1z) (hl1.extBut s1.extBut D.l1z) hx fun g2 k2 s2=>Aq ?_);have hTO2:IsPair g2 TO a b:=s2.extBut _ _ D.TOi1 (s1.extBut _ _ D.TOz hTO);refine Aa (De hTO2 rfl ?_);refine Aa (wpAny_updateSeq_pair hTO2 fun g3 hTO3 s3=>?_);refine Aa (wpAny_letGo (Aq ?_));refine Aa (Aa (wpAny_onRaise ?_));show wpAny _ _ (Builtin.SmallTypes.nextOf (.ref i2)>>=_) _ _ _;refine Aa (XO hh (((h2.extBut s1.extBut D.i2z).extBut s2.extBut D.i12.symm).extBut s3.extBut D.TOi2.symm) (((hl2.extBut s1.extBut D.l2z).extBut s2.extBut D.l2i1).extBut s3.extBut D.l2TO) hy fun g4 e s4 he=>?_);obtain ⟨oe,hoe,hce⟩:=he;have z4:IsZip g4 z TI TO .ellipsis:=s4 _ _ D.i2z.symm (s3.extBut _ _ D.TOz.symm (s2.extBut _ _ D.i1z.symm hz1));have ez:e≠z:=fun q=>by subst q;rw [z4] at hoe;cases hoe;simp at hce
  exact Dr z4 (by simp) fun g5 _ s5=>fin g5 e (fun c o c1 c2 c3 c4 q=>s5.extBut _ _ c1 (s4 _ _ c4 (s3.extBut _ _ c2 (s2.extBut _ _ c3 (s1.extBut _ _ c1 q))))) ⟨oe,s5.extBut _ _ ez hoe,hce⟩
end
section
variable {X:Cx} {pins:List (Addr×Obj)} {σ:St} {H:Hp} {s:Shared} {h':Heap}
theorem Inv.turns {t':Nat} {ch:List Addr} (I:Inv X pins σ H s) (hf:∀ b∈ch,wB X pins H b) (k:∀ b o,b∉ch→s.heap.get? b=some o→h'.get? b=some o):Inv X pins σ H {s with heap:=h',toks:=t'}:=by
 have nit:∀ b u,H b=some u→b∉ch:=fun b u e z=>by rw [(hf b z).1] at e;cases e
 refine I.step (g':=s.gens) (d':=s.drawn) (ch:=ch) (fun b hb=>?_) (fun b o _ _ hc e _=>k b o hc e) (fun b o _ _ hc e _=>⟨o.slots,k b o hc e⟩) (fun _ _ _ _ n=>n)
  (fun b o hc e=>⟨o,k b o hc e⟩) (fun _ _ e=>e) (fun _ _ _ e=>e) (fun b ps e=>⟨#[],by rw [e];simp⟩) (fun m hm=>?_) (fun b u e=>?_) I.bare
 ·obtain ⟨_,f1,_,f3,f4,f5⟩:=hf b hb;exact ⟨f3,f1,f4,f5⟩
 ·obtain ⟨o,es,ep,ho,r⟩:=hm;exact ⟨o,es,ep,k _ o (fun z=>(hf _ z).2.1 rfl) ho,r⟩
 ·refine (I.hok b u e).stay (fun c v hc q=>k c v ?_ q) (fun _ q=>q) fun _ _ q=>q;rcases hc with z | z
  ·rw [z];exact nit b u e
  ·exact nit c _ z
end
def Itz (K:Frag) (a b:Addr):It:=
 ⟨fun i H=>∃ xs ys x y,SqT K H a xs∧SqT K H b ys∧xs[i]?=some x∧ys[i]?=some y,
  fun i H v H'=>∃ p x y,H p=none∧v= .ref p∧(∀ xs,SqT K H a xs→xs[i]?=some x)∧(∀ ys,SqT K H b ys→ys[i]?=some y)∧H'=upd H p (.tup [x,y]),
  fun i H=>∃ xs ys,SqT K H a xs∧SqT K H b ys∧(xs.length≤i∨ys.length≤i)⟩
theorem qfe {P:Program} {w:World} {K:Frag} {elts:List Expr} {c:Nat} {pos:Pos} {z TI TO i1 i2 a b:Addr} (D:ZipApart z TI TO i1 i2 a b):
  Turn P w K (.Tuple elts c pos) (Itz K a b) [z,TI,TO,i1,i2] z (fun i h=>ZipAt z TI TO i1 i2 a b i h) where
 mem:=by simp
 obj:=fun i h st x hx=>by
  obtain ⟨hz,hTI,⟨p,q,hTO⟩,⟨o1,e1,c1,d1⟩,⟨o2,e2,c2,d2⟩⟩:=st;simp only [Ao,Bm,or_false] at hx;rcases hx with rfl | rfl | rfl | rfl | rfl
  ·exact ⟨_,hz,fun v e=>by cases e⟩
  ·exact ⟨_,hTI,fun v e=>by cases e⟩
  ·exact ⟨_,hTO,fun v e=>by cases e⟩
  ·exact ⟨o1,e1,fun v e=>by rw [d1] at e;cases e⟩
  ·exact ⟨o2,e2,fun v e=>by rw [d2] at e;cases e⟩
 keep:=fun i h h' st k=>by
  obtain ⟨hz,hTI,⟨p,q,hTO⟩,h1,h2⟩:=st;exact ⟨k z (by simp) _ hz,k TI (by simp) _ hTI,⟨p,q,k TO (by simp) _ hTO⟩,h1.at fun o e=>k i1 (by simp) o e,h2.at fun o e=>k i2 (by simp) o e⟩
 item:=by
  intro X hP hw hK hc i pins s σ H E I hf st hg;subst hP hw hK;obtain ⟨xs,ys,x,y,hq1,hq2,hx,hy⟩:=hg;obtain ⟨its,rv,p,hz⟩:=I.tuple hq1;obtain ⟨jts,rw',q,hz'⟩:=I.tuple hq2;obtain ⟨u,hu,ru⟩:=rv.get hx;obtain ⟨v,hv,rr⟩:=rw'.get hy;refine qdq D st (show s.heap.IsTuple a its.toArray from p) (show s.heap.IsTuple b jts.toArray from q) (x:=u) (y:=v) (by simpa using hu) (by simpa using hv) fun h1 z1 t1 k1 k2 pr sz kk=>?_
  refine ⟨_,rfl,wpAny_letOwnedTupleGo_zip z1 fun h2 z2 sb=>?_⟩;have kk2:∀ c o,c∉[z,TO,i1,i2]→s.heap.get? c=some o→h2.get? c=some o:=fun c o hc e=>by
   simp only [Ao,Bm,or_false,not_or] at hc;exact sb.extBut _ _ hc.1 (kk c o hc.1 hc.2.1 hc.2.2.1 hc.2.2.2 e)
  have I1:Inv X pins σ H {s with heap:=h2}:=I.turns (t':=s.toks) (ch:=[z,TO,i1,i2]) (fun b hb=>hf b (by simp only [Ao,Bm,or_false] at hb ⊢;rcases hb with rfl | rfl | rfl | rfl <;> simp)) kk2
  have hzlt:z<s.heap.objs.size:=Au st.hz;have pr2:IsPair h2 s.heap.objs.size u v:=sb.extBut _ _ (C8 hzlt) pr;have f:=I.fpOk (b:=s.heap.objs.size) (H':=H) (Ag _) (I.hok.fresh (Ag _));have I2:Inv X pins σ (upd H s.heap.objs.size (.tup [x,y])) {s with heap:=h2}:=I1.trackN f.1 f.2.1 (Ek I.sz) f.2.2.2.2.1 f.2.2.2.2.2 ⟨by simp [sizeLine],[u,v],.cons ru (.cons rr .nil),⟨_,pr2,rfl,_,rfl⟩⟩
  refine ⟨.ref s.heap.objs.size,_,I2,rfl,⟨s.heap.objs.size,x,y,f.1,rfl,fun zs hzs=>by rw [I.tuple_inj hzs hq1];exact hx,fun zs hzs=>by rw [I.tuple_inj hzs hq2];exact hy,rfl⟩,?_,fun b hb=>?_⟩
  ·exact ⟨z2,sb.extBut _ _ D.TIz (kk _ _ D.TIz D.TITO D.TIi1 D.TIi2 st.hTI),⟨u,v,sb.extBut _ _ D.TOz t1⟩,k1.extBut sb.extBut D.i1z,k2.extBut sb.extBut D.i2z⟩
  ·rw [qk (fun e=>?_)]
   ·exact (hf b hb).1
   ·have lt:b<s.heap.objs.size:=by
     obtain ⟨hz,hTI,⟨p,q,hTO⟩,⟨o1,e1,c1,d1⟩,⟨o2,e2,c2,d2⟩⟩:=st;simp only [Ao,Bm,or_false] at hb;rcases hb with rfl | rfl | rfl | rfl | rfl
     ·exact Au hz
     ·exact Au hTI
     ·exact Au hTO
     ·exact Au e1
     ·exact Au e2
    exact Bn lt e
 done:=by
  intro X hP hw hK hc i pins s σ H E I hf st hg;subst hP hw hK;obtain ⟨xs,ys,hq1,hq2,hl⟩:=hg;obtain ⟨its,rv,p,hz⟩:=I.tuple hq1;obtain ⟨jts,rw',q,hz'⟩:=I.tuple hq2;have l1:=rv.length;have l2:=rw'.length;refine qe8 (I.ok.hd hc) D st (show s.heap.IsTuple a its.toArray from p) (show s.heap.IsTuple b jts.toArray from q) (by simp;omega) fun h1 kk=>⟨rfl,?_⟩
  refine I.turns (t':=s.toks) (ch:=[z,TO,i1,i2]) (fun b hb=>hf b (by simp only [Ao,Bm,or_false] at hb ⊢;rcases hb with rfl | rfl | rfl | rfl <;> simp)) fun c o hc e=>?_
  simp only [Ao,Bm,or_false,not_or] at hc;exact kk c o hc.1 hc.2.1 hc.2.2.1 hc.2.2.2 e
 self:=fun _ _ _ _ _ st h=>wpAny_pyIter_zip st.hz h
abbrev tzA (h:Heap) (l:Addr):Heap:=h.push {cls:= .type "tuple_iterator",data:= .fields #[.ref l,.int 0 0]}
abbrev tzP (h:Heap) (u v:Value):Heap:=h.push {cls:= .type "tuple",data:= .seq #[u,v]}
abbrev tz2 (h:Heap) (l m:Addr):Heap:=tzA (tzA h l) m
abbrev tz4 (h:Heap) (l m:Addr):Heap:=tzP (tzP (tz2 h l m) (.ref h.objs.size) (.ref (tzA h l).objs.size)) .none .none
abbrev tz5 (h:Heap) (l m:Addr):Heap:=(tz4 h l m).push {cls:= .type "zip",data:= .fields #[.none,.bool false,.bool false,.ref (tz2 h l m).objs.size,.ref (tzP (tz2 h l m) (.ref h.objs.size) (.ref (tzA h l).objs.size)).objs.size]}
theorem qbq (l m:Addr) (xs ys:Array Value):
  Meets (Builtin.«zip.__new__» ⟨[.type "zip",.ref l,.ref m],[]⟩) (fun _ R s=>s.heap.IsTuple l xs∧s.heap.IsTuple m ys∧R (.ok (.ret (.ref (tz4 s.heap l m).objs.size))) {s with heap:=tz5 s.heap l m}):=
 .of_wp fun prog w A R s h=>by
  obtain ⟨hp,g,d,tk,os⟩:=s;obtain ⟨hl,hm,h⟩:=h;have hsub:=sub_zip;have h1:Heap.IsTuple (Shared.heap ⟨hp,g,d,tk,os⟩) l xs:=hl;have h2:Heap.IsTuple (Shared.heap ⟨tzA hp l,g,d,tk,os⟩) m ys:=by
   obtain ⟨o,e,c,n,q⟩:=hm;exact ⟨o,Aj _ e,c,n,q⟩
  wp_walk using Es h1,Es h2
  exact ⟨_,rfl,h⟩
section
variable {prog:Program} {w:World} {A:Around} {E:Value→Shared→Prop} {s:Shared}
theorem qe1 {l m:Addr} {xs ys:Array Value} {Q:Value→Shared→Prop} (hl:s.heap.IsTuple l xs) (hm:s.heap.IsTuple m ys)
  (h:∀ h',ZipAt (s.heap.objs.size+4) (s.heap.objs.size+2) (s.heap.objs.size+3) s.heap.objs.size (s.heap.objs.size+1) l m 0 h'→(∀ c o,s.heap.get? c=some o→h'.get? c=some o)→Q (.ref (s.heap.objs.size+4)) {s with heap:=h'}):
  wpAny (model prog w) A (call (.type "zip") [.ref l,.ref m]) Q E s:=by
 refine callType_new F.called_zip O0 (F.typeCall_zip_2 _ _) (F.newCall_zip_2 _ _) (fun obj=>F.args_object_init_3 obj _ _) F.entry_zip_new (qbq l m xs ys) ⟨hl,hm,?_⟩;have n1:(tzA s.heap l).objs.size=s.heap.objs.size+1:=Cy ..;have n2:(tz2 s.heap l m).objs.size=s.heap.objs.size+2:=by rw [Cy,n1]
 have n3:(tzP (tz2 s.heap l m) (.ref s.heap.objs.size) (.ref (tzA s.heap l).objs.size)).objs.size=s.heap.objs.size+3:=by rw [Cy,n2]
 have n4:(tz4 s.heap l m).objs.size=s.heap.objs.size+4:=by rw [Cy,n3]
 have g5:(tz5 s.heap l m).get? (tz4 s.heap l m).objs.size=some _:=A6 _ rfl;have up4:∀ c o,(tz4 s.heap l m).get? c=some o→(tz5 s.heap l m).get? c=some o:=fun c o e=>Aj _ e;have up3:∀ c o,(tzP (tz2 s.heap l m) (.ref s.heap.objs.size) (.ref (tzA s.heap l).objs.size)).get? c=some o→(tz5 s.heap l m).get? c=some o:=fun c o e=>up4 c o (Aj _ e);have up2:∀ c o,(tz2 s.heap l m).get? c=some o→(tz5 s.heap l m).get? c=some o:=fun c o e=>up3 c o (Aj _ e);have up1:∀ c o,(tzA s.heap l).get? c=some o→(tz5 s.heap l m).get? c=some o:=fun c o e=>up2 c o (Aj _ e);have g4:=up4 _ _ (A6 _ (o:={cls:= .type "tuple",data:= .seq #[.none,.none]}) rfl);have g3:=up3 _ _ (A6 _ (o:={cls:= .type "tuple",data:= .seq #[.ref s.heap.objs.size,.ref (tzA s.heap l).objs.size]}) rfl);have g2:=up2 _ _ (A6 _ (o:={cls:= .type "tuple_iterator",data:= .fields #[.ref m,.int 0 0]}) rfl);have g1:=up1 _ _ (A6 _ (o:={cls:= .type "tuple_iterator",data:= .fields #[.ref l,.int 0 0]}) rfl);show _∧_;rw [n2,n3,n4] at g5;rw [n1,n2] at g3;rw [n3] at g4;rw [n1] at g2;rw [n4];exact ⟨⟨_,g5,rfl⟩,h _ ⟨g5,g3,⟨_,_,g4⟩,⟨_,g1,rfl,rfl⟩,⟨_,g2,rfl,rfl⟩⟩ fun c o e=>up1 c o (Aj _ e)⟩
end
theorem qll:bootBuiltins "zip"=some (.type "zip"):=∅
def qlc (K:Frag) (ta:TA):TI:=fun σ H R=>ta σ H fun vs H1=>∃ a b:Addr,vs=[.ref a,.ref b]∧(∃ xs,SqT K H1 a xs)∧(∃ ys,SqT K H1 b ys)∧R (Itz K a b) H1
theorem qgf {X:Cx} {K:Frag} {elts:List Expr} {c:Nat} {tpos:Pos} {a b:Expr} {ta:TA} {p pos:Pos} (hK:X.K=K) (hm:X.mg "zip"=none) (ha:PA X [a,b] ta) (hg:Gl X "zip":=by rfl)
  (hs:starEach [a,b] X.env=[(false,eval a X.env),(false,eval b X.env)]:=by rfl) (hs2:starEach [b] X.env=[(false,eval b X.env)]:=by rfl):PI X (.Tuple elts c tpos) (.Call (.Name "zip" p) [a,b] [] pos) (qlc K ta):=by
 intro pins s σ H R I h;subst hK;refine Call_ (J9 I hg hm qll (Cc (thn (ha pos pins s σ H _ I h) fun us s1 ⟨vs,H1,I1,r1,q1⟩=>?_) (by rw [hs,hs2]) (by rw [hs2];rfl)))
 obtain ⟨l,m,e,⟨xs,hx⟩,⟨ys,hy⟩,q⟩:=q1;subst e;cases r1 with
 | cons r rr=>
  cases rr with
  | cons r' rr=>
   cases rr;cases r;cases r';obtain ⟨its,rv,pl,hz⟩:=I1.tuple hx;obtain ⟨jts,rw',pm,hz'⟩:=I1.tuple hy;refine qe1 (show s1.heap.IsTuple l its.toArray from pl) (show s1.heap.IsTuple m jts.toArray from pm) fun h' Z k=>?_;have ll:l<s1.heap.objs.size:=by obtain ⟨o,e,_⟩:=pl;exact Au e
   have lm:m<s1.heap.objs.size:=by obtain ⟨o,e,_⟩:=pm;exact Au e
   have D:ZipApart (s1.heap.objs.size+4) (s1.heap.objs.size+2) (s1.heap.objs.size+3) s1.heap.objs.size (s1.heap.objs.size+1) l m:=by
    have na:∀ (n i j:Nat),i≠j→n+i≠n+j:=fun n i j h=>⋯;have nl:∀ (n k i:Nat),k<n→k≠n+i:=fun n k i h=>⋯;exact ⟨na _ 2 4 O0,na _ 3 4 O0,na _ 0 4 O0,na _ 1 4 O0,na _ 2 3 O0,na _ 2 0 O0,na _ 2 1 O0,na _ 3 0 O0,na _ 3 1 O0,na _ 0 1 O0,
     nl _ _ 4 ll,nl _ _ 3 ll,nl _ _ 0 ll,nl _ _ 1 ll,nl _ _ 4 lm,nl _ _ 3 lm,nl _ _ 0 lm,nl _ _ 1 lm⟩
   refine wpAny_pyIter_zip Z.hz ⟨_,_,_,_,H1,rfl,I1.kept (t':=s1.toks) k,qfe D,Z,fun b hb=>?_,q⟩;have hb':s1.heap.objs.size≤b:=by
    simp only [Ao,Bm,or_false] at hb;rcases hb with e | e | e | e | e <;> rw [e] <;> first | exact Nat.le_add_right _ _ | exact Ag _
   exact I1.fpOk hb' (I1.hok.fresh hb')
section
variable {κ:Type} [DecidableEq κ]
def vK (l:List κ) (k:κ):List κ:=if k∈l then l else l++[k]
def vX (ks:List κ):List κ:=ks.foldl vK []
theorem qdt (ks:List κ) (k:κ):vX (ks++[k])=vK (vX ks) k:=by unfold vX;rw [Eg];rfl
theorem wm {l:List κ} {k x:κ}:x∈vK l k↔x∈l∨x=k:=by
 unfold vK;split
 ·rename_i h;exact ⟨.inl,fun q=>q.elim id fun e=>e▸h⟩
 ·simp
theorem addU_len (l:List κ) (k:κ):(vK l k).length=if k∈l then l.length else l.length+1:=by
 unfold vK;split <;> simp
theorem Yn:∀ (ks l:List κ),(ks.foldl vK l).length≤l.length+ks.length
 | [],l=>Ag _
 | k::r,l=>by
  have h:=Yn r (vK l k);have e:=addU_len l k;rw [B4,Ak];split at e <;> omega
theorem qcc (ks:List κ):(vX ks).length≤ks.length:=by have:=Yn ks [];simpa [vX] using this
theorem Q2:∀ (ks l:List κ),(∃ k∈ks,k∈l)∨¬ ks.Nodup→(ks.foldl vK l).length<l.length+ks.length
 | [],l,h=>by rcases h with ⟨k,hk,_⟩ | h;cases hk;exact absurd Ei h
 | k::r,l,h=>by
  rw [B4,Ak]
  by_cases hk:k∈l
  ·have e:(vK l k).length=l.length:=by rw [addU_len,if_pos hk]
   have:=Yn r (vK l k);omega
  ·have e:(vK l k).length=l.length+1:=by rw [addU_len,if_neg hk]
   have:=Q2 r (vK l k) (by
    rcases h with ⟨x,hx,hl⟩ | h
    ·rcases Ao.mp hx with rfl | hx
     ·exact absurd hl hk
     ·exact .inl ⟨x,hx,wm.mpr (.inl hl)⟩
    ·rw [C7] at h
     by_cases hr:k∈r
     ·exact .inl ⟨k,hr,wm.mpr (.inr rfl)⟩
     ·exact .inr fun q=>h ⟨hr,q⟩)
   omega
theorem Q3:∀ (ks l:List κ),ks.Nodup→(∀ k∈ks,k∉l)→(ks.foldl vK l).length=l.length+ks.length
 | [],l,_,_=>rfl
 | k::r,l,h,hd=>by
  rw [B4,Ak];have hk:k∉l:=hd k A5;have e:(vK l k).length=l.length+1:=by rw [addU_len,if_neg hk]
  rw [C7] at h;have:=Q3 r (vK l k) h.2 fun x hx q=>(wm.mp q).elim (hd x (A9 _ hx)) fun e=>h.1 (e▸hx);omega
theorem qfc (ks:List κ):((vX ks).length=ks.length)↔ks.Nodup:=by
 constructor
 ·intro h
  by_cases q:ks.Nodup
  ·exact q
  ·have:=Q2 ks [] (.inr q);unfold vX at h;simp at this;omega
 ·intro h;have:=Q3 ks [] h fun _ _ q=>nomatch q;simpa [vX] using this
end
section
variable {prog:Program} {w:World} {κ:Type} [DecidableEq κ] {knd:PySem.KeyKind prog w κ} {A:Around}
abbrev Vn (knd:PySem.KeyKind prog w κ) (h:Heap) (a:Addr) (ks:List κ):Prop:=h.SetOf knd a (fun k=>decide (k∈vX ks)) (vX ks).length
theorem Vn.at' {h h':Heap} {a:Addr} {ks:List κ} (q:Vn knd h a ks) (k:∀ o,h.get? a=some o→h'.get? a=some o):Vn knd h' a ks:=by
 obtain ⟨o,es,ep,t,ho,r⟩:=q;exact ⟨o,es,ep,t,k o ho,r⟩
theorem qfx {R:Result→Shared→Prop} {it D:Addr} {fp wr:List Addr} {G:Array GenState→Array GenState→Prop} {ks:List κ} {P:Nat→Value→Prop} {St:Nat→Shared→Prop}
  (W:WalksS prog w A.in1 it fp wr G ks.length P St) (hD:D∉fp) (hP:∀ i v,P i v→∃ k,ks[i]?=some k∧knd.is k v=true∧v.scannable=true) (hb:ks.length+1<scanBound):
  ∀ (m i:Nat) (s:Shared),ks.length - i=m→i≤ks.length→St i s→Vn knd s.heap D (ks.take i)→
   (∀ s',Moved (D::wr) G s s'→Vn knd s'.heap D ks→R (.ok (.ret .none)) s')→codeAny (model prog w) A (.builtin "set.update.loop" ⟨[.ref D,.ref it],[]⟩) R s:=by
 have hDw:D∉wr:=fun q=>hD (W.sub _ q);have hin:∀ b∈wr,b∈D::wr:=fun b q=>A9 _ q;intro m
 induction m with
 | zero=>
  intro i s hm hi st hS hR;have e:i=ks.length:=⋯;subst e;rw [Bo] at hS;refine codeAny_builtin PyProof.Rows.F.entry_set_update_loop ?_;rw [Around.under_plainId Dt _];show wpAny (model prog w) A.in1 (pyNext (.ref it)>>=_) _ _ s;exact Aa (W.done s _ _ st fun s' mv=>Aq (hR s' (mv.mono hin) (hS.at' fun o q=>mv.heap D o hDw q)))
 | succ m ih=>
  intro i s hm hi st hS hR;have lt:i<ks.length:=⋯;refine codeAny_builtin PyProof.Rows.F.entry_set_update_loop ?_;rw [Around.under_plainId Dt _];show wpAny (model prog w) A.in1 (pyNext (.ref it)>>=_) _ _ s;refine Aa (W.item i s _ _ lt st fun v s1 pv st1 mv=>?_);obtain ⟨k,hk,hkv,hsc⟩:=hP i v pv;have hS1:Vn knd s1.heap D (ks.take i):=hS.at' fun o q=>mv.heap D o hDw q;show wpAny (model prog w) A.in1 (holding [v] (setAdd D v)>>=_) _ _ s1;refine Aa (Dl ?_);unfold setAdd;refine Dl (Aa (knd.pyHash hkv ?_));have few:(vX (ks.take i)).length+1<scanBound:=by
   have h1:=qcc (ks.take i);rw [Cu] at h1;omega
  refine wpAny_setAddHashed_of (knd:=knd) (s:={s1 with toks:=s1.toks+1}) hkv hsc hS1 few fun h2 sb hS2=>?_
  have hS3:Vn knd h2 D (ks.take (i+1)):=by
   have e:ks.take (i+1)=ks.take i++[k]:=by rw [Bb,hk];rfl
   unfold Vn;rw [e,qdt];refine SetOf_congr hS2 (fun x=>?_) ?_
   ·rw [Ca,B6,Dj,Dj,Dj,wm]
   ·rw [addU_len]
    by_cases q:k∈vX (ks.take i) <;> simp [q]
  refine Aq ⟨plainId_quiet Dt _,ih (i+1) _ ⋯ lt (W.frame _ s1 _ _ st1 (Ef _) fun b q o e=>?_) hS3 fun s3 mv3 hS4=>?_⟩
  ·rw [sb.2 b fun z=>hD (z▸q)];exact e
  ·refine hR s3 (Moved.trans W.gtrans ((mv.mono hin).then_heap (Ef _) fun b o q e=>?_) mv3) hS4;rw [sb.2 b fun z=>q (z▸A5)];exact e
end
section
variable {prog:Program} {w:World} {κ:Type} [DecidableEq κ] {knd:PySem.KeyKind prog w κ} {A:Around} {E:Value→Shared→Prop} {s:Shared}
abbrev vp (led:Bool):Obj:={cls:= .type "set",dict:=none,data:= .set #[] 0 (.fresh 0 0 led)}
theorem qe2 {t:Addr} {qu:Array Value} {ks:List κ} {Q:Value→Shared→Prop} (nh:A.handled=none) (ht:s.heap.IsTuple t qu) (hlen:qu.size=ks.length)
  (hk:∀ (i:Nat) (v:Value),qu[i]?=some v→∃ k,ks[i]?=some k∧knd.is k v=true∧v.scannable=true) (few:ks.length+1<scanBound)
  (h:∀ (h':Heap) (tk:Nat),Vn knd h' s.heap.objs.size ks→(∀ b o,s.heap.get? b=some o→h'.get? b=some o)→Q (.ref s.heap.objs.size) {s with heap:=h',toks:=tk}):
  wpAny (model prog w) A (call (.type "set") [.ref t]) Q E s:=by
 obtain ⟨c1,c2,mro⟩:=F.called_set.mro;have made:=F.called_set.made;have sub:=F.called_set.sub;refine wpAny_call (codeAny_of_tree ?_);show wpAny (model prog w) _ (callAny (.type "set") _) _ _ _;refine Aq ⟨Code.quiet_builtin _ ∅,codeAny_builtin F.entry_type_call ?_⟩;rw [Around.under_plain (weight_type_call_type "set" [.ref t] []) rfl];have n1:=F.called_set.notType;have n2:=F.called_set.canCreate;have n3:=F.typeCall_set_1 (.ref t)
 repeat (any_goals (first | assumption | wp_step))
 refine Er (code_set_new_1 (.ref t) (E:=E) (Q₁:=fun ob s1=>∃ led:Bool,ob= .ref s.heap.objs.size∧s1={s with heap:=s.heap.push (vp led)}) fun led=>⟨led,rfl,rfl⟩) fun r s1 q=>?_
 cases r with
 | error e=>exact q
 | ok f1=>
  cases f1 with
  | ret ob=>
   obtain ⟨led,rfl,rfl⟩:=q;have new:(s.heap.push (vp led)).get? s.heap.objs.size=some (vp led):=A6 _ rfl;have hty:Shared.TypeIs {s with heap:=s.heap.push (vp led)} (.ref s.heap.objs.size) "set":=⟨_,new,rfl⟩
   have i1:=F.called_set.init.lookup;have i2:=F.called_set.init.bind (.ref s.heap.objs.size)
   repeat (any_goals (first | assumption | wp_step))
   refine Er (codeAny_call_builtin (R:=wants (fun r s2=>r= .none∧∃ h' tk,s2={s with heap:=h',toks:=tk}∧Vn knd h' s.heap.objs.size ks∧∀ b o,s.heap.get? b=some o→h'.get? b=some o) E)
    F.called_set.init.plain F.entry_set_init (check_set_init_1 hty ?_)) fun r2 s2 q2=>?_
   ·obtain ⟨⟨oc,od,odt,osl⟩,ho,hc,n,hd⟩:=ht;simp only at hc hd;subst hc;subst hd;have ho1:(s.heap.push (vp led)).get? t=some {cls:= .type "tuple",dict:=od,data:= .seq qu n,slots:=osl}:=Aj _ ho;have j1:=F.sub_tuple_set;have j2:=F.sub_tuple_frozenset;have j3:(Value.type "tuple"==Value.type "dict")=false:=O0;have ht1:(s.heap.push (vp led)).IsTuple t qu:=⟨_,ho1,rfl,n,rfl⟩;unfold Builtin.«set.__init__» noKeywords Builtin.Frozenset.updateFrom;generalize hPI:pyIter=PI
    wp_walk
    subst hPI;refine Es ht1 (Aa (wpAny_runValue ?_));have lt:t<s.heap.objs.size:=Au ho;have nh3:A.in1.in1.in1.handled=none:=by simp [nh]
    have zs:(s.heap.push (vp led)).objs.size=s.heap.objs.size+1:=Cy ..;have ne1:t≠(s.heap.push (vp led)).objs.size:=by rw [zs];exact Bn (Eh lt)
    have out:s.heap.objs.size∉[(s.heap.push (vp led)).objs.size,t]:=by
     rw [zs,Ao,Am,not_or];exact ⟨Bn (Dn _),C8 lt⟩
    have Wk:=(Walks.tuple (prog:=prog) (w:=w) nh3 _ t ne1 qu).toS;rw [hlen] at Wk;refine qfx (knd:=knd) (ks:=ks) Wk out hk few (ks.length - 0) 0 _ rfl (Bw _) ⟨⟨_,A6 _ rfl,rfl,rfl⟩,?tup⟩ ?JR ?fin
    case tup=>
     exact ⟨_,Aj _ ho1,rfl,n,rfl⟩
    case JR=>
     exact SetOf_congr ((setObjOf_fresh (knd:=knd) led).setOf (Aj _ new) (by unfold scanBound;omega)) (fun _=>rfl) rfl
    case fin=>
     intro s' mv hS;obtain ⟨h',g',d',tk',os'⟩:=s';have e1:g'=s.gens:=mv.gens;have e2:d'=s.drawn:=mv.drawn;have e3:os'=s.os:=mv.os;subst e1;subst e2;subst e3;refine Aq (Aq ⟨rfl,h',tk',rfl,hS,fun b o e=>?_⟩);have lb:=Au e;refine mv.heap b o ?_ (Aj _ (Aj _ e));rw [Ao,Am,not_or,zs];exact ⟨Bn lb,Bn (Eh lb)⟩
   ·cases r2 with
    | error e=>exact q2
    | ok f2=>
     cases f2 with
     | ret r=>
      obtain ⟨rfl,h',tk,rfl,hS,kk⟩:=q2
      repeat (any_goals (first | assumption | wp_step))
      exact h _ _ hS kk
     | _=>exact q2.elim
  | _=>exact q.elim
end
def qhx (P:Program) (w:World) (a:Addr) (ks:List Str):HO:= .ext fun h=>Vn (zo P w) h a (ks.map fun k=>(Sum.inr k:Key))
section
variable {X:Cx}
theorem qe3 {K:Frag} (hK:X.K=K) (hc:X.calm=true):Jt X (.type "set") (fun xs H Q=>∃ (a:Addr) (ks:List Str),xs=[.ref a]∧SqT K H a (ks.map V.str)∧ks.length≤100∧∀ p,H p=none→Q (.ref p) (upd H p (qhx X.prog X.w p ks))):=by
 intro pins s σ H xs us Q I r h;subst hK;obtain ⟨a,ks,rfl,hq,hl,q⟩:=h;obtain ⟨u,rfl,ru⟩:=vb r;cases ru;obtain ⟨its,rv,p,hz⟩:=I.tuple hq;have e:=rv.length;rw [Ab] at e;refine qe2 (knd:=zo X.prog X.w) (ks:=ks.map fun k=>(Sum.inr k:Key)) (I.ok.hd hc) (show s.heap.IsTuple a its.toArray from p) (by simp [e]) (fun i v hv=>?_) (by simp [scanBound];omega) fun h' tk hS kk=>?_
 ·have hv':its[i]?=some v:=by simpa using hv
  cases hx:ks[i]? with
  | none=>
   have:its[i]?=none:=rv.none_of (by rw [Ar,hx];rfl)
   rw [this] at hv';cases hv'
  | some x=>
   obtain ⟨v',e1,r1⟩:=rv.get (i:=i) (x:= .str x) (by rw [Ar,hx];rfl)
   rw [hv'] at e1;cases e1;obtain ⟨t,rfl⟩:=r1;exact ⟨Sum.inr x,by rw [Ar,hx];rfl,WQ _ _ _ _,rfl⟩
 ·have fr:H s.heap.objs.size=none:=I.hok.fresh (Ag _);refine ⟨.ref s.heap.objs.size,_,I.laid (o:=qhx X.prog X.w s.heap.objs.size ks) (t':=tk) kk (Ag _) ⟨hS,?_,fun h1 h2 q1 k=>q1.at' k⟩,rfl,q _ fr⟩;obtain ⟨o,_,_,_,ho,_⟩:=hS;exact ⟨o,ho⟩
theorem qe5:Jt X (.builtin "len") (fun xs H Q=>∃ (a:Addr) (ks:List Str),xs=[.ref a]∧H a=some (qhx X.prog X.w a ks)∧ks.length≤100∧Q (.int ((vX ks).length:Nat)) H):=by
 intro pins s σ H xs us Q I r h;obtain ⟨a,ks,rfl,ha,hl,q⟩:=h;obtain ⟨u,rfl,ru⟩:=vb r;cases ru;obtain ⟨⟨o,es,ep,t,ho,hex,hd,_,_,hb,hf,hn⟩,_⟩:=I.hok a _ ha;have inj:∀ ks:List Str,(vX (ks.map fun k=>(Sum.inr k:Key))).length=(vX ks).length:=fun ks=>by
  have gen:∀ (ks l:List Str),((ks.map fun k=>(Sum.inr k:Key)).foldl vK (l.map fun k=>(Sum.inr k:Key)))=(ks.foldl vK l).map fun k=>(Sum.inr k:Key):=by
   intro ks
   induction ks with
   | nil=>intro l;rfl
   | cons k r ih=>
    intro l;rw [Ba,B4,B4,← ih]
    congr 1
    unfold vK
    by_cases h:k∈l <;> simp [h]
  have g:=gen ks [];unfold vX;rw [Ej] at g;rw [g,Ab]
 rw [inj] at hn;have hle:=qcc ks;refine call_len_set ho hex hd hf ⋯ ⟨.int es.size,H,I.tok _,⟨_,rfl⟩,?_⟩;rw [hn];exact q
end
section
variable {X:Cx} {K:Frag} {x:Str} {pos:Pos}
theorem qkd {a:Expr} {ta:TE} (hK:X.K=K) (ha:PE X a ta) (he:∀ whole,isTrue a X.env whole=(do let v ← whole;standAt a.pos;holding [v] (truthy v)):=by intro _;rfl):
  PT X a (fun σ H Q=>ta σ H fun x H'=>∃ k,qe6 K x H' k∧Q k H'):=hK▸qf7 ha he
def tGT (K:Frag) (l:List Str):TE:=fun _ H Q=>∀ a,(∀ H:Hp,SqT K H a (l.map V.str))→Q (.ref a) H
theorem qgi {l:List Str} (h:∃ a,X.mg x=some (.ref a)∧∀ H:Hp,SqT K H a (l.map V.str)) (hg:Gl X x:=by rfl) (hd:(x==("__debug__":Str))=false:=by decide):PE X (.Name x pos) (tGT K l):=by
 obtain ⟨a,m,q⟩:=h;intro pins s σ H Q I h;exact qcn (v:= .ref a) hg m rfl hd pins s σ H Q I (h a q)
theorem qjj (hK:X.K=K) (hg:X.A.guards=some []) (hu:X.A.units+80<cLine):Jt X (.type "str") (fun xs H Q=>∃ (a:Addr) (d:PyData),xs=[.ref a]∧Rep K H (.ref a) d∧d.showable=true∧d.hasDict=false∧d.depth≤64∧d.shown.length≤sizeLine∧Q (.str d.shown) H):=by
 intro pins s σ H xs us Q I r h;subst hK;obtain ⟨a,d,rfl,hr,hs,hd,hdp,hz,q⟩:=h;obtain ⟨u,rfl,ru⟩:=vb r;obtain ⟨as,rd⟩:=hr.reads I ru;cases ru;exact str_of_reads rd hs (fun z=>by rw [hd] at z;cases z) hg ⋯ (fun _ _ e=>e) (fun h' u tk kk=>⟨.str d.shown,H,I.kept kk,⟨u,rfl⟩,q⟩) hz
def tyD:PyData→String
 | .none=>"NoneType"
 | .bool _=>"bool"
 | .int _=>"int"
 | .str _=>"str"
 | .list _=>"list"
 | .tuple _=>"tuple"
 | .dict _=>"dict"
theorem jt (hK:X.K=K):Jt X (.builtin "isinstance") (fun xs H Q=>∃ x d T,xs=[x,.ty T]∧Rep K H x d∧T∈["bool","int","str","list","tuple"]∧Q (.bl (isi (tyD d) T)) H):=by
 intro pins s σ H xs us Q I r h;subst hK;obtain ⟨x,d,T,rfl,hr,hT,q⟩:=h;obtain ⟨u,w',rfl,ru,rw'⟩:=qjb r;cases (show w'=Value.type T from rw');have fin:∀ tk b,b=isi (tyD d) T→EP X pins σ Q (.bool b) {s with toks:=tk}:=fun tk b e=>⟨.bl _,H,I.tok tk,rfl,e▸q⟩
 cases hr with
 | non=>exact Vu I ru .non (Vs O0 hT) fun tk=>fin tk _ rfl
 | bl b=>exact Vu I ru (.bl b) (Vs O0 hT) fun tk=>fin tk _ rfl
 | int i=>exact Vu I ru (.int i) (Vs O0 hT) fun tk=>fin tk _ rfl
 | str y=>exact Vu I ru (.str y) (Vs O0 hT) fun tk=>fin tk _ rfl
 | @lst a xs ds hq _=>
  cases (show u=Value.ref a from ru);obtain ⟨its,_,⟨o,n,e,hc,_⟩,_⟩:=I.list hq;exact Cg PySem.W.kitx_list I.kIn ⟨o,e,hc⟩ (Vs (t:="list") O0 hT) (fun z=>nomatch z) fun tk=>fin tk _ rfl
 | @tup a xs ds hq _=>
  cases (show u=Value.ref a from ru);obtain ⟨its,_,⟨o,e,hc,_⟩,_⟩:=I.tuple hq;exact Cg PySem.W.kitx_tuple I.kIn ⟨o,e,hc⟩ (Vs (t:="tuple") O0 hT) (fun z=>nomatch z) fun tk=>fin tk _ rfl
end
structure Stay (st:Addr) (H H':Hp):Prop where
 at0:∃ kvs,H st=some (.dK kvs)
 at1:∃ kvs,H' st=some (.dK kvs)
 rest:∀ b o,b≠st→H b=some o→H' b=some o
section
variable {K:Frag} {st:Addr} {H H' H2:Hp}
theorem Stay.of {kvs:List (Key×V)} (h:H st=some (.dK kvs)) (g:qv H H'):Stay st H H':=⟨⟨kvs,h⟩,⟨kvs,g _ _ h⟩,fun b o _ e=>g b o e⟩
theorem Stay.put {kvs ks:List (Key×V)} (h:H st=some (.dK kvs)):Stay st H (upd H st (.dK ks)):=⟨⟨kvs,h⟩,⟨ks,upd_same⟩,fun b o n e=>by rw [qk n];exact e⟩
theorem Stay.trans (a:Stay st H H') (b:Stay st H' H2):Stay st H H2:=⟨a.at0,b.at1,fun c o n e=>b.rest c o n (a.rest c o n e)⟩
theorem Stay.then (a:Stay st H H') (g:qv H' H2):Stay st H H2:=⟨a.at0,let ⟨k,e⟩:=a.at1;⟨k,g _ _ e⟩,fun c o n e=>g c o (a.rest c o n e)⟩
theorem Stay.ne (a:Stay st H H') {b:Addr} {o:HO} (e:H b=some o) (hd:∀ kvs,o≠ .dK kvs):b≠st:=fun z=>by
 obtain ⟨k,q⟩:=a.at0;rw [z,q] at e;exact hd k (Bg e).symm
theorem Stay.rd (a:Stay st H H') {b:Addr} {o:HO} (hd:∀ kvs,o≠ .dK kvs) (h:Rd H b o):Rd H' b o:=by
 rcases h with h | ⟨ob,h⟩
 ·exact .inl (a.rest _ _ (a.ne h hd) h)
 ·exact .inr ⟨ob,a.rest _ _ (a.ne h (fun kvs z=>by cases z)) h⟩
theorem Stay.sqL (a:Stay st H H') {b:Addr} {xs:List V} (h:SqL K H b xs):SqL K H' b xs:=by
 rcases h with h | h
 ·exact .inl (a.rd (fun kvs z=>by cases z) h)
 ·exact .inr h
theorem Stay.sqT (a:Stay st H H') {b:Addr} {xs:List V} (h:SqT K H b xs):SqT K H' b xs:=by
 rcases h with h | h
 ·exact .inl (a.rd (fun kvs z=>by cases z) h)
 ·exact .inr h
theorem Rep.stay (a:Stay st H H') {x:V} {d:PyData} (h:Rep K H x d):Rep K H' x d:=h.mono a.sqL a.sqT
theorem Reps.stay (a:Stay st H H') {xs:List V} {ds:List PyData} (h:Reps K H xs ds):Reps K H' xs ds:=h.mono a.sqL a.sqT
end
structure FnOkG (P:Program) (w:World) (K:Frag) (mg:Str→Option Value) (base:Heap) (CX:CXT) (k:Nat) (f:Addr) (fd:FuncData) (ps:List Str) (sp:Sp):Prop where
 len:∀ vs H Q E,sp vs H Q E→vs.length=ps.length
 run:∀ (A:Around) (outer:List Env) (s:Shared) (H:Hp) (args:Args) (us:List Value) (vs:List V) (Q:VK) (E:XK),Room k A→A.guards=some []→Env0 P w K mg base A outer s H→BindsTo s fd args (ps.zip us)→qM vs us→sp vs H Q E→
  codeAny (model P w) A (.call (.ref f) args) (CR CX outer P w H s Q E) s
theorem qlh {CX:CXT} {P:Program} {w:World} {K:Frag} {mg:Str→Option Value} {base:Heap} {k:Nat} {f:Addr} {name qual:Str} {params:Arguments} {body:List Stmt} {scope:Scope} {dV kV doc pm cdv ct oc:Value} {an od:Option Addr}
  {osl:Array (Option Value)} {N ps:List Str} {sp:Sp} (lk:K.lookup f=some ⟨oc,od,.func (PySem.W.fnOf name qual params body scope dV kV doc pm an cdv ct),osl⟩) (hcd:PySem.W.codeIn K cdv qual=true) (S:FnScope N ps scope)
  (len:∀ vs H Q E,sp vs H Q E→vs.length=ps.length)
  (hbody:∀ (A:Around) (outer:List Env) (s:Shared) (H:Hp) (vs:List V) (Q:VK) (E:XK),A.guards=some []→Room k (A.deeper (envOfC qual scope s.heap.objs.size f cdv))→sp vs H Q E→
   ∃ t,PSs (Y5 CX P w K mg base N qual scope f cdv A outer s H E) body t∧t {nx:=fun _ H'=>Q .non H',rt:=Q} (JR N vs) H):
  FnOkG P w K mg base CX (k+1) f (PySem.W.fnOf name qual params body scope dV kV doc pm an cdv ct) ps sp:=by
 refine ⟨len,fun A outer s H args us vs Q E hr hgd e0 hb r hsp=>?_⟩;have hl:=len _ _ _ _ hsp;have KX:K.In s.heap:=e0.mod.kin.keeps fun b o e=>(e0.bs b o e).1;have lim:s.heap.NoLimit:=e0.mod.nolimit.keeps fun b o e=>(e0.bs b o e).1;have hkind:∀ y∈ps.zip us,scope.names.lookup y.1=some .local∨(scope.names.lookup y.1=some .cell∧((cellsFrom (s.heap.objs.size+1) scope.names []).lookup y.1).isSome=true):=fun ⟨n,v⟩ hy=>by
  rcases S.par n (Dg hy).1 with q | q
  ·exact .inl q
  ·exact .inr ⟨q,PySem.W.cellsFrom_some _ _ _ (.inl q)⟩
 refine codeAny_call_function hr.depth (KX _ _ lk) rfl S.co S.gen rfl (PySem.W.codeRec_of KX hcd) (hb _ _ _ _ ?_);refine wpAny_newFunctionEnv_cells S.kind hkind fun env he s1 x=>?_;subst he;refine ⟨lim.keeps x.toInCall.keep,codeAny_func ?_⟩;obtain ⟨t,ht,hq⟩:=hbody A outer s H vs Q E hgd (hr.deeper _) hsp;have I:Inv (Y5 CX P w K mg base N qual scope f cdv A outer s H E) [] (JR N vs) H s1:=XX S hr.hd e0 hl r x;refine Ed (ht [] s1 (JR N vs) H _ I hq) (fun fl s' hs=>?_) fun e s' hs=>hs;have fin:∀ {σ':St} {H':Hp} {v:V} {u:Value},Inv (Y5 CX P w K mg base N qual scope f cdv A outer s H E) [] σ' H' s'→qN v u→Q v H'→CE outer P w H s Q u s':=
  fun {σ' H' v u} J rv q=>⟨v,H',J.os,J.bare,J.base,J.hok,rv,q⟩
 cases fl with
 | ret u=>
  obtain ⟨v,σ',H',J,rv,q⟩:=hs;exact fin J rv q
 | next=>
  obtain ⟨σ',H',J,q⟩:=hs;exact fin (v:=V.non) (u:=Value.none) J rfl q
 | brk=>
  obtain ⟨_,_,_,q⟩:=hs;exact False.elim q
 | cont=>
  obtain ⟨_,_,_,q⟩:=hs;exact False.elim q
theorem qeg {P:Program} {w:World} {K:Frag} {mg mb:Str→Option Value} {CX:CXT} {k:Nat} {fa a:Addr} {fd:FuncData} {x:Str} {sp:Sp} {s₁:Shared} {vs:List Value} {ns:List Int}
  (KX:K.In s₁.heap) (hns:s₁.heap.Ns mainGlobals mg) (hb:s₁.heap.Ns builtinsNs mb) (hbb:∀ x:Str,x≠"__name__"→mb x=bootBuiltins x) (hlim:s₁.heap.NoLimit) (hg:s₁.gens= #[])
  (ha:s₁.heap.get? a=some {cls:= .type "list",data:= .seq vs.toArray}) (hi:IntsAre vs ns) (hl:ns.length≤sizeLine) (hr:Room k callerA)
  (F:∀ base:Heap,K.In base→base.Ns mainGlobals mg→FnOkG P w K mg base CX k fa fd [x] sp) (hbind:∀ (s:Shared) (u:Value),BindsTo s fd ⟨[u],[]⟩ [(x,u)])
  (hsp:∀ H:Hp,qlw H→SqL K H a (ns.map V.int)→sp [.ref a] H (fun v _=>v= .bl true) fun _ _ _=>False)
  (hCX:∀ H e s',CX [] H s₁ (fun _ _ _=>False) e s'→False):
  codeAny (model P w) callerA (.call (.ref fa) ⟨[.ref a],[]⟩) (fun r s'=>r= .ok (.ret (.bool true))∧OldK s₁.heap s'.heap∧s'.os=s₁.os∧AllBare s'.gens) s₁:=by
 have rv:=wC hi;have lenV:=hi.length;have core:∀ H:Hp,qlw H→SqL K H a (ns.map V.int)→HOk P w H s₁.heap→(∀ b,H b≠none→b=a)→(H a≠none→K.lookup a=none)→
   codeAny (model P w) callerA (.call (.ref fa) ⟨[.ref a],[]⟩) (fun r s'=>r= .ok (.ret (.bool true))∧OldK s₁.heap s'.heap∧s'.os=s₁.os∧AllBare s'.gens) s₁:=by
  intro H hO hS hok hA hK;have base_of:∀ {b:Addr} {o:Obj},s₁.heap.get? b=some o→H b=none→(ZJ s₁.heap H).get? b=some o:=fun e n=>qg3 e n;have noA:∀ {b:Addr} {o:Obj} {es:Array DictEntry} {ep:Nat},s₁.heap.get? b=some o→o.data= .dict es ep→H b=none:=fun {b o es ep} e d=>by
   cases q:H b with
   | none=>rfl
   | some u=>
    have e':b=a:=hA b (by rw [q];simp)
    subst e';rw [ha] at e;cases e;have d':Data.seq vs.toArray _=Data.dict es ep:=d;cases d'
  have nsK:∀ {b:Addr} {m:Str→Option Value},s₁.heap.Ns b m→(ZJ s₁.heap H).Ns b m:=fun {b m} ⟨o,es,ep,e,d,r⟩=>⟨o,es,ep,base_of e (noA e d),d,r⟩;have hKb:K.In (ZJ s₁.heap H):=fun b o e=>base_of (KX b o e) (by
   cases q:H b with
   | none=>rfl
   | some u=>
    have e':b=a:=hA b (by rw [q];simp)
    subst e';rw [hK (by rw [q];simp)] at e;cases e)
  have hM:Mod K mg (ZJ s₁.heap H):=⟨hKb,nsK hns,⟨mb,nsK hb,hbb⟩,let ⟨mc,h1,h2⟩:=hlim;⟨mc,nsK h1,h2⟩⟩;have e0:Env0 P w K mg (ZJ s₁.heap H) callerA [] s₁ H:=⟨rfl,hM,fun b o e=>qim e,Nat.le_of_eq (qem _ _),trivial,fun b hb=>absurd (show b∈([]:List Addr) from hb) (by simp),hok,.of_eq hg⟩
  refine Er ((F _ hKb (nsK hns)).run callerA [] s₁ H ⟨[.ref a],[]⟩ [.ref a] [.ref a] _ _ hr rfl e0 (hbind s₁ (.ref a)) (.cons rfl .nil) (hsp H hO hS)) fun r s' h=>?_;cases r with
  | error e=>exact (hCX H e s' h).elim
  | ok fl=>
   cases fl with
   | next=>exact False.elim h
   | brk=>exact False.elim h
   | cont=>exact False.elim h
   | ret u=>
    obtain ⟨v,H',os,bare,un,hok',r',q⟩:=h;have q':v= .bl true:=q;subst q';obtain rfl:u=Value.bool true:=r';refine ⟨rfl,OldK.of_keep fun b o e=>?_,os,bare⟩;cases q:H b with
    | none=>exact un.keep b o e q (by intro z;exact absurd (show b∈([]:List Addr) from z) (by simp)) (by simp)
    | some u=>
     rcases hO b with z | ⟨ob,xs,z⟩
     ·rw [q] at z;cases z
     ·have z2:=un.frzs b ob _ z;obtain ⟨e1,_⟩:=hok b _ z;obtain ⟨e2,_⟩:=hok' b _ z2;rw [e] at e1;cases e1;exact e2
 cases hk:K.lookup a with
 | some o=>
  have e:=KX a o hk;rw [ha] at e;cases e;refine core (fun _=>none) (fun _=> .inl rfl) (.inr ⟨_,vs.toArray,_,hk,rfl,rfl,rfl,by rw [Aw,lenV];exact hl,by simpa using rv⟩) (fun b u z=>by have z':(none:Option HO)=some u:=z;cases z') (fun b z=>absurd rfl z) fun z=>absurd rfl z
 | none=>
  refine core (fun b=>if b=a then some (.frz {cls:= .type "list",data:= .seq vs.toArray} (.lst (ns.map V.int))) else none) (fun b=>?_) (.inl (.inr ⟨{cls:= .type "list",data:= .seq vs.toArray},if_pos rfl⟩)) (fun b u z=>?_) (fun b z=>?_) fun _=>hk
  ·by_cases hb:b=a
   ·exact .inr ⟨_,_,if_pos hb⟩
   ·exact .inl (if_neg hb)
  ·by_cases hb:b=a
   ·have z':=(if_pos hb).symm.trans z;cases z';subst hb;exact ⟨ha,by rw [Ab];exact hl,vs,_,rv,ha⟩
   ·have z':=(if_neg hb).symm.trans z;cases z'
  ·by_cases hb:b=a
   ·exact hb
   ·exact absurd (if_neg hb) z
theorem qe9 {l:PySem.W.OpenLaw} {n k:Nat} {q:Program} {loose:List Str} {XP:(Str→Option Value)→Heap→Prop} {YP:World→Heap→Prop} {d:DefRec} {K:Params→Frag} {CX:World→CXT} {sp:World→Sp} {x:Str}
  (hn:l.most=some n) (hn2:n≤sizeLine) (hdf:d.params.defaults=[]) (hr:Room k callerA)
  (hY:∀ (w:World) (h:Heap),YP w h→(K w.params).In h)
  (F:∀ (w:World) (mg:Str→Option Value) (fa:Addr) (h:Heap),(K w.params).In h→h.Ns mainGlobals mg→mg d.name=some (.ref fa)→
   ∃ fd:FuncData,(∀ (s:Shared) (u:Value),BindsTo s fd ⟨[u],[]⟩ [(x,u)])∧
    ∀ base:Heap,(K w.params).In base→base.Ns mainGlobals mg→FnOkG l.prog w (K w.params) mg base (CX w) k fa fd [x] (sp w))
  (hsp:∀ (w:World) (H:Hp) (a:Addr) (ns:List Int),ns.length≤n→qlw H→SqL (K w.params) H a (ns.map V.int)→sp w [.ref a] H (fun v _=>v= .bl true) fun _ _ _=>False)
  (hCX:∀ (w:World) (H:Hp) (s:Shared) (e:Value) (s':Shared),CX w [] H s (fun _ _ _=>False) e s'→False):
  PySem.W.WalkO q loose XP YP l.row.toRowW d [] (fun f vs=>PySem.call f vs):=by
 refine Att.attach_call hn hdf fun w s₀ s₁ mg mb fa o pm cd doc a vs ns G Y ho hd hcd hmg hobj hints hlen hg=>?_;have KX:=hY w _ Y;obtain ⟨fd,hb,hF⟩:=F w mg fa _ KX G.T.g hmg;exact qeg KX G.T.g G.T.b G.T.builtins G.T.nolimit hg hobj hints (A0 hlen hn2) hr hF hb (fun H hO hS=>hsp w H a ns hlen hO hS) fun H e s'=>hCX w H s₁ e s'
section
variable {P:Program} {w:World} {K:Frag} {mg:Str→Option Value} {base:Heap}
theorem Fun.okG {x qual:Str} {st:Stmt} {f:Addr} {fd:FuncData} {N ps:List Str} {k:Nat} {sp:Sp} (F:Fun K x qual st f fd) (S:FnScope N ps (ql st)) (len:∀ vs H Q E,sp vs H Q E→vs.length=ps.length)
  (hbody:∀ (cdv:Value) (A:Around) (outer:List Env) (s:Shared) (H:Hp) (vs:List V) (Q:VK) (E:XK),(A.deeper (envOfC qual (ql st) s.heap.objs.size f cdv)).guards=some []→Room k (A.deeper (envOfC qual (ql st) s.heap.objs.size f cdv))→sp vs H Q E→
   ∃ t,PSs (Y5 CX0 P w K mg base N qual (ql st) f cdv A outer s H E).nox (J3 st) t∧t {nx:=fun _ H'=>Q .non H',rt:=Q} (JR N vs) H):FnOkG P w K mg base CX0 (k+1) f fd ps sp:=by
 obtain ⟨oc,od,kV,doc,pm,an,cdv,ct,osl,rfl,lk,hcd⟩:=F.ex;refine qlh lk hcd S len fun A outer s H vs Q E hg hr hsp=>?_;obtain ⟨t,h,q⟩:=hbody cdv A outer s H vs Q E hg hr hsp;exact ⟨t,h.nox,q⟩
end
section
variable {X:Cx} {sc scope:Scope} {NX N:List Str} {js:List (Option Nat)} {tg iter elt:Expr} {ifs:List Expr} {wi:TI} {g:TG} {tt:TT} {te:TE} {pos:Pos}
theorem yB {i:Nat} {y:Str} {py spos:Pos} (hN:X.N.Nodup) (hy:X.N[i]?=some y) (hL:Loc X.env.scope y) (hi:PI X tg iter wi) (hg:∀ cl C fp s H,PG (cxC X scope cl C N fp s H) tg g) (ht:∀ cl C fp s H,PF (cxC X scope cl C N fp s H) ifs tt)
  (he:∀ cl C fp s H,PE (cxC X scope cl C N fp s H) elt te) (own:qhk js g) (ok:CompScope sc scope NX N js) (hsc:X.env.scope=sc:=by rfl) (hNX:X.N=NX:=by rfl) (hc:X.calm=true:=by rfl) (hs:∀ x,foldedSetIterable iter X.env x=pure x:=by intro _;rfl)
  (hsw:swapsWith (.ListComp elt [⟨tg,iter,ifs,0⟩] scope pos) (some (.Name y py)) spos.line X.env=pure true:=by rfl) (hf:X.fn y=true∨X.env.scope.names.lookup y=some .local:=by first | exact .inl rfl | exact .inr rfl | assumption):
  PS X (.Assign [.Name y py] (.ListComp elt [⟨tg,iter,ifs,0⟩] scope pos) spos) (qP (jM wi js g tt te) (qm i)):=by
 intro pins s σ H D I h;rw [exec_Assign_Name_used _ _ _ _ hsw];refine Aa (wpAny_standAt (Aa ?_));show wpAny _ X.A (do let _ ← comprehension (.ListComp elt [⟨tg,iter,ifs,0⟩] scope pos) scope X.env _ (newList []) false (eval iter X.env) (some (assign (.Name y py) X.env))) _ _ s
 obtain ⟨cl,hclos,cl1,cl2⟩:=Yt (scope:=scope) (env:=X.env) fun z hz hf=>I.ok.has z.1 (by
  have q:=ok.free z hz hf;rw [← hsc] at q;exact q)
 refine Aa (Ed (wpAny_comprehension_free (use:=some (assign (.Name y py) X.env)) (Q:=fun _ s'=>SP X pins D .next s') rfl hs hclos ok.kind ok.names
  (thn (hi pins s σ H _ I h) fun xv s1 h1=>thn h1 fun itv s2 h2=>?_)) (fun _ s' hq=>Aq (Aq hq)) fun _ _ e=>e)
 obtain ⟨it,fp,tn,J,H2,rfl,I2,T,st2,f2,W,⟨m0,w0⟩,turn⟩:=h2;refine X2 (Q:=fun x H1=>qm i x σ H1 D.nx) (RR:=fun acc C=>compPost (model X.prog X.w) X.A X.xe (some (assign (.Name y py) X.env)) (fun _ s'=>SP X pins D .next s') acc C) hsc hNX ok hc I2 cl1 cl2 T st2 f2 (fun C=>hg cl C fp s2 H2) (fun C=>ht cl C fp s2 H2) (fun C=>he cl C fp s2 H2) own w0 turn fun L C m s' Hf I' hn f q=>?_
 obtain ⟨g0,g1,g2,g3,g4,g5⟩:=f;show wpAny _ X.A (assign (.Name y py) X.env (.ref L)) _ _ _;refine wpAny_assign_Name (XF I' hN hy hL (show qN (.ref L) (.ref L) from rfl) (fun s3 I3 hb=>?_) hf);obtain ⟨a,sb,ha⟩:=hb;have hCa:C≠a:=by
  rcases ha with rfl | ha
  ·exact g1
  ·exact fun z=>g4 _ _ ha z.symm
 exact ⟨m,hn.sameBut sb hCa,fun h' hs'=>⟨_,Hf,I3.turned (t':=s3.toks) (fun b o hb e=>(hs'.2 b hb).trans e) g0 g1 g3 g4 g5,q⟩⟩
end
def Itv (K:Frag) (a:Addr) (n:Nat):It:=
 ⟨fun i H=>i<n∧∃ xs,SqL K H a xs∧xs.length=n,fun i H x H'=>H'=H∧∀ xs,SqL K H a xs→xs[n - 1 - i]?=some x,fun i _=>n≤i⟩
theorem qfg {P:Program} {w:World} {K:Frag} {tg:Expr} (a it:Addr) (n:Nat):Turn P w K tg (Itv K a n) [it] it (fun i h=>i≤n∧h.IsRevIter it a ((n:Int) - 1 - (i:Int))) where
 mem:=by simp
 obj:=fun i h st b hb=>by
  cases Am.mp hb;obtain ⟨_,o,e,c,d⟩:=st;exact ⟨o,e,fun v z=>by rw [d] at z;cases z⟩
 keep:=fun i h h' st k=>⟨st.1,st.2.at fun o e=>k it (by simp) o e⟩
 item:=by
  intro X hP hw hK hc i pins s σ H E I hf st hg;subst hP hw hK;obtain ⟨hi,xs,hq,hl⟩:=hg;obtain ⟨its,rv,p,hz⟩:=I.list hq;have hx:xs[n - 1 - i]?=some (xs[n - 1 - i]'⋯):=Af ⋯;obtain ⟨u,hu,ru⟩:=rv.get hx;obtain ⟨k0,k1,k2,k3,k4,k5⟩:=hf it (by simp)
  have e:(n:Int) - 1 - (i:Int)=((n - 1 - i:Nat):Int):=⋯;have hit:=st.2;rw [e] at hit;refine wpAny_pyNext_rev_item hit p.isList (x:=u) (by simpa using hu) fun h' st' sb=>?_
  have e2:((n - 1 - i:Nat):Int) - 1=(n:Int) - 1 - ((i+1:Nat):Int):=⋯;rw [e2] at st';have I1:Inv X pins σ H {s with heap:=h'}:=I.turned (t':=s.toks) (fun b o hb e=>(sb.2 b hb).trans e) k0 k1 k3 k4 k5
  obtain ⟨o,eo,oc,od⟩:=id st';exact ⟨u,rfl,Q0 (s:={s with heap:=h'}) eo oc od O0 ⟨_,H,I1,ru,⟨rfl,fun ys hy=>by rw [I.list_inj hy hq];exact hx⟩,⟨⋯,st'⟩,fun b hb=>(hf b hb).1⟩⟩
 done:=by
  intro X hP hw hK hc i pins s σ H E I hf st hg;subst hP hw hK;obtain ⟨k0,k1,k2,k3,k4,k5⟩:=hf it (by simp)
  have hi:i=n:=Nat.le_antisymm st.1 hg;have hit:=st.2;have e:(n:Int) - 1 - (i:Int)= -1:=⋯;rw [e] at hit;exact wpAny_pyNext_rev_end (I.ok.hd hc) hit fun h' eb=>⟨rfl,I.turned (t':=s.toks) (fun b o hb e=>eb b o hb e) k0 k1 k3 k4 k5⟩
 self:=fun _ _ _ _ _ st h=>wpAny_pyIter_revIter st.2 h
theorem WV:bootBuiltins "reversed"=some (.type "reversed"):=∅
def qld (K:Frag) (ta:TA):TI:=fun σ H R=>ta σ H fun vs H1=>∃ (a:Addr) (xs:List V),vs=[.ref a]∧SqL K H1 a xs∧R (Itv K a xs.length) H1
theorem qki {X:Cx} {K:Frag} {tg a:Expr} {ta:TA} {p pos:Pos} (hK:X.K=K) (hm:X.mg "reversed"=none) (ha:PA X [a] ta) (hg:Gl X "reversed":=by rfl) (hs:starEach [a] X.env=[(false,eval a X.env)]:=by rfl):PI X tg (.Call (.Name "reversed" p) [a] [] pos) (qld K ta):=by
 intro pins s σ H R I h;subst hK;refine Call_ (J9 I hg hm WV (Cc (thn (ha pos pins s σ H _ I h) fun us s1 ⟨vs,H1,I1,r1,q1⟩=>?_) hs rfl));obtain ⟨l,xs,e,hx,q⟩:=q1;subst e;cases r1 with
 | cons r rr=>
  cases rr;cases r;obtain ⟨its,rv,pl,hz⟩:=I1.list hx;have hl:=rv.length;refine call_reversed_list pl.isList ?_;have hit:(s1.heap.push (revObj l ((its.toArray.size:Int) - 1))).IsRevIter s1.heap.objs.size l ((xs.length:Int) - 1 - ((0:Nat):Int)):=⟨_,A6 _ rfl,rfl,by
   show Data.fields _=_;rw [Aw,← hl];simp⟩
  refine wpAny_pyIter_revIter hit ⟨_,[s1.heap.objs.size],_,_,H1,rfl,I1.kept (t':=s1.toks) fun b o e=>Aj _ e,qfg l _ _,⟨Bw _,hit⟩,fun b hb=>?_,q⟩;cases Am.mp hb;exact I1.fpOk (Ag _) (I1.hok.fresh (Ag _))
section
variable {X:Cx} {K:Frag}
theorem Vz:bootBuiltins "sorted"=some (.builtin "sorted"):=∅
theorem qhn {xs:List V} {us:List Value} (hl:xs.length=us.length) (h:∀ (i:Nat) (x:V) (u:Value),xs[i]?=some x→us[i]?=some u→qN x u):qM xs us:=by
 induction xs generalizing us with
 | nil=>
  cases us with
  | nil=>exact .nil
  | cons a b=>simp at hl
 | cons x xs ih=>
  cases us with
  | nil=>simp at hl
  | cons u us=>
   refine .cons (h 0 x u rfl rfl) (ih (by simpa using hl) fun i y v h1 h2=>h (i+1) y v (by simpa using h1) (by simpa using h2))
theorem qit {us:List Value} {ks:List Int} (hl:us.length=ks.length) (h:∀ (i:Nat) (u:Value) (k:Int),us[i]?=some u→ks[i]?=some k→∃ t,u=Value.int k t):IntsAre us ks:=by
 induction us generalizing ks with
 | nil=>
  cases ks with
  | nil=>exact .nil
  | cons a b=>simp at hl
 | cons u us ih=>
  cases ks with
  | nil=>simp at hl
  | cons k ks=>
   obtain ⟨t,rfl⟩:=h 0 u k rfl rfl;exact .cons k t (ih (by simpa using hl) fun i y v h1 h2=>h (i+1) y v (by simpa using h1) (by simpa using h2))
theorem wx (hc:X.calm=true):Jt X (.builtin "sorted") (fun xs H Q=>∃ (d:Addr) (kvs:List (Key×V)) (ks:List Int),xs=[.ref d]∧H d=some (.dK kvs)∧kvs.map (·.1)=ks.map Sum.inl∧ks.length<64∧
  ∀ ns:List Int,ns.Perm ks→ns.Pairwise (· ≤ ·)→∀ l,H l=none→Q (.ref l) (upd H l (.lst (ns.map V.int)))):=by
 intro pins s σ H xs us Q I r h;obtain ⟨d,kvs,ks,rfl,hd,hk,h64,q⟩:=h;obtain ⟨u,rfl,rx⟩:=vb r;cases rx;obtain ⟨hz,lo,vs,rel,dd⟩:=(show zL X.prog X.w H s.heap d (.dK kvs) from I.hok d _ hd);obtain ⟨ep,hat⟩:=dd.dictAt;have hkeys:vs.map (·.1)=ks.map Sum.inl:=by rw [← rel.keys];exact hk
 have hlen:vs.length=ks.length:=by have:=congrArg List.length hkeys;simpa using this
 have big:(64:Nat)≤sizeLine:=O0;refine Calls.call_function_entry kind_sorted plain_sorted entry_sorted (args_sorted1 _) ?_;unfold Builtin.«sorted»;refine Aa (m:=checkCount "sorted" 1 1 _) (Aq ?_);refine Aa (PySem.W.kdu_collect (A:=X.A.in1) (PySem.W.kdl_dict (knd:=zo X.prog X.w) (kvs:=vs) (ep:=ep) lo) (I.ok.hd hc) hat ⋯ fun h' tk acc hkp hacc=>?_);have hl:acc.toList.length=vs.length:=by rw [Dm];exact hacc.1
 have hI:IntsAre acc.toList ks:=qit ⋯ fun i u k h1 h2=>by
  obtain ⟨k',x,e1,e2⟩:=hacc.2 i u (by simpa using h1)
  have e3:(vs.map (·.1))[i]?=some k':=by rw [Ar,e1];rfl
  rw [hkeys,Ar,h2] at e3;cases e3;rcases zB (show WT (Sum.inl k) u=true from e2) with ⟨j,t,e,rfl⟩ | ⟨y,t,e,_⟩
  ·cases e;exact ⟨t,rfl⟩
  ·cases e
 refine Aa (wpAny_newList ?_ ⋯);have hoL:(h'.push (seqObj "list" acc.toList.toArray 0)).get? h'.objs.size=some (seqObj "list" acc.toList.toArray 0):=A6 _ rfl;show wpAny _ _ _ _ _ {s with heap:=h'.push (seqObj "list" acc.toList.toArray 0),toks:=tk}
 refine Aa (Dl (Co slot_list_sort ⟨_,hoL,rfl⟩ entry_list_sort (list_sort_tree hoL hI ⋯ fun out ns a1 a2 a3=>⟨_,rfl,?_⟩) (args_list_sort _)));refine Aq ⟨_,rfl,?_⟩;obtain ⟨m,em⟩:=sortedHeap_at (out:=out) hoL;have hnl:ns.length=ks.length:=a2.length_eq;have I1:Inv X pins σ H {s with heap:=h',toks:=tk}:=I.kept (t':=tk) hkp
 refine ⟨.ref h'.objs.size,_,I1.laid (t':=tk) (o:= .lst (ns.map V.int)) (fun b ob e=>(sortedHeap_old (Bn (Au e)) (Br (Au e) (by rw [size_push'];exact Ef _))).trans (Aj _ e)) (Ag _) ?_,rfl,q ns a2 a3 _ (I1.hok.fresh (Ag _))⟩
 exact ⟨by rw [Ab];omega,out.toList,m,wC a1,by simpa using em⟩
end
structure MethN (P:Program) (w:World) (K:Frag) (mg:Str→Option Value) (base:Heap) (C:Addr) (k:Nat) (m:Str) (ps:List Str) (sp:Sp):Prop where
 ex:∃ (f:Addr) (fd:FuncData),FnOk P w K mg base CX0 k f fd ps sp∧vO K fd ps []∧Meth K C m f
 cl:Cls K C
section
variable {X:Cx} {C:Addr} {k:Nat} {m x:Str} {ps:List Str} {sp:Sp} {E:XK} {o e:Expr} {es:List Expr} {ta:TE} {t:TA} {p pos apos:Pos} {pl:Sem Bool}
theorem qko (he:PE X o ta) (D:MethN X.prog X.w X.K X.mg X.base C k m ps sp) (hr:Room k X.A)
  (ht:eval (.Call (.Attribute o m apos) [] [] pos) X.env=(do let ov ← eval o X.env;standAt apos.atName;let (f,first) ← holding [ov] (getMethod ov m pl);callWith pos f first (backTo pos (starEach [] X.env)) (backToKw pos (keywordEach [] X.env))):=by rfl):
  PE X (.Call (.Attribute o m apos) [] [] pos) (qfh C m sp [] E0 ta qp):=by
 obtain ⟨f,fd,F,B,M⟩:=D.ex;exact qgg he D.cl M F hr B .nil qgj ht
end
section
variable {P:Program} {w:World} {K:Frag} {mg:Str→Option Value} {base:Heap}
end
end L2
namespace L2
open PySem
section
variable {M:Model} {A:Around} {E:Value→Shared→Prop} {s:Shared} {e:Addr} {d:Option Addr}
end
section
variable {prog:Program} {w:World} {A:Around} {E:Value→Shared→Prop} {h:Heap} {g:Array GenState} {d:Drawn} {t:Nat} {os:OsState}
variable {nm q:Str} {C N:Addr} {bs bm bmB:List Value} {hdct:Bool} {sn:List Str} {sub:List Value} {ab:Bool} {col:Option Bool} {dd:Option Addr} {k0 k1 k2 k3 k5:Option Value} {B newId initId:String}
end
section
variable {prog:Program} {w:World} {A:Around} {E:Value→Shared→Prop} {s:Shared} {env:Env}
variable {nm q:Str} {C N:Addr} {bs bm bmB:List Value} {hdct:Bool} {sn:List Str} {sub:List Value} {ab:Bool} {col:Option Bool} {dd:Option Addr} {k0 k1 k2 k3 k5:Option Value} {B newId initId:String}
end
end L2
namespace L2
open PySem PySem.Spec PyProof.Rows
section
variable {P:Program} {w:World} {K:Frag} {mg:Str→Option Value} {base:Heap} {N:List Str} {qual:Str} {scope:Scope} {f:Addr} {cd:Value} {A:Around} {outer:List Env} {s₀:Shared} {H₀:Hp} {E:XK}
end
section
variable {X:Cx} {pins:List (Addr×Obj)}
end
section
variable {prog:Program} {w:World} {A:Around} {E:Value→Shared→Prop} {h:Heap} {g:Array GenState} {d:Drawn} {t:Nat} {os:OsState}
variable {nm q:Str} {C N:Addr} {bs bm bmB:List Value} {hdct:Bool} {sn:List Str} {sub:List Value} {ab:Bool} {col:Option Bool} {dd:Option Addr} {k0 k1 k2 k3 k5:Option Value} {B newId initId:String}
end
section
variable {prog:Program} {w:World} {A:Around} {E:Value→Shared→Prop} {s:Shared} {K:Frag} {C L x:Addr} {name:Str}
end
section
variable {prog:Program} {w:World} {A:Around} {E:Value→Shared→Prop} {s:Shared} {K:Frag} {C x dx:Addr} {name:Str} {mA:Str→Option Value}
end
section
variable {X:Cx} {CL C fI:Addr} {o e value:Expr} {es:List Expr} {f:Str} {t:TA} {ta tv te:TE} {apos pos pos' p1 p2 p3:Pos} {pl:Sem Bool}
end
section
variable {P:Program} {w:World} {K:Frag} {mg:Str→Option Value} {base:Heap} {N:List Str} {qual:Str} {scope:Scope} {f:Addr} {cd:Value} {A:Around} {outer:List Env} {s₀:Shared} {H₀:Hp} {E:XK}
end
theorem VT:Slot "reversed" "__init__" "object.__init__":=
 .of (owner:="object") (n:="__init__") (by rw [Dh,Cq];kernel_rfl) ∅ ∅ ∅
  (by first | exact .inl ∅ | exact .inr ∅) (by rw [D5];kernel_rfl)
theorem W8:TypeCalled "reversed" "reversed.__new__" "object.__init__":=
 ⟨∅,∅,⟨_,_,F.mro_reversed⟩,F.made_reversed,∅,F.sub_reversed_self,VT⟩
theorem wD:typeLookup (.type "tuple") "__reversed__"=pure none:=by rw [Dh,Cq];kernel_rfl
theorem ju:Slot "reversed" "__next__" "reversed.__next__":=
 .of (owner:="reversed") (n:="__next__") (by rw [Dh,Cq];kernel_rfl) ∅ ∅ ∅
  (by first | exact .inl ∅ | exact .inr ∅) (by rw [D5];kernel_rfl)
theorem Vj:entryFor table "reversed.__next__"=some Builtin.«reversed.__next__» :=entryFor_of_tree (by kernel_rfl)
theorem VP (a:Value):argsOk "reversed.__next__" ⟨[a],[]⟩:=by unfold argsOk;kernel_rfl
theorem VE:Slot "reversed" "__iter__" "reversed.__iter__":=
 .of (owner:="reversed") (n:="__iter__") (by rw [Dh,Cq];kernel_rfl) ∅ ∅ ∅
  (by first | exact .inl ∅ | exact .inr ∅) (by rw [D5];kernel_rfl)
theorem Y7 (a:Value):argsOk "reversed.__iter__" ⟨[a],[]⟩:=by unfold argsOk;kernel_rfl
theorem Yp:entryFor table "reversed.__iter__"=some Builtin.«dict_keyiterator.__iter__» :=
 entryFor_alias (id':="dict_keyiterator.__iter__") (by kernel_rfl) (by first | rfl | decide+kernel | (unfold String.splitOn;simp+decide [String.splitOnAux])) ∅ (by kernel_rfl)
theorem qd0:typeLookup (.type "reversed") "__len__"=pure none:=by rw [Dh,Cq];kernel_rfl
theorem J4:Slot "reversed" "__length_hint__" "reversed.__length_hint__":=
 .of (owner:="reversed") (n:="__length_hint__") (by rw [Dh,Cq];kernel_rfl) ∅ ∅ ∅
  (by first | exact .inl ∅ | exact .inr ∅) (by rw [D5];kernel_rfl)
theorem Yq:entryFor table "reversed.__length_hint__"=some Builtin.«reversed.__length_hint__» :=entryFor_of_tree (by kernel_rfl)
theorem Y8 (a:Value):argsOk "reversed.__length_hint__" ⟨[a],[]⟩:=by unfold argsOk;kernel_rfl
theorem qeb:typeLookup (.type "list_reverseiterator") "__len__"=pure none:=by rw [Dh,Cq];kernel_rfl
theorem qgr:typeLookup (.type "list_reverseiterator") "__length_hint__"=pure (some (.builtin "list_reverseiterator.__length_hint__")):=by rw [Dh,Cq];kernel_rfl
def qd1 (l:Addr) (i:Int):Obj:={cls:= .type "reversed",data:= .fields #[.ref l,rawInt i]}
def Ja (h:Heap) (a l:Addr) (i:Int):Prop:=∃ o,h.get? a=some o∧o.cls= .type "reversed"∧o.data= .fields #[.ref l,rawInt i]
theorem Ja.typeIs {s:Shared} {a l:Addr} {i:Int} (x:Ja s.heap a l i):s.TypeIs (.ref a) "reversed":=let ⟨o,ho,hc,_⟩:=x;⟨o,ho,hc⟩
theorem Ja.at {h h':Heap} {a l:Addr} {i:Int} (x:Ja h a l i) (e:∀ o,h.get? a=some o→h'.get? a=some o):Ja h' a l i:=let ⟨o,ho,r⟩:=x;⟨o,e _ ho,r⟩
section
variable {prog:Program} {w:World} {A:Around} {E:Value→Shared→Prop} {s:Shared}
theorem qh2 (l:Addr) (qu:Array Value):MeetsIn prog w (Builtin.«reversed.__new__» ⟨[.type "reversed",.ref l],[]⟩) (fun _ R s=>IsTup s.heap l qu∧((qu.size:Nat):Int)<2 ^ 63∧∀ tk,R (.ok (.ret (.ref s.heap.objs.size))) {s with heap:=s.heap.push (qd1 l ((qu.size:Int) - 1)),toks:=tk}):=
 .of_wp fun A R s ⟨ht,hz,h⟩=>by
  unfold Builtin.«reversed.__new__»;refine Aa (C5 (newClass_reversed _) ?_)
  try dsimp only
  refine Aa (C5 (a:=()) (by first | rfl | kernel_rfl) ?_)
  refine Aa (C5 (a:=()) (by first | rfl | kernel_rfl) ?_)
  try dsimp only
  refine Aa (Di ht.typeIs wD ?_);dsimp only;refine Aa ?_;show wpAny _ _ (isInstance (.ref l) (.type "dict")>>=_) _ _ _;refine Aa (El (T:="tuple") (b:=false) ht.typeIs (by rw [D5];kernel_rfl) ?_)
  show wpAny _ _ (specialOf (.ref l) "__getitem__">>=_) _ _ _;refine Aa (Di ht.typeIs slot_tuple_getitem.lookup ?_);refine C5 (a:=true) (by kernel_rfl) ?_
  rw [if_neg O0];refine Aa (len_tuple ht hz ?_);refine Aa (C5 (a:=some ((qu.size:Nat):Int)) rfl ?_);dsimp only;refine Aa ?_;unfold Builtin.SmallTypes.newRecord;exact Cp (Aq ⟨_,rfl,h _⟩)
theorem Yv {l:Addr} {qu:Array Value} {Q:Value→Shared→Prop} (ht:IsTup s.heap l qu) (hz:((qu.size:Nat):Int)<2 ^ 63) (h:∀ tk,Q (.ref s.heap.objs.size) {s with heap:=s.heap.push (qd1 l ((qu.size:Int) - 1)),toks:=tk}):
  wpAny (model prog w) A (call (.type "reversed") [.ref l]) Q E s:=
 callType_newIn W8 O0 (F.typeCall_reversed_1 _) (F.newCall_reversed_1 _) (fun obj=>F.args_object_init_2 obj _) F.entry_reversed_new (qh2 l qu) ⟨ht,hz,fun tk=>⟨⟨_,A6 _ rfl,rfl⟩,h tk⟩⟩
theorem Y4 {it l:Addr} {i:Nat} {qu:Array Value} {x:Value} {Q:Option Value→Shared→Prop} (hit:Ja s.heap it l (i:Int)) (hl:IsTup s.heap l qu) (hx:qu[i]?=some x) (hz:((qu.size:Nat):Int)<2 ^ 63)
  (hQ:∀ h' tk,Ja h' it l ((i:Int) - 1)→Heap.SameBut it s.heap h'→Q (some x) {s with heap:=h',toks:=tk}):wpAny (model prog w) A (pyNext (.ref it)) Q E s:=by
 obtain ⟨o,ho,hc,hd⟩:=id hit;have hi:i<qu.size:=(Array.getElem?_eq_some_iff.mp hx).1;unfold pyNext;refine Aa (En (Cr (name:=Str.ofString "__next__") hit.typeIs ju (Co ju hit.typeIs Vj ?_ (VP _))));unfold Builtin.«reversed.__next__»;refine Aa (C5 (a:=(Value.ref it,[])) rfl ?_)
 try dsimp only
 refine Aa (B5 ho hd (x:= .ref l) rfl ?_);refine Aa (B5 ho hd (x:=rawInt (i:Int)) rfl ?_);show wpAny _ _ (if (i:Int)<0 then _ else _) _ _ s
 rw [if_neg ⋯];refine Aa (Di hl.typeIs slot_tuple_getitem.lookup ?_);rw [if_neg O0];refine Aa (wpAny_mkInt (Aa (En (getItem_tuple (s:={s with toks:=s.toks+1}) hl ⋯ ⋯ (j:=i) ?_ hx ?_))))
 ·unfold seqIndex?;split
  ·omega
  ·dsimp only;rw [if_pos (by rw [Ae];exact ⟨Al ⋯,Al ⋯⟩)]
   simp
 ·dsimp only;refine Aa (B5 (s:={s with toks:=s.toks+1}) ho hd (x:=rawInt (i:Int)) rfl ?_)
  show wpAny _ _ (setField (.ref it) 1 (rawInt ((i:Int) - 1))>>=_) _ _ _;refine Aa (Et (s:={s with toks:=s.toks+1}) ho hd (by simp) ?_)
  refine Aq ⟨x,rfl,Aq (hQ _ _ ?_ (Heap.SameBut.update ..))⟩;exact ⟨_,C3 _ ho (Obj.isFreed_of_fields (Ds hd _)),(Obj.cls_mapFields ..).trans hc,by rw [Ds hd];simp⟩
theorem ZC {it l:Addr} {Q:Option Value→Shared→Prop} (hh:A.handled=none) (hit:Ja s.heap it l (-1)) (hQ:∀ h',Heap.ExtBut it s.heap h'→Q none {s with heap:=h'}):wpAny (model prog w) A (pyNext (.ref it)) Q E s:=by
 obtain ⟨o,ho,hc,hd⟩:=id hit;unfold pyNext;refine Aa (En (Cr (name:=Str.ofString "__next__") hit.typeIs ju (Co ju hit.typeIs Vj ?_ (VP _))));unfold Builtin.«reversed.__next__»;refine Aa (C5 (a:=(Value.ref it,[])) rfl ?_)
 try dsimp only
 refine Aa (B5 ho hd (x:= .ref l) rfl ?_);refine Aa (B5 ho hd (x:=rawInt (-1)) rfl ?_);show wpAny _ _ (if (-1:Int)<0 then _ else _) _ _ s
 rw [if_pos O0];refine Aa (Ez ?_);refine Aa ?_;show wpAny _ _ (setField (.ref it) 1 (rawInt (-1))>>=_) _ _ _;refine Aa (Et ho hd (by simp) ?_)
 have ho2:=C3 (Obj.mapFields (·.setIfInBounds 1 (rawInt (-1)))) ho (Obj.isFreed_of_fields (Ds hd _));refine Et ho2 (Ds hd _) (by simp) ?_
 have ho3:∀ b o,b≠it→s.heap.get? b=some o→((s.heap.update it (Obj.mapFields (·.setIfInBounds 1 (rawInt (-1))))).update it (Obj.mapFields (·.setIfInBounds 0 Value.none))).get? b=some o:=fun b o hb z=>
  (Ce _ _ (Ne.symm hb)).trans ((Ce _ _ (Ne.symm hb)).trans z)
 generalize (s.heap.update it (Obj.mapFields (·.setIfInBounds 1 (rawInt (-1))))).update it (Obj.mapFields (·.setIfInBounds 0 Value.none))=h3 at ho3;refine Aa ?_;unfold Builtin.SmallTypes.stopIteration
 first
 | show wpAny _ _ (newExc (.type "StopIteration") []>>=_) _ _ _
 | (refine Aa ?_;show wpAny _ _ (newExc (.type "StopIteration") []>>=_) _ _ _)
 refine Aa ?_;simp only [newExc,newTuple];refine Aa (Cp ?_ (by size_fits))
 refine Aa (m:=firstArgMember _ _) (C5 (a:=Value.none) (by first | rfl | (simp only [firstArgMember];rfl)) ?_)
 refine Cp ?_ (by size_fits)
 simp only [raiseNew];refine Aa (wpAny_handled ?_);rw [show A.in1.handled=none from hh];refine Aa (Aq (wpAny_throw ?_));refine Aa (El (T:="StopIteration") (b:=true) ⟨_,A6 _ rfl,rfl⟩ isSubtype_stop ?_);exact Aq (hQ _ fun b o hb z=>Aj _ (Aj _ (ho3 b o hb z)))
theorem QP {it l:Addr} {i:Int} {Q:Value→Shared→Prop} (hit:Ja s.heap it l i) (h:Q (.ref it) s):wpAny (model prog w) A (pyIter (.ref it)) Q E s:=by
 refine wpAny_pyIter_slot hit.typeIs VE (Co VE hit.typeIs Yp ?_ (Y7 _));show wpAny _ _ (ret (.ref it)) _ _ s;exact Aq ⟨_,rfl,"reversed",_,hit.typeIs,ju.lookup,h⟩
theorem qg2 {r l:Addr} {i:Int} {Q:Bool→Shared→Prop} (hit:s.heap.IsRevIter r l i) (h:Q false s):wpAny (model prog w) A (Builtin.List.listLengthHint (.ref r)) Q E s:=by
 unfold Builtin.List.listLengthHint;refine Aa (Di hit.typeIs qeb ?_);show wpAny _ _ (specialOf (.ref r) "__length_hint__">>=_) _ _ _;refine Aa (Di hit.typeIs qgr ?_);generalize hid:("list_reverseiterator.__length_hint__":String)=id0
 wp_delta
 rw [show splitId id0=some ("list_reverseiterator","__length_hint__") from by subst hid;decide+kernel]
 subst hid;refine Aa (El (T:="list_reverseiterator") (b:=true) hit.typeIs (by rw [D5];kernel_rfl) ?_)
 refine Eb (fun hab=>absurd hab O0) (fun _=>?_);refine Eb (fun _=>?_) (fun hab=>absurd ∅ hab);refine Eb (fun hab=>absurd hab ∅) (fun _=>?_);exact Aq h
theorem qg1 {r l:Addr} {n:Nat} {qu:Array Value} {Q:Bool→Shared→Prop} (hit:Ja s.heap r l ((n:Int) - 1)) (hl:IsTup s.heap l qu) (hn:qu.size=n) (hz:n≤2 ^ 20) (h:∀ b tk,Q b {s with toks:=tk}):wpAny (model prog w) A (Builtin.List.listLengthHint (.ref r)) Q E s:=by
 obtain ⟨o,ho,hc,hd⟩:=id hit;unfold Builtin.List.listLengthHint;refine Aa (Di hit.typeIs qd0 ?_);show wpAny _ _ (specialOf (.ref r) "__length_hint__">>=_) _ _ _;refine Aa (Di hit.typeIs J4.lookup ?_);generalize hid:("reversed.__length_hint__":String)=id0
 wp_delta
 rw [show splitId id0=some ("reversed","__length_hint__") from by subst hid;decide+kernel]
 subst hid;refine Aa (El (T:="reversed") (b:=true) hit.typeIs (by rw [D5];kernel_rfl) ?_)
 refine Eb (fun hab=>absurd hab O0) (fun _=>?_);refine Eb (fun hab=>absurd hab ∅) (fun _=>?_);refine Aa (Ez (Aa (C5 (J4.bind _) ?_)));dsimp only;refine Aa (En (Co J4 hit.typeIs Yq ?_ (Y8 _)));unfold Builtin.«reversed.__length_hint__»;refine Aa (C5 (a:=Value.ref r) rfl ?_);refine Aa (B5 ho hd (x:= .ref l) rfl ?_);rw [if_neg (show ¬ ((Value.ref l==Value.none)=true) by simp)]
 refine Aa (len_tuple hl ⋯ ?_);refine Aa (C5 (a:=some ((qu.size:Nat):Int)) rfl ?_);dsimp only;refine Aa (B5 (s:={s with toks:=s.toks+1+1}) ho hd (x:=rawInt ((n:Int) - 1)) rfl ?_)
 show wpAny _ _ (if ((qu.size:Nat):Int)<(n:Int) - 1+1 then _ else _) _ _ _
 rw [if_neg ⋯];refine Aa (wpAny_mkInt (Aq ⟨_,rfl,?_⟩));dsimp only;refine Aa (C5 (a:=some ((n:Int) - 1+1)) rfl ?_);dsimp only;have e1:Builtin.List.listFitsIndex ((n:Int) - 1+1)=true:=by unfold Builtin.List.listFitsIndex;simp;omega
 have e2:Builtin.List.listTooLong ((n:Int) - 1+1).toNat=false:=by simp [Builtin.List.listTooLong,sizeLine];omega
 rw [e1,e2,if_neg O0,if_neg ⋯,if_neg O0];exact Aq (h _ _)
structure OwnSrc (prog:Program) (w:World) (T:String) (r d:Addr) (n:Nat) (P:Nat→Value→Prop) (St:Nat→Heap→Prop):Prop where
 type:∀ s:Shared,St 0 s.heap→s.TypeIs (.ref r) T
 there:∀ h:Heap,St 0 h→r<h.objs.size∧d<h.objs.size
 notList:(Value.type T==Value.type "list")=false
 notTuple:(Value.type T==Value.type "tuple")=false
 hint:∀ (A:Around) (E:Value→Shared→Prop) (s:Shared) (Q:Bool→Shared→Prop),St 0 s.heap→(∀ b tk,Q b {s with toks:=tk})→wpAny (model prog w) A (Builtin.List.listLengthHint (.ref r)) Q E s
 iter:∀ (A:Around) (s:Shared) (E:Value→Shared→Prop) (Q:Value→Shared→Prop),St 0 s.heap→Q (.ref r) s→wpAny (model prog w) A (pyIter (.ref r)) Q E s
 walks:∀ A:Around,A.handled=none→Walks prog w A r [r,d] [r] n P St
variable {T:String} {r d:Addr} {n:Nat} {P:Nat→Value→Prop} {St:Nat→Heap→Prop}
theorem qbi {R:Result→Shared→Prop} (K:OwnSrc prog w T r d n P St) (hh:A.handled=none) (hok:St 0 s.heap) (S:Addr) (hSr:S≠r) (hSd:S≠d) (res:Value) (c₀:Nat) (hS:s.heap.get? S=some {cls:= .type "list",data:= .seq #[] c₀})
  (hR:∀ h' tk acc' c',(∀ b o,b≠S→b≠r→s.heap.get? b=some o→h'.get? b=some o)→h'.get? S=some {cls:= .type "list",dict:=none,data:= .seq acc' c',slots:= #[]}→ItemsOf P acc' n→R (.ok (.ret res)) {s with heap:=h',toks:=tk}) (hn:n≤sizeLine):
  wpAny (model prog w) A.in1 (Builtin.List.listExtendWith (.ref S) (.ref r) res)
   (fun fin s'=>match fin with | .done f=>R (.ok f) s' | .again c'=>c'.quiet=true∧codeAny (model prog w) A c' R s') (fun e s'=>R (.error e) s') s:=by
 have W:=K.walks A.in1 hh;have hSf:S∉[r,d]:=by simp only [Ao,Bm,or_false,not_or];exact ⟨hSr,hSd⟩
 have key:∀ (h:Heap) (c₁ tk:Nat),St 0 h→(∀ b o,b≠S→s.heap.get? b=some o→h.get? b=some o)→h.get? S=some {cls:= .type "list",data:= .seq #[] c₁}→
   codeAny (model prog w) A (.builtin "list.extend.loop" ⟨[.ref S,.ref r,res],[]⟩) R {s with heap:=h,toks:=tk}:=by
  intro h c₁ tk hst hk hS₁;refine codeAny_extend_loopS W.toS hn S hSf res n 0 _ #[] c₁ rfl (Bw _) hst hS₁ (ItemsOf.nil _) fun s' acc' c' hm hS' hacc=>?_;rw [Moved.eq_with hm];refine hR s'.heap s'.toks acc' c' (fun b o hb hr e=>hm.heap b o (fun z=>?_) (hk b o hb e)) hS' hacc;rcases Ao.mp z with z | z
  ·exact hb z
  ·exact hr (Am.mp z)
 unfold Builtin.List.listExtendWith;refine Aa (wpAny_typeOf (T:=T) (K.type s hok) ?_);have h1:Builtin.List.listSameRef (.ref S) (.ref r)=false:=by simp [Builtin.List.listSameRef,hSr]
 simp only [h1,K.notList,K.notTuple,Ea,Bool.false_eq_true,if_false];refine Aa (K.iter _ _ _ _ hok ?_);refine Aa (Dl (K.hint _ _ _ _ hok fun b tk=>?_));refine Eb (fun _=>?_) (fun _=>Aq ⟨plainId_quiet PySem.F.plain_extend_loop _,key _ c₀ _ hok (fun _ _ _ e=>e) hS⟩);refine Aa (Ez (Aa ?_));show wpAny _ _ (updateSeq S (·.push .none)>>=fun _=>updateSeq S (·.pop)) _ _ _;refine Aa (wpAny_updateSeq (s:={s with toks:=tk}) hS rfl ?_)
 have hS₂:=C3 (Obj.mapSeq (·.push Value.none)) hS rfl;refine wpAny_updateSeq (hz:=by seq_fits) hS₂ rfl ?_
 have hS₃:=C3 (Obj.mapSeq (·.pop)) hS₂ rfl;refine Aq ⟨plainId_quiet PySem.F.plain_extend_loop _,key _ _ _ (W.frame 0 _ _ hok fun b hb o e=>?_) (fun b o hb e=>?_) hS₃⟩
 ·have hbS:b≠S:=fun z=>hSf (z▸hb);exact (Ce _ _ (Ne.symm hbS)).trans ((Ce _ _ (Ne.symm hbS)).trans e)
 ·exact (Ce _ _ (Ne.symm hb)).trans ((Ce _ _ (Ne.symm hb)).trans e)
theorem Qy {Q:Value→Shared→Prop} (K:OwnSrc prog w T r d n P St) (hh:A.handled=none) (hok:St 0 s.heap) (hn:n≤sizeLine)
  (hQ:∀ h' tk acc' c',(∀ b o,b≠r→s.heap.get? b=some o→h'.get? b=some o)→h'.get? s.heap.objs.size=some {cls:= .type "list",dict:=none,data:= .seq acc' c',slots:= #[]}→ItemsOf P acc' n→Q (.ref s.heap.objs.size) {s with heap:=h',toks:=tk}):
  wpAny (model prog w) A (call (.type "list") [.ref r]) Q E s:=by
 refine callType_codes (Q₁:=fun obj s₁=>obj= .ref s.heap.objs.size∧s₁={s with heap:=s.heap.push {cls:= .type "list",data:= .seq #[]}}) PySem.F.called_list (PySem.F.typeCall_list_1 _) PySem.F.entry_list_init (code_list_new _ ⟨rfl,rfl⟩) fun obj s₁ h₁=>?_
 obtain ⟨rfl,rfl⟩:=h₁;have hS:(s.heap.push {cls:= .type "list",data:= .seq #[]}).get? s.heap.objs.size=some {cls:= .type "list",data:= .seq #[]}:=A6 _ rfl;have hlt:=K.there _ hok;have nr:s.heap.objs.size≠r:=C8 hlt.1;have nd:s.heap.objs.size≠d:=C8 hlt.2;have W:=K.walks A.in1 hh;refine ⟨⟨_,hS,rfl⟩,PySem.F.args_list_init_2 _ _,?_⟩;show wpAny _ _ (do let old ← Builtin.List.listItems (.ref s.heap.objs.size);Builtin.List.listUpdate (.ref s.heap.objs.size) (fun _=> #[]);letGo old.toList.reverse;Builtin.List.listExtendWith (.ref s.heap.objs.size) (.ref r) .none) _ _ _
 refine Aa ?_;unfold Builtin.List.listItems;refine Aa (De hS rfl (Aq ?_));show wpAny _ _ (updateSeq s.heap.objs.size (fun _=> #[])>>=fun _=>letGo (#[]:Array Value).toList.reverse>>=fun _=>Builtin.List.listExtendWith (.ref s.heap.objs.size) (.ref r) .none) _ _ _;refine Aa (wpAny_updateSeq (s:={s with heap:=s.heap.push {cls:= .type "list",data:= .seq #[]}}) hS rfl ?_)
 have hS₂:=C3 (Obj.mapSeq (fun _=>(#[]:Array Value))) hS rfl;have oth:∀ b o,b≠s.heap.objs.size→s.heap.get? b=some o→((s.heap.push {cls:= .type "list",data:= .seq #[]}).update s.heap.objs.size (Obj.mapSeq (fun _=>(#[]:Array Value)))).get? b=some o:=fun b o hb e=>(Ce _ _ (Ne.symm hb)).trans (Aj _ e);refine Aa (wpAny_letGo ?_);refine qbi (A:=A.in1) K hh (W.frame 0 _ _ hok fun b hb o e=>oth b o (fun z=>?_) e) _ nr nd .none _ hS₂ (fun h' tk acc' c' hk hS' hacc=>?_) hn
 ·rcases Ao.mp hb with y | y
  ·exact nr (z▸y)
  ·exact nd (z▸Am.mp y)
 ·exact ⟨rfl,hQ h' tk acc' c' (fun b o hb e=>hk b o (Bn (Au e)) hb (oth b o (Bn (Au e)) e)) hS' hacc⟩
end
theorem qdr {prog:Program} {w:World} {A:Around} (hh:A.handled=none) (I l:Addr) (hne:l≠I) (qu:Array Value) (hz:((qu.size:Nat):Int)<2 ^ 63):
  Walks prog w A I [I,l] [I] qu.size (fun i v=>qu[qu.size - 1 - i]?=some v) (fun i h=>i≤qu.size∧Ja h I l ((qu.size:Int) - 1 - (i:Int))∧IsTup h l qu) where
 sub:=fun b hb=>by simp at hb;simp [hb]
 frame:=fun _ _ _ x hk=>⟨x.1,x.2.1.at fun o e=>hk I (by simp) o e,let ⟨o,ho,r⟩:=x.2.2;⟨o,hk l (by simp) o ho,r⟩⟩
 item:=fun i s Q E hi x hQ=>by
  have e:(qu.size:Int) - 1 - (i:Int)=((qu.size - 1 - i:Nat):Int):=⋯;have hit:=x.2.1;rw [e] at hit;have hx:qu[qu.size - 1 - i]?=some (qu[qu.size - 1 - i]'⋯):=Array.getElem?_eq_getElem ⋯;refine Y4 hit x.2.2 hx hz fun h' tk hit' hs'=>?_;have e2:((qu.size - 1 - i:Nat):Int) - 1=(qu.size:Int) - 1 - ((i+1:Nat):Int):=⋯;rw [e2] at hit';exact hQ _ h' tk hx ⟨hi,hit',let ⟨o,ho,r⟩:=x.2.2;⟨o,(hs'.2 l hne).trans ho,r⟩⟩ fun b o hb eo=>hs'.extBut b o (fun h=>hb (by simp [h])) eo
 done:=fun s Q E x hQ=>by
  have e:(qu.size:Int) - 1 - (qu.size:Int)= -1:=⋯;have hit:=x.2.1;rw [e] at hit;exact ZC hh hit fun h' he'=>hQ h' s.toks fun b o hb eo=>he' b o (fun h=>hb (by simp [h])) eo
 self:=fun _ _ _ _ x hQ=>QP x.2.1 hQ
theorem qhp {prog:Program} {w:World} {I l:Addr} (hne:l≠I) (qu:Array Value) (hz:qu.size≤2 ^ 20):OwnSrc prog w "reversed" I l qu.size (fun i v=>qu[qu.size - 1 - i]?=some v) (fun i h=>i≤qu.size∧Ja h I l ((qu.size:Int) - 1 - (i:Int))∧IsTup h l qu) where
 type:=fun _ x=>x.2.1.typeIs
 there:=fun _ x=>⟨let ⟨_,ho,_⟩:=x.2.1;Au ho,let ⟨_,ho,_⟩:=x.2.2;Au ho⟩
 notList:=O0
 notTuple:=O0
 hint:=fun _ _ _ _ x h=>qg1 (by simpa using x.2.1) x.2.2 rfl hz h
 iter:=fun _ _ _ _ x h=>QP x.2.1 h
 walks:=fun A hh=>qdr hh I l hne qu ⋯
theorem qhq {prog:Program} {w:World} {I l:Addr} (hne:l≠I) (qu:Array Value):OwnSrc prog w "list_reverseiterator" I l qu.size (fun i v=>qu[qu.size - 1 - i]?=some v) (fun i h=>i≤qu.size∧h.IsRevIter I l ((qu.size:Int) - 1 - (i:Int))∧h.IsList l qu) where
 type:=fun _ x=>x.2.1.typeIs
 there:=fun _ x=>⟨let ⟨_,ho,_⟩:=x.2.1;Au ho,let ⟨_,ho,_⟩:=x.2.2;Au ho⟩
 notList:=O0
 notTuple:=O0
 hint:=fun _ _ s _ x h=>qg2 x.2.1 (h _ s.toks)
 iter:=fun _ _ _ _ x h=>wpAny_pyIter_revIter x.2.1 h
 walks:=fun A hh=>Walks.listRev hh I l hne qu
def qcf (K:Frag) (ta:TA):TE:=fun σ H Q=>ta σ H fun vs H1=>∃ (l:Addr) (ys:List V),vs=[.ref l]∧ys.length≤1000∧(SqL K H1 l ys∨SqT K H1 l ys)∧∀ L,H1 L=none→Q (.ref L) (upd H1 L (.lst ys.reverse))
section
variable {X:Cx} {K:Frag} {a:Expr} {ta:TA} {p1 p2 pos1 pos2:Pos}
theorem qcl {pins:List (Addr×Obj)} {σ:St} {H:Hp} {s:Shared} {Q:VK} {ys:List V} {its:List Value} {ob:Obj} {h':Heap} {tk:Nat} {acc:Array Value} {c':Nat} (I:Inv X pins σ H s) (hz:ys.length≤1000) (rv:qM ys its)
  (k:∀ b o,b≠s.heap.objs.size→(s.heap.push ob).get? b=some o→h'.get? b=some o) (hS:h'.get? (s.heap.objs.size+1)=some {cls:= .type "list",dict:=none,data:= .seq acc c',slots:= #[]})
  (hacc:ItemsOf (fun i v=>its.toArray[its.toArray.size - 1 - i]?=some v) acc its.toArray.size) (q:∀ L,H L=none→Q (.ref L) (upd H L (.lst ys.reverse))):EP X pins σ Q (.ref (s.heap.objs.size+1)) {s with heap:=h',toks:=tk}:=by
 have big:(1000:Nat)≤sizeLine:=O0;have hl:=rv.length;have accl:acc.toList.length=its.length:=by rw [Dm,hacc.1,Aw]
 have rva:qM ys.reverse acc.toList:=qhn (by rw [Bf,accl];exact hl) fun j x u h1 h2=>by
  have hj:j<ys.length:=by
   have:=(Be.mp h1).1
   rwa [Bf] at this
  have e1:=hacc.2 j u (by simpa using h2)
  dsimp only at e1;rw [List.getElem?_toArray,Aw] at e1;rw [List.getElem?_reverse hj] at h1;obtain ⟨u',hu',ru⟩:=rv.get h1;rw [hl] at hu';rw [hu'] at e1;cases e1;exact ru
 have lt:∀ b o,s.heap.get? b=some o→b<s.heap.objs.size:=fun b o e=>Au e;have k':∀ b o,b≠s.heap.objs.size→s.heap.get? b=some o→h'.get? b=some o:=fun b o hb e=>k b o hb (Aj _ e);have I1:Inv X pins σ H {s with heap:=h',toks:=tk}:=I.turned (it:=s.heap.objs.size) (t':=tk) k' (I.hok.fresh (Ag _)) (C8 I.lt) (.inr I.sz) (fun x c e=>by
  obtain ⟨v,ob,hob,_⟩:=I.cell x c e;exact Bn (lt c ob hob)) (fun p hp=>Bn (lt p.1 p.2 (I.pin p hp).1))
 have hS0:H (s.heap.objs.size+1)=none:=I.hok.fresh (Ef _);have I2:=I1.trackN (D:=s.heap.objs.size+1) (o:= .lst ys.reverse) hS0 (C8 (Eh I.lt)) (Ek (Dk I.sz)) (fun x c e=>by
  obtain ⟨v,ob,hob,_⟩:=I.cell x c e;exact Bn (Eh (lt c ob hob))) (fun p hp=>Bn (Eh (lt p.1 p.2 (I.pin p hp).1))) ⟨by rw [Bf];omega,acc.toList,c',rva,by simpa using hS⟩
 exact ⟨.ref (s.heap.objs.size+1),_,I2,rfl,q _ hS0⟩
theorem qcm (hK:X.K=K) (hc:X.calm=true) (hm1:X.mg "list"=none) (hm2:X.mg "reversed"=none) (ha:PA X [a] ta) (hg1:Gl X "list":=by rfl) (hg2:Gl X "reversed":=by rfl) (hs:starEach [a] X.env=[(false,eval a X.env)]:=by rfl)
  (hs2:starEach [.Call (.Name "reversed" p2) [a] [] pos2] X.env=[(false,eval (.Call (.Name "reversed" p2) [a] [] pos2) X.env)]:=by rfl):PE X (.Call (.Name "list" p1) [.Call (.Name "reversed" p2) [a] [] pos2] [] pos1) (qcf K ta):=by
 subst hK;intro pins s σ H Q I h;refine Ec (J9 I hg1 hm1 vI (Cc ?_ hs2 rfl));rw [hs2];refine Calls.spliced_cons ?_;refine Call_ (J9 I hg2 hm2 WV (Cc (thn (ha pos2 pins s σ H _ I h) fun us s1 ⟨vs,H1,I1,r1,l,ys,ev,hz,hq,q⟩=>?_) hs rfl));subst ev;obtain ⟨u,rfl,rx⟩:=vb r1;cases rx;have big:(1000:Nat)≤sizeLine:=O0;rcases hq with hq | hq
 ·obtain ⟨its,rv,pl,_⟩:=I1.list hq;have hl:=rv.length;have ne:l≠s1.heap.objs.size:=Bn (let ⟨_,ho,_⟩:=pl.isList;Au ho);refine call_reversed_list pl.isList (Calls.spliced_nil ?_);have st0:(0≤its.toArray.size)∧(s1.heap.push (revObj l ((its.toArray.size:Int) - 1))).IsRevIter s1.heap.objs.size l ((its.toArray.size:Int) - 1 - ((0:Nat):Int))∧(s1.heap.push (revObj l ((its.toArray.size:Int) - 1))).IsList l its.toArray:=
   ⟨Bw _,⟨_,A6 _ rfl,rfl,by simp [revObj]⟩,pl.isList.at fun o e=>Aj _ e⟩
  refine Qy (s:={s1 with heap:=s1.heap.push (revObj l ((its.toArray.size:Int) - 1))}) (qhq ne its.toArray) (I1.ok.hd hc) st0 (by rw [Aw,← hl];omega) fun h' tk acc c' k hS hacc=>?_
  rw [Cy] at hS ⊢;exact qcl I1 hz rv k hS hacc q
 ·obtain ⟨its,rv,pt,_⟩:=I1.tuple hq;have hl:=rv.length;have ne:l≠s1.heap.objs.size:=Bn (let ⟨_,ho,_⟩:=pt;Au ho);refine Yv pt (by rw [Aw,← hl];omega) fun tk0=>Calls.spliced_nil ?_
  have st0:(0≤its.toArray.size)∧Ja (s1.heap.push (qd1 l ((its.toArray.size:Int) - 1))) s1.heap.objs.size l ((its.toArray.size:Int) - 1 - ((0:Nat):Int))∧IsTup (s1.heap.push (qd1 l ((its.toArray.size:Int) - 1))) l its.toArray:=
   ⟨Bw _,⟨_,A6 _ rfl,rfl,by simp [qd1]⟩,let ⟨o,ho,r⟩:=pt;⟨o,Aj _ ho,r⟩⟩
  refine Qy (s:={s1 with heap:=s1.heap.push (qd1 l ((its.toArray.size:Int) - 1)),toks:=tk0}) (qhp ne its.toArray (by rw [Aw,← hl];omega)) (I1.ok.hd hc) st0 (by rw [Aw,← hl];omega) fun h' tk acc c' k hS hacc=>?_
  rw [Cy] at hS ⊢;exact qcl I1 hz rv k hS hacc q
end
def Ite (K:Frag) (l:Addr):It:=
 ⟨fun i H=>∃ xs x,SqL K H l xs∧xs[i]?=some x,
  fun i H v H'=>∃ p x,H p=none∧v= .ref p∧(∀ xs,SqL K H l xs→xs[i]?=some x)∧H'=upd H p (.tup [.int (i:Nat),x]),
  fun i H=>∃ xs,SqL K H l xs∧xs.length≤i⟩
theorem qdv {P:Program} {w:World} {K:Frag} {elts:List Expr} {c:Nat} {pos:Pos} {e it l:Addr} (hei:e≠it):
  Turn P w K (.Tuple elts c pos) (Ite K l) [e,it] e (fun i h=>(∃ old,IsEnum h e it (i:Int) old)∧h.IsListIter it l i) where
 mem:=by simp
 obj:=fun i h st x hx=>by
  obtain ⟨⟨old,he⟩,⟨o1,e1,c1,d1⟩⟩:=st;simp only [Ao,Bm,or_false] at hx;rcases hx with rfl | rfl
  ·exact ⟨_,he,fun v e=>by cases e⟩
  ·exact ⟨o1,e1,fun v e=>by rw [d1] at e;cases e⟩
 keep:=fun i h h' st k=>by
  obtain ⟨⟨old,he⟩,h1⟩:=st;exact ⟨⟨old,k e (by simp) _ he⟩,h1.at fun o z=>k it (by simp) o z⟩
 item:=by
  intro X hP hw hK hc i pins s σ H E I hf st hg;subst hP hw hK;obtain ⟨xs,x,hq,hx⟩:=hg;obtain ⟨its,rv,p,hz⟩:=I.list hq;obtain ⟨u,hu,ru⟩:=rv.get hx;obtain ⟨⟨old,he⟩,hit⟩:=st;refine wpAny_pyNext_enum_item he hit p.isList (x:=u) (by simpa using hu) hei fun h1 z1 k1 pr sz kk=>?_
  refine ⟨_,rfl,wpAny_letOwnedTupleGo_enum (s:={s with heap:=h1,toks:=s.toks+1}) z1 fun h2 z2 sb=>?_⟩
  have kk2:∀ c o,c∉[e,it]→s.heap.get? c=some o→h2.get? c=some o:=fun c o hc z=>by
   simp only [Ao,Bm,or_false,not_or] at hc;exact sb.extBut _ _ hc.1 (kk c o hc.1 hc.2 z)
  have I1:Inv X pins σ H {s with heap:=h2,toks:=s.toks+1}:=I.turns (t':=s.toks+1) (ch:=[e,it]) (fun b hb=>hf b hb) kk2
  have helt:e<s.heap.objs.size:=Au he;have pr2:h2.get? s.heap.objs.size=some {cls:= .type "tuple",data:= .seq #[.int (i:Nat) s.toks,u]}:=sb.extBut _ _ (C8 helt) pr;have f:=I.fpOk (b:=s.heap.objs.size) (H':=H) (Ag _) (I.hok.fresh (Ag _));have I2:Inv X pins σ (upd H s.heap.objs.size (.tup [.int (i:Nat),x])) {s with heap:=h2,toks:=s.toks+1}:=I1.trackN f.1 f.2.1 (Ek I.sz) f.2.2.2.2.1 f.2.2.2.2.2 ⟨by simp [sizeLine],[.int (i:Nat) s.toks,u],.cons ⟨_,rfl⟩ (.cons ru .nil),⟨_,pr2,rfl,_,rfl⟩⟩
  refine ⟨.ref s.heap.objs.size,_,I2,rfl,⟨s.heap.objs.size,x,f.1,rfl,fun zs hzs=>by rw [I.list_inj hzs hq];exact hx,rfl⟩,?_,fun b hb=>?_⟩
  ·exact ⟨⟨_,z2⟩,k1.extBut sb.extBut hei.symm⟩
  ·rw [qk (fun z=>?_)]
   ·exact (hf b hb).1
   ·have lt:b<s.heap.objs.size:=by
     obtain ⟨o1,e1,c1,d1⟩:=hit;simp only [Ao,Bm,or_false] at hb;rcases hb with rfl | rfl
     ·exact helt
     ·exact Au e1
    exact Bn lt z
 done:=by
  intro X hP hw hK hc i pins s σ H E I hf st hg;subst hP hw hK;obtain ⟨xs,hq,hl⟩:=hg;obtain ⟨its,rv,p,hz⟩:=I.list hq;have l1:=rv.length;obtain ⟨⟨old,he⟩,hit⟩:=st;refine wpAny_pyNext_enum_end (I.ok.hd hc) he hit p.isList (by simp;omega) fun h1 kk=>⟨rfl,?_⟩
  exact I.turns (t':=s.toks) (ch:=[e,it]) (fun b hb=>hf b hb) fun c o hc z=>kk c o (fun y=>hc (by simp [y])) z
 self:=fun _ _ _ _ _ st h=>wpAny_pyIter_enum st.1.choose_spec h
def qjq (K:Frag) (ta:TA):TI:=fun σ H R=>ta σ H fun vs H1=>∃ a:Addr,vs=[.ref a]∧(∃ xs,SqL K H1 a xs)∧R (Ite K a) H1
theorem ZS:bootBuiltins "enumerate"=some (.type "enumerate"):=∅
theorem qie {X:Cx} {K:Frag} {elts:List Expr} {c:Nat} {tpos:Pos} {a:Expr} {ta:TA} {p pos:Pos} (hK:X.K=K) (hm:X.mg "enumerate"=none) (ha:PA X [a] ta) (hg:Gl X "enumerate":=by rfl)
  (hs:starEach [a] X.env=[(false,eval a X.env)]:=by rfl):PI X (.Tuple elts c tpos) (.Call (.Name "enumerate" p) [a] [] pos) (qjq K ta):=by
 intro pins s σ H R I h;subst hK;refine Call_ (J9 I hg hm ZS (Cc (thn (ha pos pins s σ H _ I h) fun us s1 ⟨vs,H1,I1,r1,l,e,⟨xs,hx⟩,q⟩=>?_) hs rfl));subst e;obtain ⟨u1,rfl,r⟩:=vb r1;cases r;obtain ⟨its,rv,pl,hz⟩:=I1.list hx;refine call_enumerate_list pl.isList fun h' Z1 Z2 _ k=>?_;refine wpAny_pyIter_enum Z1 ⟨_,[s1.heap.objs.size+1,s1.heap.objs.size],_,_,H1,rfl,I1.kept (t':=s1.toks) k,qdv (C8 (Dn _)),⟨⟨_,Z1⟩,Z2⟩,fun b hb=>?_,q⟩;have hb':s1.heap.objs.size≤b:=by
  simp only [Ao,Bm,or_false] at hb;rcases hb with e | e <;> rw [e] <;> first | exact Ef _ | exact Ag _
 exact I1.fpOk hb' (I1.hok.fresh hb')
structure MakeA (P:Program) (w:World) (K:Frag) (mg:Str→Option Value) (base:Heap) (x:Str) (C:Addr) (k:Nat) (ps:List Str) (sp:Sp):Prop where
 ex:∃ (f:Addr) (fd:FuncData),FnOk P w K mg base CX0 k f fd ps sp∧vO K fd ps []∧Mk K C f
 mC:mg x=some (.ref C)
theorem qkn {X:Cx} {x:Str} {C:Addr} {k:Nat} {ps:List Str} {sp:Sp} {e:Expr} {es:List Expr} {t:TA} {p pos:Pos} (D:MakeA X.prog X.w X.K X.mg X.base x C k ps sp) (hr:Room (k+1) X.A) (ha:PA X (e::es) t) (hg:Gl X x:=by rfl) (hdb:(x==("__debug__":Str))=false:=by decide)
  (he:starEach (e::es) X.env=(false,eval e X.env)::starEach es X.env:=by rfl) (hpl:(backTo pos (starEach es X.env)).any (·.1)=false:=by rfl):PE X (.Call (.Name x p) (e::es) [] pos) (qfi C sp [] E0 t):=by
 obtain ⟨f,fd,F,B,M⟩:=D.ex;exact qig M F hr hg D.mC B .nil qgj ha hdb he hpl
theorem qcp:∀ {us:List Value} {ss:List Str},StrsAre us ss→qM (ss.map V.str) us
 | _,_,.nil=> .nil
 | _,_,.cons x k t=> .cons ⟨k,rfl⟩ (qcp t)
theorem Qn:∀ {us:List Value} {ss:List Str},StrsAre us ss→us.length=ss.length
 | _,_,.nil=>rfl
 | _,_,.cons x k t=>by rw [Ak,Ak,Qn t]
theorem qho {us:List Value} {ks:List Str} (hl:us.length=ks.length) (h:∀ (i:Nat) (u:Value) (k:Str),us[i]?=some u→ks[i]?=some k→∃ t,u=Value.str k t):StrsAre us ks:=by
 induction us generalizing ks with
 | nil=>
  cases ks with
  | nil=>exact .nil
  | cons a b=>simp at hl
 | cons u us ih=>
  cases ks with
  | nil=>simp at hl
  | cons k ks=>
   obtain ⟨t,rfl⟩:=h 0 u k rfl rfl;exact .cons k t (ih (by simpa using hl) fun i y v h1 h2=>h (i+1) y v (by simpa using h1) (by simpa using h2))
theorem Yc (k:Str):∀ {vs:List Value} {ns:List Str},StrsAre vs ns→∀ (j:Nat) (h1:j<vs.length) (h2:j<ns.length),isStrOf k vs[j]=(ns[j]==k)
 | _,_,.cons n t _,0,_,_=>rfl
 | _,_,.cons n t r,j+1,h1,h2=>Yc k r j (Nat.lt_of_succ_lt_succ h1) (Nat.lt_of_succ_lt_succ h2)
theorem XQ {k:Str}:∀ {ns:List Str} {j:Nat},j<ns.idxOf k→∀ (h2:j<ns.length),(ns[j]==k)=false
 | n::r,0,h,_=>by
  by_cases e:n=k
  ·subst e;rw [List.idxOf_cons_self] at h;omega
  ·simpa using e
 | n::r,j+1,h,h2=>by
  by_cases e:n=k
  ·subst e;rw [List.idxOf_cons_self] at h;omega
  ·rw [List.idxOf_cons,show (n==k)=false from by simpa using e] at h
   exact XQ (ns:=r) (by simpa using h) (Nat.lt_of_succ_lt_succ h2)
section
variable {X:Cx} {K:Frag}
theorem XT (hK:X.K=K):MtR X "list.index" (fun x xs H Q=>∃ (l:Addr) (ys:List Str) (k:Str),x= .ref l∧xs=[.str k]∧SqL K H l (ys.map V.str)∧k∈ys∧ys.length≤1000∧Q (.int (ys.idxOf k:Nat)) H):=by
 subst hK;intro pins s σ H x xs v us Q I rx r h;obtain ⟨l,ys,k,rfl,rfl,hq,hk,hz,q⟩:=h;cases (show v=Value.ref l from rx);obtain ⟨u,rfl,t,rfl⟩:=vb r;obtain ⟨its,rv,pl,_⟩:=I.list hq;have hS:=Zg rv;have hlen:=Qn hS;have hj:ys.idxOf k<ys.length:=List.idxOf_lt_length_iff.mpr hk;obtain ⟨⟨cls,dd,data,sl⟩,ho,hc,n,hd⟩:=id pl.isList;simp only at hc hd;subst hc hd;refine call_meets PySem.F.slot_list_index ⟨_,ho,rfl⟩ PySem.F.entry_list_index (PySem.F.args_list_index_2 _ _)
  (SeqAt.list_indexAt l its.toArray n dd sl (.str k t) (isStrOf k) (ys.idxOf k) (by simpa [hlen] using hj) ⋯ ?_ ?_) ⟨ho,fun y hy=>(eq_isStrOf k t hS y (by simpa using hy)).at _ _,⟨.int (ys.idxOf k:Nat),H,I.tok _,⟨_,rfl⟩,q⟩⟩
 ·show isStrOf k its[ys.idxOf k]=true;rw [Yc k hS _ ⋯ hj];simpa using List.getElem_idxOf hj
 ·intro j hjs hlt;show isStrOf k its[j]=false;rw [Yc k hS j (by simpa using hjs) ⋯]
  exact XQ hlt _
end
section
variable {K:Frag} {H:Hp} {a b:Addr} {xs zs:List V} {i:Int} {v:V} {Q:VK}
end
section
variable {X:Cx} {x:Str} {e a b o:Expr} {es:List Expr} {te ta tb to:TE} {t:TA} {p pos pos' apos cpos:Pos}
theorem pst (i:Nat) (hN:X.N.Nodup) (he:PE X e te) (hi:X.N[i]?=some x:=by rfl) (hx:Loc X.env.scope x:=by first | exact Or.inl rfl | exact Or.inr rfl) (hs:swapsWith e (some (.Name x pos')) pos.line X.env=pure false:=by rfl)
  (hf:X.fn x=true∨X.env.scope.names.lookup x=some .local:=by first | exact .inl rfl | exact .inr rfl | assumption):PS X (.Assign [.Name x pos'] e pos) (qP te (qm i)):=qkg hN hi hx he hs hf
theorem pgn (i:Nat) (hN:X.N.Nodup) (hi:X.N[i]?=some x:=by rfl) (hx:Loc X.env.scope x:=by first | exact Or.inl rfl | exact Or.inr rfl) (hf:X.fn x=true∨X.env.scope.names.lookup x=some .local:=by first | exact .inl rfl | exact .inr rfl | assumption):PG X (.Name x pos) (qm i):=zh hN hi hx hf
theorem pix (K:Frag) (ha:PE X a ta) (hb:PE X b tb) (hK:X.K=K:=by rfl) (hs:qdo b:=by intro _ _;rfl):PE X (.Subscript a b pos) (tOp (rIx K) ta tb):=qmh (ix_k hK) ha hb hs
theorem pdf {k:Nat} {ps:List Str} {sp:Sp} (D:Def X.prog X.w X.K X.mg X.base k x ps sp) (ha:PA X (e::es) t) (hr:Room k X.A:=by first | assumption | exact Room.mono (by assumption) (by first | decide | omega)) (hg:Gl X x:=by rfl)
  (hdb:(x==("__debug__":Str))=false:=by decide) (he:starEach (e::es) X.env=(false,eval e X.env)::starEach es X.env:=by rfl) (hpl:(backTo pos (starEach es X.env)).any (·.1)=false:=by rfl):PE X (.Call (.Name x p) (e::es) [] pos) (qG sp [] E0 t):=qkp D hr ha hg hdb he hpl
end
def FA (K:Frag) (f:Addr) (x q:Str) (st:Stmt):Prop:=∃ (od:Option Addr) (kV dc pm:Value) (an:Option Addr) (cd ct:Value) (sl:Array (Option Value)),K.lookup f=some ⟨.type "function",od,.func (PySem.W.fnOf x q (Vx st) (J3 st) (ql st) .none kV dc pm an cd ct),sl⟩∧PySem.W.codeIn K cd q=true∧PySem.W.keepIn K (.ref f)=true
theorem FA.fn {K:Frag} {f:Addr} {x q:Str} {st:Stmt} (h:FA K f x q st):∃ fd,Fun K x q st f fd∧PySem.W.keepIn K (.ref f)=true:=by
 obtain ⟨_,_,_,_,_,_,_,_,l,c,k⟩:=h;exact ⟨_,qg5 l c k,k⟩
section
variable {K:Frag} {H:Hp} {v:V} {G:Prop} {s:Str} {d d1 d2 d3 d4 d5:PyData} {ds:List PyData} {ys:List V}
theorem Rep.strI (h:Rep K H v (.str s)):v= .str s:=by
 cases h;rfl
theorem Reps.nilI (h:Reps K H ys []):ys=[]:=by
 cases h;rfl
theorem Reps.ct (h:Reps K H ys (d::ds)) (k:∀ y ys',ys=y::ys'→Rep K H y d→Reps K H ys' ds→G):G:=by
 cases h with
 | cons h t=>exact k _ _ rfl h t
theorem Rep.tpl (h:Rep K H v (.tuple ds)) (k:∀ a ys,v= .ref a→SqT K H a ys→Reps K H ys ds→G):G:=by
 cases h with
 | tup h t=>exact k _ _ rfl h t
theorem Rep.tp1 (h:Rep K H v (.tuple (.str s::ds))) (k:∀ a ys,v= .ref a→SqT K H a (.str s::ys)→Reps K H ys ds→G):G:=h.tpl fun a _ e q z=>z.ct fun _ ys e1 r0 z1=>by
 cases r0.strI;cases e1;exact k a ys e q z1
theorem Rep.tp3 (h:Rep K H v (.tuple [.str s,d1,d2])) (k:∀ a y1 y2,v= .ref a→SqT K H a [.str s,y1,y2]→Rep K H y1 d1→Rep K H y2 d2→G):G:=h.tp1 fun a _ e q z=>z.ct fun y1 _ e1 r1 z1=>z1.ct fun y2 _ e2 r2 z2=>by
 cases z2.nilI;cases e2;cases e1;exact k a y1 y2 e q r1 r2
theorem Rep.tp4 (h:Rep K H v (.tuple [.str s,d1,d2,d3])) (k:∀ a y1 y2 y3,v= .ref a→SqT K H a [.str s,y1,y2,y3]→Rep K H y1 d1→Rep K H y2 d2→Rep K H y3 d3→G):G:=h.tp1 fun a _ e q z=>z.ct fun y1 _ e1 r1 z1=>z1.ct fun y2 _ e2 r2 z2=>z2.ct fun y3 _ e3 r3 z3=>by
 cases z3.nilI;cases e3;cases e2;cases e1;exact k a y1 y2 y3 e q r1 r2 r3
theorem Rep.tp6 (h:Rep K H v (.tuple [.str s,d1,d2,d3,d4,d5])) (k:∀ a y1 y2 y3 y4 y5,v= .ref a→SqT K H a [.str s,y1,y2,y3,y4,y5]→Rep K H y1 d1→Rep K H y2 d2→Rep K H y3 d3→Rep K H y4 d4→Rep K H y5 d5→G):G:=h.tp1 fun a _ e q z=>z.ct fun y1 _ e1 r1 z1=>z1.ct fun y2 _ e2 r2 z2=>z2.ct fun y3 _ e3 r3 z3=>z3.ct fun y4 _ e4 r4 z4=>z4.ct fun y5 _ e5 r5 z5=>by
 cases z5.nilI;cases e5;cases e4;cases e3;cases e2;cases e1;exact k a y1 y2 y3 y4 y5 e q r1 r2 r3 r4 r5
theorem Rep.pair (h:Rep K H v (.tuple [d1,d2])) (k:∀ a y1 y2,v= .ref a→SqT K H a [y1,y2]→Rep K H y1 d1→Rep K H y2 d2→G):G:=h.tpl fun a _ e q z=>z.ct fun y1 _ e1 r1 z1=>z1.ct fun y2 _ e2 r2 z2=>by
 cases z2.nilI;cases e2;cases e1;exact k a y1 y2 e q r1 r2
end
theorem big:(2000:Nat)<sizeLine:=O0
theorem qU {n:Nat} (h:n≤2000):n≤sizeLine:=A0 h (Nat.le_of_lt big)
theorem jy {n:Nat} (h:n≤2000):n<sizeLine:=Cf h big
theorem XG {s r:TS} {D:Ends} {σ:St} {H:Hp} (h:∀ D':Ends,(∀ σ H,r D σ H→D'.nx σ H)→(∀ v H,D.rt v H→D'.rt v H)→s D' σ H):qB s r D σ H:=h _ (fun _ _ q=>q) fun _ _ q=>q
theorem V7 {c:TT} {t u:TS} {D:Ends} {σ:St} {H:Hp} (h:∀ B:Bool→Hp→Prop,(∀ H,t D σ H→B true H)→(∀ H,u D σ H→B false H)→c σ H B):zJ c t u D σ H:=h _ (fun _ q=>qX rfl q) fun _ q=>qO rfl q
theorem bP {B:Bool→Hp→Prop} {b:Bool} {H:Hp} (e:b=true) (h:B true H):B b H:=e▸h
theorem bN {B:Bool→Hp→Prop} {b:Bool} {H:Hp} (e:b=false) (h:B false H):B b H:=e▸h
theorem Vf {α:Type} {l:List α} {i:Nat} (h:i<l.length):∃ x,l[i]?=some x:=⟨_,Af h⟩
theorem Q5 {α:Type} {l:List α} {i:Nat} {x:α} (h:l[i]?=some x):l.drop i=x::l.drop (i+1):=by
 obtain ⟨hi,rfl⟩:=Be.mp h;exact List.drop_eq_getElem_cons hi
theorem qly {X:(St→Hp→Prop)→Prop} {Z:St→Hp→Prop} (h:∀ N:St→Hp→Prop,(∀ σ H,Z σ H→N σ H)→X N):∃ N:St→Hp→Prop,(∀ σ H,N σ H→Z σ H)∧X N:=⟨Z,fun _ _ q=>q,h Z fun _ _ q=>q⟩
theorem gD {s:TS} {D:Ends} {σ:St} {H:Hp} (h:∀ D':Ends,(∀ σ H,D.nx σ H→D'.nx σ H)→(∀ v H,D.rt v H→D'.rt v H)→s D' σ H):s D σ H:=h D (fun _ _ q=>q) fun _ _ q=>q
def tNo:TS:=fun _ _ _=>False
theorem qgb {X:Cx} {st:Stmt}:PS X st tNo:=fun _ _ _ _ _ _ h=>h.elim
theorem VZ:∀ (r:List Str) (x:Str),risingS x r=true→(∀ y∈r,¬ y.cps.toList<x.cps.toList)∧r.Pairwise fun a b=>¬ b.cps.toList<a.cps.toList
 | [],x,_=>⟨fun y h=>(by cases h),List.Pairwise.nil⟩
 | z::r,x,h=>by
  rw [risingS,Ae] at h;obtain ⟨h1,h2⟩:=h;obtain ⟨i1,i2⟩:=VZ r z h2;have h3:¬ z.cps.toList<x.cps.toList:=by
   rw [ltCps_eq] at h1;simpa using h1
  refine ⟨fun y hy=>?_,List.Pairwise.cons i1 i2⟩;rcases Ao.mp hy with rfl | hy
  ·exact h3
  ·have h4:=i1 y hy;exact List.not_lt.mpr (List.le_trans (List.not_lt.mp h3) (List.not_lt.mp h4))
theorem qba {a b:List Str} (ha:sortedS a=true) (hb:sortedS b=true) (p:a.Perm b):a=b:=by
 have pw:∀ l:List Str,sortedS l=true→l.Pairwise fun a b=>¬ b.cps.toList<a.cps.toList:=fun l h=>by
  cases l with
  | nil=>exact List.Pairwise.nil
  | cons x r=>exact List.Pairwise.cons (VZ r x h).1 (VZ r x h).2
 refine List.Perm.eq_of_pairwise (fun x y _ _ h1 h2=>?_) (pw a ha) (pw b hb) p;have e:=List.le_antisymm (List.not_lt.mp h1) (List.not_lt.mp h2);cases x;cases y;simp at e;rw [e]
theorem qgy {a b:List Int} (ha:a.Pairwise (· ≤ ·)) (hb:b.Pairwise (· ≤ ·)) (p:a.Perm b):a=b:=List.Perm.eq_of_pairwise (fun _ _ _ _ h1 h2=>Int.le_antisymm h1 h2) ha hb p
section
variable {X:Cx} {K:Frag}
theorem ww (hc:X.calm=true):Jt X (.builtin "sorted") (fun xs H Q=>∃ (d:Addr) (kvs:List (Key×V)) (ks:List Str),xs=[.ref d]∧H d=some (.dK kvs)∧kvs.map (·.1)=ks.map Sum.inr∧ks.length<64∧
  ∀ ns:List Str,ns.Perm ks→sortedS ns=true→∀ l,H l=none→Q (.ref l) (upd H l (.lst (ns.map V.str)))):=by
 intro pins s σ H xs us Q I r h;obtain ⟨d,kvs,ks,rfl,hd,hk,h64,q⟩:=h;obtain ⟨u,rfl,rx⟩:=vb r;cases rx;obtain ⟨hz,lo,vs,rel,dd⟩:=(show zL X.prog X.w H s.heap d (.dK kvs) from I.hok d _ hd);obtain ⟨ep,hat⟩:=dd.dictAt;have hkeys:vs.map (·.1)=ks.map Sum.inr:=by rw [← rel.keys];exact hk
 have hlen:vs.length=ks.length:=by have:=congrArg List.length hkeys;simpa using this
 have big:(64:Nat)≤sizeLine:=O0;refine Calls.call_function_entry kind_sorted plain_sorted entry_sorted (args_sorted1 _) ?_;unfold Builtin.«sorted»;refine Aa (m:=checkCount "sorted" 1 1 _) (Aq ?_);refine Aa (PySem.W.kdu_collect (A:=X.A.in1) (PySem.W.kdl_dict (knd:=zo X.prog X.w) (kvs:=vs) (ep:=ep) lo) (I.ok.hd hc) hat ⋯ fun h' tk acc hkp hacc=>?_);have hl:acc.toList.length=vs.length:=by rw [Dm];exact hacc.1
 have hS:StrsAre acc.toList ks:=qho ⋯ fun i u k h1 h2=>by
  obtain ⟨k',x,e1,e2⟩:=hacc.2 i u (by simpa using h1)
  have e3:(vs.map (·.1))[i]?=some k':=by rw [Ar,e1];rfl
  rw [hkeys,Ar,h2] at e3;cases e3;rcases zB (show WT (Sum.inr k) u=true from e2) with ⟨j,t,e,_⟩ | ⟨y,t,e,rfl⟩
  ·cases e
  ·cases e;exact ⟨t,rfl⟩
 refine Aa (wpAny_newList ?_ ⋯);have hoL:(h'.push (seqObj "list" acc.toList.toArray 0)).get? h'.objs.size=some (seqObj "list" acc.toList.toArray 0):=A6 _ rfl;show wpAny _ _ _ _ _ {s with heap:=h'.push (seqObj "list" acc.toList.toArray 0),toks:=tk}
 refine Aa (Dl (Co slot_list_sort ⟨_,hoL,rfl⟩ entry_list_sort (list_sort_treeK strKind_oneLt hoL hS.keysOf (fun v₁ v₂ rest e=>keyKind_strs (by rw [← e];exact hS)) ⋯ fun st' hp hs=>⟨_,rfl,?_⟩) (args_list_sort _)))
 refine Aq ⟨_,rfl,?_⟩;obtain ⟨ns,a1,a2,a3⟩:=sorted_out_str hS hp hs;obtain ⟨m,em⟩:=sortedHeap_at (out:=(arrOf st').map (·.2)) hoL;have hnl:ns.length=ks.length:=a2.length_eq;have I1:Inv X pins σ H {s with heap:=h',toks:=tk}:=I.kept (t':=tk) hkp
 refine ⟨.ref h'.objs.size,_,I1.laid (t':=tk) (o:= .lst (ns.map V.str)) (fun b ob e=>(sortedHeap_old (Bn (Au e)) (Br (Au e) (by rw [size_push'];exact Ef _))).trans (Aj _ e)) (Ag _) ?_,rfl,q ns a2 a3 _ (I1.hok.fresh (Ag _))⟩
 exact ⟨by rw [Ab];omega,((arrOf st').map (·.2)).toList,m,qcp a1,by rw [Array.toArray_toList];exact em⟩
end
end L2
namespace Bud
def PT (n:Nat) (deep k l:Int):Prop:=deep≤(n:Int)∧0≤k∧k+4*l≤1000 - 10*(n:Int)∧2000*(n:Int) - 30500≤l∧n≤10
def PB (n:Nat) (deep k l:Int):Prop:=deep≤(n:Int)∧0≤k∧k+4*l≤999 - 10*(n:Int)∧2000*(n:Int) - 29000≤l∧n≤10
def PS (n:Nat) (deep k l:Int):Prop:=deep≤(n:Int)∧0≤k∧k+4*l≤1000 - 10*(n:Int)∧2000*(n:Int) - 30000≤l∧n≤10
def BT (n:Nat) (deep k l:Int) (s t:Nat) (k' l':Int):Prop:=(s:Int)=l - l'∧t≤n+2∧k'+4*l'≤k+4*l∧k≤k'∧(l≤0→l - 1≤l')∧(0<l→ -(16*(n:Int)+1)≤l')∧(deep<1→t=1)
def BB (n:Nat) (k l:Int) (s t:Nat) (k' l':Int):Prop:=(s:Int)=l - l'∧t≤n+2∧k'+4*l'≤k+4*l+1∧k≤k'∧(l≤0→l - 6≤l')∧(0<l→ -(16*(n:Int)+5)≤l')
def BS (n:Nat) (k l:Int) (s t:Nat) (k' l':Int):Prop:=(s:Int)=l - l'∧t≤n+2∧k'+4*l'≤k+4*l∧k≤k'∧(l≤0→l - 2≤l')∧(0<l→ -(16*(n:Int)+1)≤l')
section
variable {n m i s s1 s2 s3 t t1 t2 t3:Nat} {deep k l k1 l1 k2 l2 k3 l3 k' l':Int}
theorem Qm {a b c:Int} {x y:Nat} (h:(x:Int)=a - b) (g:(y:Int)=b - c):((x+y:Nat):Int)=a - c:=⋯
theorem Ze {a c:Int} {x:Nat} (h:(x:Int)=a - 1 - c):((x+1:Nat):Int)=a - c:=⋯
theorem kl3 {a:Int} (h:a≤k+1+4*(l - 1)):a≤k+4*l - 3:=⋯
theorem ge3 {a b:Int} (h:a≤b - 3):a≤b:=⋯
theorem le1 {a b:Int} (h:a+1≤b):a≤b:=⋯
def BI (n:Nat) (k l:Int) (i:Nat) (s t:Nat) (k' l':Int):Prop:=(s:Int)=l - l'∧t≤n+2∧k'+4*l'≤k+1+4*l∧k+1≤k'∧(l≤0→l - 2*i≤l')∧(0<l→ -(16*(n:Int)+1) - 2*i≤l' - 2)
theorem BI.nil:BI n k l 0 0 0 (k+1) l:=⟨(Int.sub_self l).symm,Bw _,Int.le_refl _,Int.le_refl _,⋯,⋯⟩
theorem BI.pre (p:PB n deep k l) (h:BI n k l i s t k' l') (hi:i<3):PS n deep k' l':=by
 obtain ⟨p1,p2,p3,p4,p5⟩:=p;obtain ⟨_,_,h3,h4,h5,h6⟩:=h;exact ⟨p1,B8 p2 (le1 h4),by clear p4 h5 h6;omega,by clear p3 h3 h4;omega,p5⟩
theorem BI.snoc (h:BI n k l i s t k' l') (b:BS n k' l' s2 t2 k2 l2):BI n k l (i+1) (s+s2) (max t t2) k2 l2:=by
 obtain ⟨h1,h2,h3,h4,h5,h6⟩:=h;obtain ⟨b1,b2,b3,b4,b5,b6⟩:=b;refine ⟨Qm h1 b1,Dp.mpr ⟨h2,b2⟩,B8 b3 h3,B8 h4 b4,?_,?_⟩
 all_goals clear h2 h3 h4 b1 b2 b3 b4;omega
theorem BI.out (h:BI n k l i s t k' l') (hi:i≤3):BB n k l s t k' l':=by
 obtain ⟨h1,h2,h3,h4,h5,h6⟩:=h;refine ⟨h1,h2,by clear h5 h6;omega,le1 h4,?_,?_⟩
 all_goals clear h1 h2 h3 h4;omega
def S (n:Nat) (deep k l:Int):Prop:=deep - 1≤(n:Int)∧0≤k∧k+4*l - 3≤987 - 10*(n:Int)∧0≤l - 1∧1≤deep∧n≤9
theorem BT.one:BT n deep k l 1 1 (k+1) (l - 1):=⟨⋯,Nat.le_add_left 1 (n+1),⋯,⋯,fun _=>Int.le_refl _,⋯,fun _=>rfl⟩
def Mid (n:Nat) (k1 l1:Int):Prop:=0≤k1∧k1+4*l1≤987 - 10*(n:Int)∧ -200≤l1
theorem Mid.pb (c:Mid n k1 l1) (h1:deep - 1≤(n:Int)) (h6:n≤9):PB n (deep - 1) k1 l1:=by
 obtain ⟨c1,c2,c3⟩:=c;exact ⟨h1,c1,⋯,⋯,Dk h6⟩
theorem PB.pt (c:PB n deep k l):PT n deep k l:=by
 obtain ⟨c1,c2,c3,c4,c5⟩:=c;exact ⟨c1,c2,⋯,⋯,c5⟩
theorem S.pb (h:S n deep k l):PB n (deep - 1) (k+1) (l - 1):=by
 obtain ⟨h1,h2,h3,h4,_,h6⟩:=h;exact Mid.pb ⟨⋯,⋯,⋯⟩ h1 h6
theorem S.pt (h:S n deep k l):PT n (deep - 1) (k+1) (l - 1):=h.pb.pt
theorem low {a:Int} (h:0≤l) (b:l≤0→l - 1≤a) (c:0<l→ -(16*(n:Int)+1)≤a): -(16*(n:Int)+1)≤a:=⋯
theorem S.low (h:S n deep k l) (b:BT n (deep - 1) (k+1) (l - 1) s1 t1 k1 l1): -(16*(n:Int)+1)≤l1:=Bud.low h.2.2.2.1 b.2.2.2.2.1 b.2.2.2.2.2.1
theorem S.mid (h:S n deep k l) (b:BT n (deep - 1) (k+1) (l - 1) s1 t1 k1 l1):Mid n k1 l1:=by
 have c:=h.low b;have h6:=h.2.2.2.2.2;exact ⟨B8 h.2.1 (le1 b.2.2.2.1),B8 (kl3 b.2.2.1) h.2.2.1,⋯⟩
theorem S.pb1 (h:S n deep k l) (b:BT n (deep - 1) (k+1) (l - 1) s1 t1 k1 l1):PB n (deep - 1) k1 l1:=(h.mid b).pb h.1 h.2.2.2.2.2
theorem S.pt1 (h:S n deep k l) (b:BT n (deep - 1) (k+1) (l - 1) s1 t1 k1 l1):PT n (deep - 1) k1 l1:=(h.pb1 b).pt
theorem no0 {P:Prop} (h:0≤l - 1) (g:l≤0):P:=⋯
theorem no1 {P:Prop} (h:1≤deep) (g:deep<1):P:=absurd h (Int.not_le.mpr g)
theorem two_ (z: -(16*(n:Int)+1)≤l1) (c:l1≤0→l1 - 1≤l2) (c':0<l1→ -(16*(n:Int)+1)≤l2): -(16*((n+1:Nat):Int)+1)≤l2:=⋯
theorem S.two (h:S n deep k l) (b:BT n (deep - 1) (k+1) (l - 1) s1 t1 k1 l1) (c:BT n (deep - 1) k1 l1 s2 t2 k2 l2):BT (n+1) deep k l (s1+s2+1) (max t1 t2+1) k2 l2:=
 ⟨Ze (Qm b.1 c.1),B7 (Dp.mpr ⟨b.2.1,c.2.1⟩),ge3 (B8 c.2.2.1 (kl3 b.2.2.1)),le1 (B8 b.2.2.2.1 c.2.2.2.1),fun g=>no0 h.2.2.2.1 g,fun _=>two_ (h.low b) c.2.2.2.2.1 c.2.2.2.2.2.1,no1 h.2.2.2.2.1⟩
theorem fn_ (b:l - 1≤0→l - 1 - 6≤l1) (c:0<l - 1→ -(16*(n:Int)+5)≤l1) (h:0≤l - 1): -(16*((n+1:Nat):Int)+1)≤l1:=⋯
theorem S.fn (h:S n deep k l) (b:BB n (k+1) (l - 1) s1 t1 k1 l1):BT (n+1) deep k l (s1+1) (t1+1) k1 l1:=
 ⟨Ze b.1,B7 b.2.1,by have:=b.2.2.1;omega,le1 b.2.2.2.1,fun g=>no0 h.2.2.2.1 g,fun _=>fn_ b.2.2.2.2.1 b.2.2.2.2.2 h.2.2.2.1,no1 h.2.2.2.2.1⟩
theorem S.pbf (h:S n deep k l):PB n (deep - 1) (k+1+1) (l - 1):=by
 obtain ⟨h1,h2,h3,h4,_,h6⟩:=h;exact ⟨h1,⋯,⋯,⋯,Dk h6⟩
theorem S.fnf (h:S n deep k l) (b:BB n (k+1+1) (l - 1) s1 t1 k1 l1):BT (n+1) deep k l (s1+1) (t1+1) k1 l1:=
 ⟨Ze b.1,B7 b.2.1,by have:=b.2.2.1;omega,le1 (le1 b.2.2.2.1),fun g=>no0 h.2.2.2.1 g,fun _=>fn_ b.2.2.2.2.1 b.2.2.2.2.2 h.2.2.2.1,no1 h.2.2.2.2.1⟩
def CI (n:Nat) (k l:Int) (s1 i s t:Nat) (k' l':Int):Prop:=((s1+s:Nat):Int)=l - 1 - l'∧t≤n+2∧k'+4*l'≤k+4*l - 3∧k+1≤k'∧ -(16*(n:Int)+1) - i≤l'
theorem CI.nil (h:S n deep k l) (b:BT n (deep - 1) (k+1) (l - 1) s1 t1 k1 l1):CI n k l s1 0 0 0 k1 l1:=⟨b.1,Bw _,kl3 b.2.2.1,b.2.2.2.1,by have:=h.low b;omega⟩
theorem CI.pre (h:S n deep k l) (c:CI n k l s1 i s t k' l') (hi:i≤4):PT n (deep - 1) k' l':=by
 have h6:=h.2.2.2.2.2;have c5:=c.2.2.2.2;exact (Mid.pb (⟨B8 h.2.1 (le1 c.2.2.2.1),B8 c.2.2.1 h.2.2.1,⋯⟩:Mid n k' l') h.1 h6).pt
theorem CI.snoc (c:CI n k l s1 i s t k' l') (b:BT n (deep - 1) k' l' s2 t2 k2 l2):CI n k l s1 (i+1) (s+s2) (max t t2) k2 l2:=
 ⟨by rw [← Ey];exact Qm c.1 b.1,Dp.mpr ⟨c.2.1,b.2.1⟩,B8 b.2.2.1 c.2.2.1,B8 c.2.2.2.1 b.2.2.2.1,by
  have c5:=c.2.2.2.2;have b5:=b.2.2.2.2.1;have b6:=b.2.2.2.2.2.1;omega⟩
theorem CI.out (h:S n deep k l) (b:BT n (deep - 1) (k+1) (l - 1) s1 t1 k1 l1) (c:CI n k l s1 i s t k' l') (hi:i≤4):BT (n+1) deep k l (s1+s+1) (max t1 t+1) k' l':=
 ⟨Ze c.1,B7 (Dp.mpr ⟨b.2.1,c.2.1⟩),ge3 c.2.2.1,le1 c.2.2.2.1,fun g=>no0 h.2.2.2.1 g,fun _=>by have c5:=c.2.2.2.2;omega,no1 h.2.2.2.2.1⟩
def Near (n m:Nat):Prop:=m≤n∧(n=0∨n=m+1)
theorem PS.pt (p:PS n deep k l) (z:Near n m):PT m (deep - 1) (k+1) (l - 1):=by
 obtain ⟨p1,p2,p3,p4,p5⟩:=p;obtain ⟨z1,z2⟩:=z;exact ⟨by clear p3 p4;omega,⋯,by clear p1 p4;omega,by clear p1 p3;omega,A0 z1 p5⟩
theorem PS.one (p:PS n deep k l) (z:Near n m) (b:BT m (deep - 1) (k+1) (l - 1) s1 t1 k1 l1):BS n k l (s1+1) (t1+1) k1 l1:=by
 obtain ⟨p1,_,_,_,_⟩:=p;obtain ⟨z1,z2⟩:=z;obtain ⟨b1,b2,b3,b4,b5,b6,b7⟩:=b;exact ⟨Ze b1,by clear b1 b3 b4 b5 b6;omega,ge3 (kl3 b3),le1 b4,fun g=>by clear b1 b2 b3 b4 b6 b7;omega,fun g=>by clear b1 b2 b3 b4 b7 p1;omega⟩
theorem PS.many (p:PS (n+1) deep k l) (h:0≤l - 1) (d:1≤deep):S n deep k l:=by
 obtain ⟨p1,p2,p3,_,p5⟩:=p;exact ⟨⋯,p2,⋯,h,d,Nat.le_of_succ_le_succ p5⟩
theorem PT.many (p:PT (n+1) deep k l) (h:0≤l - 1) (d:1≤deep):S n deep k l:=by
 obtain ⟨p1,p2,p3,_,p5⟩:=p;exact ⟨⋯,p2,⋯,h,d,Nat.le_of_succ_le_succ p5⟩
theorem wh_ {a:Int} (h:a≤k1+4*l1+1) (g:k1+4*l1≤k+4*l - 3):a≤k+4*l - 2:=⋯
theorem ge2 {a b:Int} (h:a≤b - 2):a≤b:=⋯
theorem bb_ (z: -(16*(n:Int)+1)≤l1) (c:l1≤0→l1 - 6≤l2) (c':0<l1→ -(16*(n:Int)+5)≤l2): -(16*(n:Int)+7)≤l2:=⋯
theorem bb2_ (z: -(16*(n:Int)+7)≤l1) (c:l1≤0→l1 - 6≤l2) (c':0<l1→ -(16*(n:Int)+5)≤l2): -(16*((n+1:Nat):Int)+1)≤l2:=⋯
theorem wh2_ {a:Int} (h:a≤k1+4*l1+1) (g:k1+4*l1≤k+4*l - 2):a≤k+4*l:=⋯
theorem S.wh (h:S n deep k l) (b:BT n (deep - 1) (k+1) (l - 1) s1 t1 k1 l1) (c:BB n k1 l1 s2 t2 k2 l2):BS (n+1) k l (s1+s2+1) (max t1 t2+1) k2 l2:=
 ⟨Ze (Qm b.1 c.1),B7 (Dp.mpr ⟨b.2.1,c.2.1⟩),ge2 (wh_ c.2.2.1 (kl3 b.2.2.1)),le1 (B8 b.2.2.2.1 c.2.2.2.1),fun g=>no0 h.2.2.2.1 g,fun _=>by have:=bb_ (h.low b) c.2.2.2.2.1 c.2.2.2.2.2;omega⟩
theorem S.pb2 (h:S n deep k l) (b:BT n (deep - 1) (k+1) (l - 1) s1 t1 k1 l1) (c:BB n k1 l1 s2 t2 k2 l2):PB n (deep - 1) k2 l2:=by
 have z:=bb_ (h.low b) c.2.2.2.2.1 c.2.2.2.2.2;have w:=wh_ c.2.2.1 (kl3 b.2.2.1);have h3:=h.2.2.1;have h6:=h.2.2.2.2.2;exact ⟨h.1,B8 (B8 h.2.1 (le1 b.2.2.2.1)) c.2.2.2.1,by clear z;omega,by clear w h3;omega,Dk h6⟩
theorem S.if_ (h:S n deep k l) (b:BT n (deep - 1) (k+1) (l - 1) s1 t1 k1 l1) (c:BB n k1 l1 s2 t2 k2 l2) (e:BB n k2 l2 s3 t3 k3 l3):BS (n+1) k l (s1+(s2+s3)+1) (max t1 (max t2 t3)+1) k3 l3:=
 ⟨Ze (Qm b.1 (Qm c.1 e.1)),B7 (Dp.mpr ⟨b.2.1,Dp.mpr ⟨c.2.1,e.2.1⟩⟩),wh2_ e.2.2.1 (wh_ c.2.2.1 (kl3 b.2.2.1)),le1 (B8 (B8 b.2.2.2.1 c.2.2.2.1) e.2.2.2.1),fun g=>no0 h.2.2.2.1 g,
  fun _=>bb2_ (bb_ (h.low b) c.2.2.2.2.1 c.2.2.2.2.2) e.2.2.2.2.1 e.2.2.2.2.2⟩
theorem S.one (h:S n deep k l) (b:BT n (deep - 1) (k+1) (l - 1) s1 t1 k1 l1):BS (n+1) k l (s1+1) (t1+1) k1 l1:=by
 have z:=h.low b;exact ⟨Ze b.1,B7 b.2.1,ge3 (kl3 b.2.2.1),le1 b.2.2.2.1,fun g=>no0 h.2.2.2.1 g,fun _=>⋯⟩
def TI (n:Nat) (k l:Int) (i s:Nat) (k' l':Int):Prop:=(s:Int)=l - 1 - l'∧k'+4*l'≤k+4*l - 3+i∧k+1≤k'∧ -(16*(n:Int) - 1) - 6*(i:Int)≤l'
theorem TI.nil (h:S n deep k l) (hn:1≤n):TI n k l 0 0 (k+1) (l - 1):=⟨(Int.sub_self _).symm,⋯,Int.le_refl _,by have:=h.2.2.2.1;omega⟩
theorem TI.pre (h:S n deep k l) (c:TI n k l i s k' l') (hi:i<3):PB n (deep - 1) k' l':=by
 have h3:=h.2.2.1;have h6:=h.2.2.2.2.2;have c2:=c.2.1;have c4:=c.2.2.2;exact ⟨h.1,B8 h.2.1 (le1 c.2.2.1),by clear c4;omega,by clear c2 h3;omega,Dk h6⟩
theorem TI.snoc (c:TI n k l i s k' l') (b:BB n k' l' s2 t2 k2 l2):TI n k l (i+1) (s+s2) k2 l2:=by
 have c2:=c.2.1;have c4:=c.2.2.2;have b3:=b.2.2.1;have b5:=b.2.2.2.2.1;have b6:=b.2.2.2.2.2;exact ⟨Qm c.1 b.1,by clear c4 b5 b6;omega,B8 c.2.2.1 b.2.2.2.1,by clear c2 b3;omega⟩
theorem TI.out (h:S n deep k l) (c:TI n k l 3 s k' l') (e:s1+(s2+s3)=s) (e1:t1≤n+2) (e2:t2≤n+2) (e3:t3≤n+2):BS (n+1) k l (s1+(s2+s3)+1) (max t1 (max t2 t3)+1) k' l':=by
 subst e;have c2:=c.2.1;have c4:=c.2.2.2;exact ⟨Ze c.1,B7 (Dp.mpr ⟨e1,Dp.mpr ⟨e2,e3⟩⟩),by clear c4;omega,le1 c.2.2.1,fun g=>no0 h.2.2.2.1 g,fun _=>by clear c2;omega⟩
def WI (l0:Int) (d m s t:Nat) (k' l':Int):Prop:=d+m=6∧(s:Int)=l0 - l'∧t≤9∧0≤k'∧k'+4*l'≤160+d∧ -113≤l'
theorem WI.nil (h:0≤l) (h':l≤40):WI l 0 6 0 0 0 l:=⟨rfl,⋯,⋯,⋯,⋯,⋯⟩
theorem WI.pre (h:WI l i m s t k' l') (h0:deep≤7):PS 7 deep (k'+1) l':=by
 obtain ⟨h1,_,_,h4,h5,h6⟩:=h;exact ⟨h0,⋯,⋯,⋯,O0⟩
theorem WI.snoc (h:WI l i m s t k' l') (h0:0<l') (hi:i<6) (b:BS 7 (k'+1) l' s2 t2 k2 l2):WI l (i+1) (m - 1) (s+s2) (max t t2) k2 l2:=by
 obtain ⟨h1,h2,h3,h4,h5,_⟩:=h;obtain ⟨b1,b2,b3,b4,_,b6⟩:=b;exact ⟨by clear h2 h5 b1 b3;omega,Qm h2 b1,Dp.mpr ⟨h3,b2⟩,B8 h4 (le1 b4),by clear h1 h2 b1 b4;omega,b6 h0⟩
end
end Bud
namespace Tre
open PySem
def zn (x:Str):Bool:=decide (1≤x.length)&&decide (x.length≤8)&&x.cps.toList.all fun c=>decide (97≤c)&&decide (c≤122)
def V3 (i:Int):Bool:=decide (-1000000000000≤i)&&decide (i≤1000000000000)
def zm:PyData→Bool
 | .str x=>zn x
 | _=>false
def JO:PyData→Bool
 | .int i=>V3 i
 | _=>false
def J1 (d:PyData) (most:Nat):Bool:=match d with
 | .tuple xs=>decide (xs.length≤most)
 | _=>false
def txt:PyData→Str
 | .str x=>x
 | _=>""
def areNames:PyData→Bool
 | .tuple xs=>decide (xs.length≤4)&&xs.all zm&&decide ((xs.map txt).Nodup)
 | _=>false
abbrev VF:List Str:=["+","-","*","<","="]
abbrev forms:List (Str×List Str):=[("main",["names","body"]),("number",["number"]),("name",["name"]),("two",["sign","term","term"]),("fun",["names","body"]),("loop",["names","body"]),("call",["term","terms"]),("step",["term","term"]),
 ("let",["name","term"]),("set",["name","term"]),("do",["term"]),("if",["term","body","body"]),("while",["term","body"]),("hand",["term"]),("back",["term"]),("fault",["word","term"]),("try",["body","name","name","body","body"])]
abbrev heads:List (Str×List Str):=[("program",["main"]),("term",["number","name","two","fun","loop","call","step"]),("statement",["let","set","do","if","while","hand","back","fault","try"])]
abbrev JB:List (Str×Str):=[("names","name"),("terms","term"),("body","statement")]
def qA (d:PyData) (sh:Str):Bool:=
 if sh=="number" then JO d else if sh=="name" then zm d else if sh=="word" then (match d with | .str x=>zn x&&x !="any" | _=>false)
 else if sh=="sign" then (match d with | .str x=>VF.any fun y=>y==x | _=>false) else if sh=="names" then areNames d else if sh=="terms" then J1 d 4 else if sh=="body" then J1 d 12 else true
def zQ (ts:List PyData) (fs:List Str):Bool:=decide (ts.length=fs.length)&&(ts.zip fs).all fun p=>qA p.1 p.2
def qI (d:PyData) (sh:Str) (hands:Bool):Bool:=match d with
 | .tuple (.str h::ts)=>(((heads.lookup sh).getD []).any fun y=>y==h)&&!(h=="hand"&&!hands)&&zQ ts ((forms.lookup h).getD [])
 | _=>false
def qj (t:PyData) (sh:Str):List (PyData×Str):=
 if sh=="term" then [(t,sh)] else if sh=="terms"||sh=="body" then (match t with | .tuple xs=>xs.map fun x=>(x,(JB.lookup sh).getD "") | _=>[]) else []
def zw:PyData→List (PyData×Str)
 | .tuple (.str h::ts)=>(ts.zip ((forms.lookup h).getD [])).flatMap fun p=>qj p.1 p.2
 | _=>[]
def headOf:PyData→Str
 | .tuple (.str h::_)=>h
 | _=>""
def Jo (d:PyData) (hands:Bool):Bool:=if headOf d=="fun" then false else hands||(headOf d=="main"||headOf d=="loop")
abbrev Lv:=List (PyData×Str×Bool)
def vN (lv:Lv):Lv:=lv.flatMap fun p=>(zw p.1).map fun q=>(q.1,q.2,Jo p.1 p.2.2)
def yI:Nat→Nat→Lv→Bool
 | 0,_,lv=>lv.isEmpty
 | n+1,size,lv=>lv.isEmpty||(decide (size+lv.length≤300)&&(lv.all fun p=>qI p.1 p.2.1 p.2.2)&&yI n (size+lv.length) (vN lv))
def j9 (d:PyData):Bool:=yI 20 0 [(d,"program",false)]
mutual
def fit:PyData→Bool
 | .str x=>decide (x.length≤1000000)
 | .list xs=>Jr xs
 | .tuple xs=>Jr xs
 | .dict _=>false
 | _=>true
def Jr:List PyData→Bool
 | []=>true
 | x::xs=>fit x&&Jr xs
end
theorem JP:∀ {xs:List PyData},Jr xs=true→∀ x∈xs,fit x=true
 | [],_,x,hx=>nomatch hx
 | y::r,h,x,hx=>by
  rw [Jr,Ae] at h;rcases Ao.mp hx with rfl | hx
  ·exact h.1
  ·exact JP h.2 x hx
theorem qer:∀ {xs:List PyData},(∀ x∈xs,fit x=true)→Jr xs=true
 | [],_=>rfl
 | y::r,h=>by
  rw [Jr,Ae];exact ⟨h y A5,qer fun x hx=>h x (A9 _ hx)⟩
theorem QZ:∀ sh∈heads,∀ h∈sh.2,∃ fs,forms.lookup h=some fs∧fs.length≤5:=by
 intro sh hs h hh;have:∀ sh∈heads,∀ h∈sh.2,((forms.lookup h).any fun fs=>decide (fs.length≤5))=true:=∅;have q:=this sh hs h hh;cases e:forms.lookup h with
 | none=>rw [e] at q;cases q
 | some fs=>rw [e] at q;exact ⟨fs,rfl,A3 q⟩
theorem XY {sh h:Str} (q:(((heads.lookup sh).getD []).any fun y=>y==h)=true):∃ l,heads.lookup sh=some l∧h∈l∧∃ fs,forms.lookup h=some fs∧fs.length≤5:=by
 cases e:heads.lookup sh with
 | none=>rw [e] at q;cases q
 | some l=>
  rw [e] at q;obtain ⟨y,hy,hyh⟩:=Db.mp q;cases A4.mp hyh;exact ⟨l,rfl,hy,QZ (sh,l) (Bq e) _ hy⟩
theorem qZ {d:PyData} {sh:Str} {hands:Bool} (h:qI d sh hands=true):
  ∃ hd ts fs l,d= .tuple (.str hd::ts)∧heads.lookup sh=some l∧hd∈l∧forms.lookup hd=some fs∧fs.length≤5∧ts.length=fs.length∧(∀ p∈ts.zip fs,qA p.1 p.2=true)∧(hd=="hand"&&!hands)=false:=by
 cases d with
 | tuple xs=>
  cases xs with
  | nil=>cases h
  | cons x ts=>
   cases x with
   | str hd=>
    simp only [qI,zQ,Ae,Ev,Dj] at h;obtain ⟨⟨h1,h2⟩,h3,h4⟩:=h;obtain ⟨l,e1,e2,fs,e3,e4⟩:=XY h1;rw [e3] at h3 h4;exact ⟨hd,ts,fs,l,rfl,e1,e2,e3,e4,h3,fun p hp=>A8.mp h4 p hp,h2⟩
   | _=>cases h
 | _=>cases h
theorem Yf {t:PyData} {sh:Str} (h:qA t sh=true):(qj t sh).length≤12:=by
 unfold qj;split
 ·simp
 ·split
  ·rename_i h1 h2;cases t with
   | tuple xs=>
    rw [Ab];rw [B6,A4,A4] at h2;rcases h2 with rfl | rfl
    ·have:J1 (.tuple xs) 4=true:=h;have:=A3 this;omega
    ·have:J1 (.tuple xs) 12=true:=h;exact A3 this
   | _=>simp
  ·simp
theorem ZM {α β:Type} (f:α→List β) (m:Nat):∀ l:List α,(∀ x∈l,(f x).length≤m)→(l.flatMap f).length≤m*l.length
 | [],_=>by simp
 | x::r,h=>by
  rw [C1,Ac,Ak,Nat.mul_succ];have h1:=h x A5;have h2:=ZM f m r fun y hy=>h y (A9 _ hy);omega
theorem wq {d:PyData} {sh:Str} {hands:Bool} (h:qI d sh hands=true):(zw d).length≤60:=by
 obtain ⟨hd,ts,fs,l,rfl,_,_,e,hf,hl,hs,_⟩:=qZ h;show ((ts.zip ((forms.lookup hd).getD [])).flatMap _).length≤60;rw [e];show ((ts.zip fs).flatMap _).length≤60;have:=ZM (fun p:PyData×Str=>qj p.1 p.2) 12 (ts.zip fs) fun p hp=>Yf (hs p hp);rw [Ee] at this;omega
theorem qab {lv:Lv} (h:∀ p∈lv,qI p.1 p.2.1 p.2.2=true):(vN lv).length≤60*lv.length:=
 ZM _ 60 lv fun p hp=>by rw [Ab];exact wq (h p hp)
theorem ZH {t e:PyData} {sh u:Str} (h:(e,u)∈qj t sh):u="term"∨u="statement":=by
 unfold qj at h;split at h
 ·rename_i h1;rw [Am] at h;cases h;exact .inl (A4.mp h1)
 ·split at h
  ·rename_i h2;cases t with
   | tuple xs=>
    obtain ⟨x,_,ex⟩:=Bt.mp h;rw [B6,A4,A4] at h2;cases ex;rcases h2 with rfl | rfl
    ·exact .inl rfl
    ·exact .inr rfl
   | _=>cases h
  ·cases h
theorem Ye {d e:PyData} {u:Str} (h:(e,u)∈zw d):u="term"∨u="statement":=by
 unfold zw at h;split at h
 ·obtain ⟨p,_,hp⟩:=Cj.mp h;exact ZH hp
 ·cases h
theorem QS {t e:PyData} {sh u:Str} (ft:fit t=true) (h:(e,u)∈qj t sh):fit e=true:=by
 unfold qj at h;split at h
 ·rw [Am] at h;cases h;exact ft
 ·split at h
  ·cases t with
   | tuple xs=>
    obtain ⟨x,hx,ex⟩:=Bt.mp h;rw [fit] at ft;have q:=JP ft x hx;cases ex;exact q
   | _=>cases h
  ·cases h
theorem qel {d e:PyData} {u:Str} (f:fit d=true) (h:(e,u)∈zw d):fit e=true:=by
 unfold zw at h;split at h
 ·rename_i hd ts;obtain ⟨p,hz,hp⟩:=Cj.mp h;rw [fit,Jr,Ae] at f;exact QS (JP f.2 p.1 (Dg hz).1) hp
 ·cases h
theorem jN (d:PyData):qA d "number"=JO d:=by
 unfold qA;rw [if_pos (show (((("number":Str)=="number")=true)) from ∅)]
theorem jc (d:PyData):qA d "name"=zm d:=by
 unfold qA;rw [if_neg (show ¬ (((("name":Str)=="number")=true)) from ∅)];rw [if_pos (show (((("name":Str)=="name")=true)) from ∅)]
theorem JE (d:PyData):qA d "word"=(match d with | .str x=>zn x&&x !="any" | _=>false):=by
 unfold qA;rw [if_neg (show ¬ (((("word":Str)=="number")=true)) from ∅)];rw [if_neg (show ¬ (((("word":Str)=="name")=true)) from ∅)];rw [if_pos (show (((("word":Str)=="word")=true)) from ∅)]
theorem JF (d:PyData):qA d "sign"=(match d with | .str x=>VF.any fun y=>y==x | _=>false):=by
 unfold qA;rw [if_neg (show ¬ (((("sign":Str)=="number")=true)) from ∅)];rw [if_neg (show ¬ (((("sign":Str)=="name")=true)) from ∅)];rw [if_neg (show ¬ (((("sign":Str)=="word")=true)) from ∅)];rw [if_pos (show (((("sign":Str)=="sign")=true)) from ∅)]
theorem jF (d:PyData):qA d "names"=areNames d:=by
 unfold qA;rw [if_neg (show ¬ (((("names":Str)=="number")=true)) from ∅)];rw [if_neg (show ¬ (((("names":Str)=="name")=true)) from ∅)];rw [if_neg (show ¬ (((("names":Str)=="word")=true)) from ∅)];rw [if_neg (show ¬ (((("names":Str)=="sign")=true)) from ∅)];rw [if_pos (show (((("names":Str)=="names")=true)) from ∅)]
theorem jE (d:PyData):qA d "terms"=J1 d 4:=by
 unfold qA;rw [if_neg (show ¬ (((("terms":Str)=="number")=true)) from ∅)];rw [if_neg (show ¬ (((("terms":Str)=="name")=true)) from ∅)];rw [if_neg (show ¬ (((("terms":Str)=="word")=true)) from ∅)];rw [if_neg (show ¬ (((("terms":Str)=="sign")=true)) from ∅)];rw [if_neg (show ¬ (((("terms":Str)=="names")=true)) from ∅)];rw [if_pos (show (((("terms":Str)=="terms")=true)) from ∅)]
theorem jl (d:PyData):qA d "body"=J1 d 12:=by
 unfold qA;rw [if_neg (show ¬ (((("body":Str)=="number")=true)) from ∅)];rw [if_neg (show ¬ (((("body":Str)=="name")=true)) from ∅)];rw [if_neg (show ¬ (((("body":Str)=="word")=true)) from ∅)];rw [if_neg (show ¬ (((("body":Str)=="sign")=true)) from ∅)];rw [if_neg (show ¬ (((("body":Str)=="names")=true)) from ∅)];rw [if_neg (show ¬ (((("body":Str)=="terms")=true)) from ∅)];rw [if_pos (show (((("body":Str)=="body")=true)) from ∅)]
theorem yS (d:PyData) {sh:Str} (h0:(sh=="number")=false) (h1:(sh=="name")=false) (h2:(sh=="word")=false) (h3:(sh=="sign")=false) (h4:(sh=="names")=false) (h5:(sh=="terms")=false) (h6:(sh=="body")=false):qA d sh=true:=by
 unfold qA;rw [if_neg (by rw [h0];exact Ai)]
 rw [if_neg (by rw [h1];exact Ai)]
 rw [if_neg (by rw [h2];exact Ai)]
 rw [if_neg (by rw [h3];exact Ai)]
 rw [if_neg (by rw [h4];exact Ai)]
 rw [if_neg (by rw [h5];exact Ai)]
 rw [if_neg (by rw [h6];exact Ai)]
def qL (d:PyData):List PyData:=(zw d).map (·.1)
mutual
inductive Tr:PyData→Nat→Nat→Prop
 | mk {d:PyData} {sh:Str} {hands:Bool} {s t:Nat}:qI d sh hands=true→Trl (qL d) s t→Tr d (s+1) (t+1)
inductive Trl:List PyData→Nat→Nat→Prop
 | nil:Trl [] 0 0
 | cons {d:PyData} {ds:List PyData} {s t s' t':Nat}:Tr d s t→Trl ds s' t'→Trl (d::ds) (s+s') (max t t')
end
theorem Trl.append:∀ {a b:List PyData} {s t s' t':Nat},Trl a s t→Trl b s' t'→Trl (a++b) (s+s') (max t t'):=by
 intro a
 induction a with
 | nil=>
  intro b s t s' t' h h';cases h;simpa using h'
 | cons d r ih=>
  intro b s t s' t' h h';cases h with
  | cons h1 h2=>
   have:=Trl.cons h1 (ih h2 h');rw [C4,Ey,Nat.max_assoc];exact this
theorem qct (a:Nat):∀ b:Nat,max a (b - 1)=max (a+1) b - 1
 | 0=>by simp
 | b+1=>by
  rw [Nat.add_max_add_right];rfl
theorem Trl.lower:∀ {ds:List PyData} {s t:Nat},Trl ds s t→∃ s',Trl (ds.flatMap qL) s' (t - 1)∧s=ds.length+s':=by
 intro ds
 induction ds with
 | nil=>
  intro s t h;cases h;exact ⟨0,.nil,rfl⟩
 | cons d r ih=>
  intro s t h;cases h with
  | @cons _ _ s1 t1 s2 t2 h1 h2=>
   cases h1 with
   | @mk _ sh hands s0 t0 hf hk=>
    obtain ⟨s',h3,e⟩:=ih h2;refine ⟨s0+s',?_,?_⟩
    ·rw [C1];have e2:max t0 (t2 - 1)=max (t0+1) t2 - 1:=qct _ _;rw [← e2];exact hk.append h3
    ·rw [Ak];omega
theorem Trl.zero {ds:List PyData} {s:Nat} (h:Trl ds s 0):ds=[]:=by
 cases ds with
 | nil=>rfl
 | cons d r=>
  generalize e:0=n at h;cases h with
  | cons h1 h2=>
   cases h1;omega
theorem Trl.forms:∀ {ds:List PyData} {s t:Nat},Trl ds s t→∀ d∈ds,∃ sh hands,qI d sh hands=true:=by
 intro ds
 induction ds with
 | nil=>intro s t _ d hd;cases hd
 | cons e r ih=>
  intro s t h d hd;cases h with
  | cons h1 h2=>
   rcases Ao.mp hd with rfl | hd
   ·cases h1 with
    | mk hf _=>exact ⟨_,_,hf⟩
   ·exact ih h2 d hd
theorem Trl.few {ds:List PyData} {s t:Nat} (h:Trl ds s t):ds.length≤s:=by
 obtain ⟨s',_,e⟩:=h.lower;omega
mutual
theorem Tr.deep:∀ {d:PyData} {s t:Nat},Tr d s t→t≤s
 | _,_,_,.mk _ h=>B7 (Trl.deep h)
theorem Trl.deep:∀ {ds:List PyData} {s t:Nat},Trl ds s t→t≤s
 | _,_,_,.nil=>Ag _
 | _,_,_,.cons h1 h2=>by
  have a:=Tr.deep h1;have b:=Trl.deep h2;omega
end
theorem qcv {d:PyData} {sh:Str} {hands:Bool} (h:qI d sh hands=true):(qL d).length≤60:=by
 unfold qL;rw [Ab];exact wq h
mutual
inductive Pt:PyData→Str→Bool→Nat→Nat→Prop
 | mk {d:PyData} {sh:Str} {hands:Bool} {s t:Nat}:qI d sh hands=true→Ptl (zw d) (Jo d hands) s t→Pt d sh hands (s+1) (t+1)
inductive Ptl:List (PyData×Str)→Bool→Nat→Nat→Prop
 | nil {hands:Bool}:Ptl [] hands 0 0
 | cons {d:PyData} {sh:Str} {r:List (PyData×Str)} {hands:Bool} {s t s' t':Nat}:Pt d sh hands s t→Ptl r hands s' t'→Ptl ((d,sh)::r) hands (s+s') (max t t')
end
theorem Ptl.append:∀ {a b:List (PyData×Str)} {hands:Bool} {s t s' t':Nat},Ptl a hands s t→Ptl b hands s' t'→Ptl (a++b) hands (s+s') (max t t'):=by
 intro a
 induction a with
 | nil=>
  intro b hands s t s' t' h h';cases h;simpa using h'
 | cons d r ih=>
  intro b hands s t s' t' h h';cases h with
  | cons h1 h2=>
   have:=Ptl.cons h1 (ih h2 h');rw [C4,Ey,Nat.max_assoc];exact this
mutual
theorem Pt.tr:∀ {d:PyData} {sh:Str} {hands:Bool} {s t:Nat},Pt d sh hands s t→Tr d s t
 | _,_,_,_,_,.mk hf h=> .mk hf (Ptl.tr h)
theorem Ptl.tr:∀ {l:List (PyData×Str)} {hands:Bool} {s t:Nat},Ptl l hands s t→Trl (l.map (·.1)) s t
 | _,_,_,_,.nil=> .nil
 | _,_,_,_,.cons h1 h2=> .cons (Pt.tr h1) (Ptl.tr h2)
end
inductive Lvl:Lv→Nat→Nat→Prop
 | nil:Lvl [] 0 0
 | cons {p:PyData×Str×Bool} {r:Lv} {s t s' t':Nat}:Pt p.1 p.2.1 p.2.2 s t→Lvl r s' t'→Lvl (p::r) (s+s') (max t t')
theorem Lvl.append:∀ {a b:Lv} {s t s' t':Nat},Lvl a s t→Lvl b s' t'→Lvl (a++b) (s+s') (max t t')
 | _,_,_,_,_,_,.nil,h=>by simpa using h
 | _,_,_,_,_,_,.cons h1 h2,h=>by
  have:=Lvl.cons h1 (Lvl.append h2 h);rw [C4,Ey,Nat.max_assoc];exact this
theorem qk3:∀ {l:List (PyData×Str)} {hands:Bool} {s t:Nat},Ptl l hands s t→Lvl (l.map fun z=>(z.1,z.2,hands)) s t:=by
 intro l
 induction l with
 | nil=>intro hands s t h;cases h;exact .nil
 | cons z r ih=>
  intro hands s t h;cases h with
  | cons h1 h2=>exact .cons h1 (ih h2)
theorem Lvl.lower:∀ {lv:Lv} {s t:Nat},Lvl lv s t→∃ s',Lvl (Tre.vN lv) s' (t - 1)∧s=lv.length+s':=by
 intro lv
 induction lv with
 | nil=>intro s t h;cases h;exact ⟨0,.nil,rfl⟩
 | cons p r ih=>
  intro s t h;cases h with
  | @cons _ _ s1 t1 s2 t2 h1 h2=>
   obtain ⟨s',h3,e⟩:=ih h2;generalize e1:p.1=d at h1;generalize e2:p.2.1=sh at h1;generalize e3:p.2.2=hands at h1;cases h1 with
   | @mk _ _ _ s0 t0 hf hk=>
    refine ⟨s0+s',?_,?_⟩
    ·have e4:max t0 (t2 - 1)=max (t0+1) t2 - 1:=qct _ _;have e5:Tre.vN (p::r)=((zw d).map fun z=>(z.1,z.2,Jo d hands))++Tre.vN r:=by
      unfold Tre.vN;rw [C1,e1,e3]
     rw [e5,← e4];exact (qk3 hk).append h3
    ·rw [Ak];omega
theorem Lvl.forms:∀ {lv:Lv} {s t:Nat},Lvl lv s t→(lv.all fun p=>qI p.1 p.2.1 p.2.2)=true:=by
 intro lv
 induction lv with
 | nil=>intro s t _;rfl
 | cons p r ih=>
  intro s t h;cases h with
  | cons h1 h2=>
   rw [Ex,ih h2,Bool.and_true];cases h1 with
   | mk hf _=>exact hf
theorem Lvl.zero {lv:Lv} {s:Nat} (h:Lvl lv s 0):lv=[]:=by
 cases lv with
 | nil=>rfl
 | cons p r=>
  generalize e:0=n at h;cases h with
  | cons h1 h2=>
   cases h1;omega
theorem qb8:∀ (n sz:Nat) (lv:Lv) (s t:Nat),Lvl lv s t→t≤n→sz+s≤300→yI n sz lv=true
 | 0,sz,lv,s,t,h,hn,hz=>by
  have:t=0:=⋯;subst this;rw [h.zero];rfl
 | n+1,sz,lv,s,t,h,hn,hz=>by
  obtain ⟨s',h2,e⟩:=h.lower;rw [yI,qb8 n (sz+lv.length) (Tre.vN lv) s' (t - 1) h2 ⋯ ⋯,h.forms,Al ⋯];simp
theorem ZG {d:PyData} {s t:Nat} (h:Pt d "program" false s t) (ht:t≤20) (hs:s≤300):j9 d=true:=
 qb8 20 0 _ s t (by simpa using Lvl.cons (p:=(d,"program",false)) h .nil) ht ⋯
theorem jB {h sh:Str} {l fs:List Str} {ts:List PyData} {hands:Bool} (e1:heads.lookup sh=some l) (e2:(l.any fun y=>y==h)=true) (e3:forms.lookup h=some fs) (e4:(h=="hand"&&!hands)=false) (e5:zQ ts fs=true):qI (.tuple (.str h::ts)) sh hands=true:=by
 simp only [qI,e1,e3,Option.getD_some,e2,e4,e5,Bool.not_false,Bool.and_true]
theorem qY {h:Str} {fs:List Str} {ts:List PyData} (e:forms.lookup h=some fs):zw (.tuple (.str h::ts))=(ts.zip fs).flatMap fun p=>qj p.1 p.2:=by
 show (ts.zip ((forms.lookup h).getD [])).flatMap _=_;rw [e];rfl
theorem zj (t:PyData):qj t "term"=[(t,("term":Str))]:=by
 unfold qj;rw [if_pos ∅]
theorem zk (xs:List PyData):qj (.tuple xs) "body"=xs.map fun x=>(x,("statement":Str)):=by
 unfold qj;rw [if_neg ∅,if_pos ∅];have e:(JB.lookup ("body":Str)).getD ""=("statement":Str):=∅;rw [e]
theorem Vm (xs:List PyData):qj (.tuple xs) "terms"=xs.map fun x=>(x,("term":Str)):=by
 unfold qj;rw [if_neg ∅,if_pos ∅];have e:(JB.lookup ("terms":Str)).getD ""=("term":Str):=∅;rw [e]
theorem zt {t:PyData} {sh:Str} (h:(sh=="term"||(sh=="terms"||sh=="body"))=false):qj t sh=[]:=by
 rw [Em] at h;unfold qj;rw [if_neg (by rw [h.1];exact Ai),if_neg (by rw [h.2];exact Ai)]
theorem Jb (t:PyData):qA t "term"=true:=yS t ∅ ∅ ∅ ∅ ∅ ∅ ∅
structure Bd (xs:List PyData) (hands:Bool) (s t:Nat):Prop where
 few:xs.length≤12
 all:Ptl (xs.map fun x=>(x,("statement":Str))) hands s t
theorem vo {xs:List PyData} (h:xs.length≤12):qA (.tuple xs) "body"=true:=by
 rw [jl];exact Al h
theorem qfw {xs:List PyData} (h:xs.length≤4):qA (.tuple xs) "terms"=true:=by
 rw [jE];exact Al h
theorem jI {h:Str} {ts:List PyData} {hands:Bool} (e:(h=="fun"||(h=="main"||h=="loop"))=false):Jo (.tuple (.str h::ts)) hands=hands:=by
 rw [Em] at e;show (if h=="fun" then false else hands||(h=="main"||h=="loop"))=hands
 rw [if_neg (by rw [e.1];exact Ai),e.2,Ea]
theorem ok1 {t:PyData} {f:Str} (h:qA t f=true):zQ [t] [f]=true:=by simp [zQ,h]
theorem ok2 {t u:PyData} {f g:Str} (h:qA t f=true) (h':qA u g=true):zQ [t,u] [f,g]=true:=by simp [zQ,h,h']
theorem ok3 {t u v:PyData} {f g k:Str} (h:qA t f=true) (h':qA u g=true) (h2:qA v k=true):zQ [t,u,v] [f,g,k]=true:=by simp [zQ,h,h',h2]
theorem jW {d:PyData} {sh:Str} {hands:Bool} {s t:Nat} (h:Pt d sh hands s t):Ptl [(d,sh)] hands s t:=by simpa using Ptl.cons h .nil
theorem XJ {i:Int} {hands:Bool} (h:V3 i=true):Pt (.tuple [.str "number",.int i]) "term" hands 1 1:=by
 refine .mk (jB (l:=["number","name","two","fun","loop","call","step"]) (fs:=["number"]) ∅ ∅ ∅ (by cases hands <;> decide+kernel) (ok1 ((jN _).trans h))) (s:=0) (t:=0) ?_
 rw [qY (fs:=["number"]) ∅];show Ptl (qj _ _++[]) _ _ _;rw [zt (sh:="number") ∅];exact .nil
theorem qh8 {x:Str} {hands:Bool} (h:zn x=true):Pt (.tuple [.str "name",.str x]) "term" hands 1 1:=by
 refine .mk (jB (l:=["number","name","two","fun","loop","call","step"]) (fs:=["name"]) ∅ ∅ ∅ (by cases hands <;> decide+kernel) (ok1 ((jc _).trans h))) (s:=0) (t:=0) ?_
 rw [qY (fs:=["name"]) ∅];show Ptl (qj _ _++[]) _ _ _;rw [zt (sh:="name") ∅];exact .nil
theorem qkb {g:Str} {a b:PyData} {hands:Bool} {s t s' t':Nat} (h:(VF.any fun y=>y==g)=true) (ha:Pt a "term" hands s t) (hb:Pt b "term" hands s' t'):Pt (.tuple [.str "two",.str g,a,b]) "term" hands (s+s'+1) (max t t'+1):=by
 refine .mk (jB (l:=["number","name","two","fun","loop","call","step"]) (fs:=["sign","term","term"]) ∅ ∅ ∅ (by cases hands <;> decide+kernel) (ok3 ((JF _).trans h) (Jb _) (Jb _))) ?_
 rw [qY (fs:=["sign","term","term"]) ∅,jI ∅];show Ptl (qj _ _++(qj _ _++(qj _ _++[]))) _ _ _;rw [zt (sh:="sign") ∅,zj,zj];exact (jW ha).append (jW hb)
theorem qh7 {a b:PyData} {hands:Bool} {s t s' t':Nat} (ha:Pt a "term" hands s t) (hb:Pt b "term" hands s' t'):Pt (.tuple [.str "step",a,b]) "term" hands (s+s'+1) (max t t'+1):=by
 refine .mk (jB (l:=["number","name","two","fun","loop","call","step"]) (fs:=["term","term"]) ∅ ∅ ∅ (by cases hands <;> decide+kernel) (ok2 (Jb _) (Jb _))) ?_
 rw [qY (fs:=["term","term"]) ∅,jI ∅];show Ptl (qj _ _++(qj _ _++[])) _ _ _;rw [zj,zj];exact (jW ha).append (jW hb)
theorem qib {a:PyData} {xs:List PyData} {hands:Bool} {s t s' t':Nat} (ha:Pt a "term" hands s t) (hl:xs.length≤4) (hb:Ptl (xs.map fun x=>(x,("term":Str))) hands s' t'):Pt (.tuple [.str "call",a,.tuple xs]) "term" hands (s+s'+1) (max t t'+1):=by
 refine .mk (jB (l:=["number","name","two","fun","loop","call","step"]) (fs:=["term","terms"]) ∅ ∅ ∅ (by cases hands <;> decide+kernel) (ok2 (Jb _) (qfw hl))) ?_
 rw [qY (fs:=["term","terms"]) ∅,jI ∅];show Ptl (qj _ _++(qj _ _++[])) _ _ _;rw [zj,Vm,An];exact (jW ha).append hb
theorem yY {h sh:Str} {l:List Str} {ns xs:List PyData} {hands hi:Bool} {s t:Nat} (e1:heads.lookup sh=some l) (e2:(l.any fun y=>y==h)=true) (e3:forms.lookup h=some (["names","body"]:List Str)) (e4:(h=="hand"&&!hands)=false) (hn:areNames (.tuple ns)=true) (hw:∀ ts,Jo (.tuple (.str h::ts)) hands=hi) (hb:Bd xs hi s t):
  Pt (.tuple [.str h,.tuple ns,.tuple xs]) sh hands (s+1) (t+1):=by
 refine .mk (jB e1 e2 e3 e4 (ok2 ((jF _).trans hn) (vo hb.few))) ?_;rw [qY e3,hw];show Ptl (qj _ _++(qj _ _++[])) _ _ _;rw [zt (sh:="names") ∅,zk,Bv,An];exact hb.all
theorem qke {ns xs:List PyData} {hands:Bool} {s t:Nat} (hn:areNames (.tuple ns)=true) (hb:Bd xs false s t):Pt (.tuple [.str "fun",.tuple ns,.tuple xs]) "term" hands (s+1) (t+1):=
 yY (l:=["number","name","two","fun","loop","call","step"]) ∅ ∅ ∅ (by cases hands <;> decide+kernel) hn (fun ts=>by
  show (if (("fun":Str)=="fun")=true then false else _)=false
  rw [if_pos ∅]) hb
theorem qia {ns xs:List PyData} {hands:Bool} {s t:Nat} (hn:areNames (.tuple ns)=true) (hb:Bd xs true s t):Pt (.tuple [.str "loop",.tuple ns,.tuple xs]) "term" hands (s+1) (t+1):=
 yY (l:=["number","name","two","fun","loop","call","step"]) ∅ ∅ ∅ (by cases hands <;> decide+kernel) hn (fun ts=>by
  show (if (("loop":Str)=="fun")=true then false else hands||((("loop":Str)=="main")||(("loop":Str)=="loop")))=true
  rw [if_neg ∅,show ((("loop":Str)=="main")||(("loop":Str)=="loop"))=true from ∅,Bool.or_true]) hb
theorem qh9 {ns xs:List PyData} {s t:Nat} (hn:areNames (.tuple ns)=true) (hb:Bd xs true s t):Pt (.tuple [.str "main",.tuple ns,.tuple xs]) "program" false (s+1) (t+1):=
 yY (l:=["main"]) ∅ ∅ ∅ ∅ hn (fun ts=>by
  show (if (("main":Str)=="fun")=true then false else false||((("main":Str)=="main")||(("main":Str)=="loop")))=true
  rw [if_neg ∅,show ((("main":Str)=="main")||(("main":Str)=="loop"))=true from ∅,Bool.or_true]) hb
abbrev stm:List Str:=["let","set","do","if","while","hand","back","fault","try"]
theorem qf8 {h x:Str} {a:PyData} {hands:Bool} {s t:Nat} (hh:h="let"∨h="set") (hx:zn x=true) (ha:Pt a "term" hands s t):Pt (.tuple [.str h,.str x,a]) "statement" hands (s+1) (t+1):=by
 have e3:forms.lookup h=some (["name","term"]:List Str):=by rcases hh with rfl | rfl <;> decide+kernel
 refine .mk (jB (l:=stm) (fs:=["name","term"]) ∅ (by rcases hh with rfl | rfl <;> decide+kernel) e3 (by rcases hh with rfl | rfl <;> cases hands <;> decide+kernel) (ok2 ((jc _).trans hx) (Jb _))) ?_
 rw [qY e3,jI (by rcases hh with rfl | rfl <;> decide+kernel)]
 show Ptl (qj _ _++(qj _ _++[])) _ _ _;rw [zt (sh:="name") ∅,zj];exact jW ha
theorem qf9 {x:Str} {a:PyData} {hands:Bool} {s t:Nat} (hx:(zn x&&x !="any")=true) (ha:Pt a "term" hands s t):Pt (.tuple [.str "fault",.str x,a]) "statement" hands (s+1) (t+1):=by
 refine .mk (jB (l:=stm) (fs:=["word","term"]) ∅ ∅ ∅ (by cases hands <;> decide+kernel) (ok2 ((JE _).trans hx) (Jb _))) ?_
 rw [qY (fs:=["word","term"]) ∅,jI ∅];show Ptl (qj _ _++(qj _ _++[])) _ _ _;rw [zt (sh:="word") ∅,zj];exact jW ha
theorem qjn {h:Str} {a:PyData} {hands:Bool} {s t:Nat} (hh:h="do"∨h="back"∨(h="hand"∧hands=true)) (ha:Pt a "term" hands s t):Pt (.tuple [.str h,a]) "statement" hands (s+1) (t+1):=by
 have e3:forms.lookup h=some (["term"]:List Str):=by rcases hh with rfl | rfl | ⟨rfl,_⟩ <;> decide+kernel
 refine .mk (jB (l:=stm) (fs:=["term"]) ∅ (by rcases hh with rfl | rfl | ⟨rfl,_⟩ <;> decide+kernel) e3 (by rcases hh with rfl | rfl | ⟨rfl,rfl⟩ <;> first | decide+kernel | (cases hands <;> decide+kernel)) (ok1 (Jb _))) ?_
 rw [qY e3,jI (by rcases hh with rfl | rfl | ⟨rfl,_⟩ <;> decide+kernel)]
 show Ptl (qj _ _++[]) _ _ _;rw [zj];exact jW ha
theorem qf6 {a:PyData} {xs:List PyData} {hands:Bool} {s t s' t':Nat} (ha:Pt a "term" hands s t) (hb:Bd xs hands s' t'):Pt (.tuple [.str "while",a,.tuple xs]) "statement" hands (s+s'+1) (max t t'+1):=by
 refine .mk (jB (l:=stm) (fs:=["term","body"]) ∅ ∅ ∅ (by cases hands <;> decide+kernel) (ok2 (Jb _) (vo hb.few))) ?_
 rw [qY (fs:=["term","body"]) ∅,jI ∅];show Ptl (qj _ _++(qj _ _++[])) _ _ _;rw [zj,zk,An];exact (jW ha).append hb.all
theorem qmf {a:PyData} {xs ys:List PyData} {hands:Bool} {s t s' t' s2 t2:Nat} (ha:Pt a "term" hands s t) (hb:Bd xs hands s' t') (hc:Bd ys hands s2 t2):Pt (.tuple [.str "if",a,.tuple xs,.tuple ys]) "statement" hands (s+(s'+s2)+1) (max t (max t' t2)+1):=by
 refine .mk (jB (l:=stm) (fs:=["term","body","body"]) ∅ ∅ ∅ (by cases hands <;> decide+kernel) (ok3 (Jb _) (vo hb.few) (vo hc.few))) ?_
 rw [qY (fs:=["term","body","body"]) ∅,jI ∅];show Ptl (qj _ _++(qj _ _++(qj _ _++[]))) _ _ _;rw [zj,zk,zk,An];exact (jW ha).append (hb.all.append hc.all)
theorem qkc {x y:Str} {xs ys zs:List PyData} {hands:Bool} {s t s' t' s2 t2:Nat} (hx:zn x=true) (hy:zn y=true) (ha:Bd xs hands s t) (hb:Bd ys hands s' t') (hc:Bd zs hands s2 t2):
  Pt (.tuple [.str "try",.tuple xs,.str x,.str y,.tuple ys,.tuple zs]) "statement" hands (s+(s'+s2)+1) (max t (max t' t2)+1):=by
 have sx:qA (.str x) "name"=true:=(jc _).trans hx;have sy:qA (.str y) "name"=true:=(jc _).trans hy;refine .mk (jB (l:=stm) (fs:=["body","name","name","body","body"]) ∅ ∅ ∅ (by cases hands <;> decide+kernel) (by simp [zQ,vo ha.few,vo hb.few,vo hc.few,sx,sy])) ?_
 rw [qY (fs:=["body","name","name","body","body"]) ∅,jI ∅];show Ptl (qj _ _++(qj _ _++(qj _ _++(qj _ _++(qj _ _++[]))))) _ _ _;rw [zk,zt (sh:="name") ∅,zt (sh:="name") ∅,zk,zk,An,Bv,Bv];exact ha.all.append (hb.all.append hc.all)
mutual
def noL:PyData→Bool
 | .list _=>false
 | .dict _=>false
 | .tuple xs=>zH xs
 | .none=>true
 | .bool _=>true
 | .int _=>true
 | .str _=>true
def zH:List PyData→Bool
 | []=>true
 | x::r=>noL x&&zH r
end
structure Gd (n:Nat) (d:PyData):Prop where
 nol:noL d=true
 lay:d.canLay0=true
 dep:d.depth≤n
theorem Gd.mono {n m:Nat} {d:PyData} (h:Gd n d) (hm:n≤m):Gd m d:=⟨h.nol,h.lay,A0 h.dep hm⟩
theorem wW {x:Str} {n:Nat} (h:PyData.strOk x=true):Gd n (.str x):=⟨rfl,h,Bw _⟩
theorem ZL {i:Int} {n:Nat}:Gd n (.int i):=⟨rfl,rfl,Bw _⟩
theorem Vg {n:Nat}:∀ {xs:List PyData},(∀ x∈xs,Gd n x)→zH xs=true∧PyData.canLayAll0 xs=true∧PyData.depthAll xs≤n
 | [],_=>⟨rfl,rfl,Bw _⟩
 | x::r,h=>by
  obtain ⟨h1,h2,h3⟩:=Vg fun y hy=>h y (A9 _ hy);have hx:=h x A5;refine ⟨?_,?_,?_⟩
  ·rw [zH,hx.nol,h1];rfl
  ·rw [PyData.canLayAll0,hx.lay,h2];rfl
  ·rw [PyData.depthAll];exact Dp.mpr ⟨hx.dep,h3⟩
theorem Yk {n:Nat} {xs:List PyData} (h:∀ x∈xs,Gd n x):Gd (n+1) (.tuple xs):=by
 obtain ⟨h1,h2,h3⟩:=Vg h;exact ⟨by rw [noL];exact h1,by rw [PyData.canLay0];exact h2,by rw [PyData.depth];exact B7 h3⟩
theorem vD {x:Str} (h:zn x=true):PyData.strOk x=true:=by
 unfold zn at h;rw [Ae] at h;unfold PyData.strOk;rw [← Array.all_toList,A8];intro c hc;have q:=A8.mp h.2 c hc;rw [Ae] at q;have:=A3 q.2;exact Al ⋯
abbrev vn:List Str:=["number","name","word","sign","names","terms","body","term"]
theorem qcs {t:PyData} {n:Nat} (h:zm t=true):Gd n t:=by
 cases t with
 | str x=>exact wW (vD h)
 | _=>cases h
theorem qmx {t:PyData} {f:Str} {n:Nat} (hs:qA t f=true) (hf:f∈vn) (hk:∀ z∈qj t f,Gd n z.1):Gd (n+1) t:=by
 simp only [vn,Ao,Bm,or_false] at hf;rcases hf with rfl | rfl | rfl | rfl | rfl | rfl | rfl | rfl
 ·rw [jN] at hs;cases t with
  | int i=>exact ZL
  | _=>cases hs
 ·rw [jc] at hs;exact qcs hs
 ·rw [JE] at hs;cases t with
  | str x=>
   have q:(zn x&&x !="any")=true:=hs;rw [Ae] at q;exact wW (vD q.1)
  | _=>cases hs
 ·rw [JF] at hs;cases t with
  | str x=>
   have q:(VF.any fun y=>y==x)=true:=hs;obtain ⟨y,hy,e⟩:=Db.mp q;cases A4.mp e;refine wW ?_;have:(VF.all fun y=>PyData.strOk y)=true:=∅;exact A8.mp this _ hy
  | _=>cases hs
 ·rw [jF] at hs;cases t with
  | tuple xs=>
   simp only [areNames,Ae] at hs;exact Yk fun x hx=>qcs (A8.mp hs.1.2 x hx)
  | _=>cases hs
 ·rw [jE] at hs;cases t with
  | tuple xs=>
   rw [Vm] at hk;exact Yk fun x hx=>hk (x,"term") (B9 hx)
  | _=>cases hs
 ·rw [jl] at hs;cases t with
  | tuple xs=>
   rw [zk] at hk;exact Yk fun x hx=>hk (x,"statement") (B9 hx)
  | _=>cases hs
 ·rw [zj] at hk;exact (hk (t,"term") A5).mono (Ef _)
theorem Vh:∀ p∈forms,PyData.strOk p.1=true∧∀ f∈p.2,f∈vn:=by
 have h:(forms.all fun p=>PyData.strOk p.1&&p.2.all fun f=>vn.any fun g=>g==f)=true:=∅;intro p hp;have q:=A8.mp h p hp;rw [Ae] at q;refine ⟨q.1,fun f hf=>?_⟩;obtain ⟨g,hg,e⟩:=Db.mp (A8.mp q.2 f hf);cases A4.mp e;exact hg
theorem qiy {d:PyData} {sh:Str} {hands:Bool} {n:Nat} (h:qI d sh hands=true) (hk:∀ e∈qL d,Gd n e):Gd (n+2) d:=by
 obtain ⟨hd,ts,fs,l,rfl,_,_,e,_,hl,hs,_⟩:=qZ h;obtain ⟨k1,k2⟩:=Vh _ (Bq e);refine Yk fun x hx=>?_;rcases Ao.mp hx with rfl | hx
 ·exact wW k1
 ·obtain ⟨i,hi,rfl⟩:=List.getElem_of_mem hx;have hz:(ts[i],fs[i]'⋯)∈ts.zip fs:=by
   rw [List.mem_iff_getElem];exact ⟨i,by rw [Ee];omega,by rw [List.getElem_zip]⟩
  refine qmx (hs _ hz) (k2 _ (Cd _)) fun z hzz=>hk z.1 ?_;unfold qL;refine B9 ?_;rw [qY e];exact Cj.mpr ⟨_,hz,hzz⟩
mutual
theorem Tr.gd:∀ {d:PyData} {s t:Nat},Tr d s t→Gd (2*t) d
 | _,_,_,.mk hf h=>qiy hf (Trl.gd h)
theorem Trl.gd:∀ {ds:List PyData} {s t:Nat},Trl ds s t→∀ d∈ds,Gd (2*t) d
 | _,_,_,.nil=>fun d hd=>nomatch hd
 | _,_,_,.cons h1 h2=>by
  have a:=Tr.gd h1;have b:=Trl.gd h2;intro d hd;rcases Ao.mp hd with e | hd
  ·rw [e];exact a.mono ⋯
  ·exact (b d hd).mono ⋯
end
abbrev sz (d:PyData):Nat:=d.shown.length
theorem X9:∀ xs:List PyData,PyData.shownAll xs=xs.map PyData.shown
 | []=>rfl
 | x::r=>by rw [PyData.shownAll,X9 r];rfl
theorem Zb (xs:List PyData):sz (.tuple xs)≤(xs.map sz).sum+2*xs.length+3:=by
 have h:=tupleText_len_le (xs.map PyData.shown);rw [Ab,Bx] at h;have e:sz (.tuple xs)=(tupleText (xs.map PyData.shown)).length:=by
  show (PyData.shown (.tuple xs)).length=_;rw [PyData.shown,X9]
 rw [e];exact h
theorem qa9 {x:Str} {n:Nat} (h:PyData.strOk x=true) (hn:x.length≤n):sz (.str x)≤10*n+2:=by
 have q:=StrLaws.reprText_len x fun c hc=>by
  unfold PyData.strOk at h;rw [← Array.all_toList,A8] at h;have:=A3 (h c hc);omega
 have e:sz (.str x)=(reprText x).length:=by
  show (PyData.shown (.str x)).length=_;rw [PyData.shown]
 omega
theorem qcq {i:Int} (h:V3 i=true):i.natAbs.log2<1920:=by
 unfold V3 at h;rw [Ae] at h;have a:=A3 h.1;have b:=A3 h.2;have c:i.natAbs<2 ^ 1920:=Cf (show i.natAbs≤1000000000000 from ⋯) ∅
 by_cases z:i.natAbs=0
 ·rw [z];decide
 ·exact (Nat.log2_lt z).mpr c
theorem qjy {i:Int} (h:V3 i=true):sz (.int i)≤1921:=by
 have e:sz (.int i)=(Str.ofString (toString i)).length:=by
  show (PyData.shown (.int i)).length=_;rw [PyData.shown]
 rw [e];exact PyProof.Rows.int_text_len_1921 (qcq h)
theorem v9 {x:Str} (h:zn x=true):x.length≤8:=by
 unfold zn at h;rw [Ae,Ae] at h;exact A3 h.1.2
theorem Zc {t:PyData} (h:zm t=true):sz t≤82∧t.showable=true:=by
 cases t with
 | str x=>exact ⟨qa9 (vD h) (v9 h),rfl⟩
 | _=>cases h
theorem qfm {c:Nat}:∀ {xs:List PyData},(∀ x∈xs,sz x≤c)→(xs.map sz).sum≤c*xs.length
 | [],_=>Bw _
 | x::r,h=>by
  have a:=h x A5;have b:=qfm fun y hy=>h y (A9 _ hy);rw [Ba,Dy,Ak,Nat.mul_succ];omega
theorem qad:∀ {xs:List PyData},(∀ x∈xs,x.showable=true)→PyData.showableAll xs=true
 | [],_=>rfl
 | x::r,h=>by
  rw [PyData.showableAll,h x A5,qad fun y hy=>h y (A9 _ hy)];rfl
theorem Zd:∀ (xs:List PyData),(xs.map fun x=>sz x+2).sum=(xs.map sz).sum+2*xs.length
 | []=>rfl
 | x::r=>by
  rw [Ba,Dy,Zd r,Ba,Dy,Ak];omega
theorem wA {xs:List PyData} (h:∀ x∈xs,x.showable=true):(PyData.tuple xs).showable=true:=by
 rw [PyData.showable];exact qad h
theorem ql0 {t:PyData} {f:Str} (hs:qA t f=true) (hf:f∈vn) (hk:∀ z∈qj t f,z.1.showable=true):t.showable=true∧sz t≤2000+((qj t f).map fun z=>sz z.1+2).sum:=by
 simp only [vn,Ao,Bm,or_false] at hf;rcases hf with rfl | rfl | rfl | rfl | rfl | rfl | rfl | rfl
 ·rw [jN] at hs;cases t with
  | int i=>
   have:=qjy hs;exact ⟨by rw [PyData.showable];exact Al (qcq hs),⋯⟩
  | _=>cases hs
 ·rw [jc] at hs;obtain ⟨a,b⟩:=Zc hs;exact ⟨b,⋯⟩
 ·rw [JE] at hs;cases t with
  | str x=>
   have q:(zn x&&x !="any")=true:=hs;rw [Ae] at q;obtain ⟨a,b⟩:=Zc (t:= .str x) q.1;exact ⟨b,⋯⟩
  | _=>cases hs
 ·rw [JF] at hs;cases t with
  | str x=>
   have q:(VF.any fun y=>y==x)=true:=hs;obtain ⟨y,hy,e⟩:=Db.mp q;cases A4.mp e;have k:(VF.all fun y=>PyData.strOk y&&decide (y.length≤8))=true:=∅;have k':=A8.mp k _ hy;rw [Ae] at k';have:=qa9 k'.1 (A3 k'.2);exact ⟨rfl,⋯⟩
  | _=>cases hs
 ·rw [jF] at hs;cases t with
  | tuple xs=>
   simp only [areNames,Ae] at hs;have l4:=A3 hs.1.1;have q:∀ x∈xs,sz x≤82∧x.showable=true:=fun x hx=>Zc (A8.mp hs.1.2 x hx);have a:=Zb xs;have b:=qfm fun x hx=>(q x hx).1;exact ⟨wA fun x hx=>(q x hx).2,⋯⟩
  | _=>cases hs
 ·rw [jE] at hs;cases t with
  | tuple xs=>
   rw [Vm] at hk ⊢;rw [Bx];have a:=Zb xs;have b:=Zd xs;have e:((fun z:PyData×Str=>sz z.1+2) ∘ fun x:PyData=>(x,("term":Str)))=fun x=>sz x+2:=rfl;rw [e,b];exact ⟨wA fun x hx=>hk (x,"term") (B9 hx),⋯⟩
  | _=>cases hs
 ·rw [jl] at hs;cases t with
  | tuple xs=>
   rw [zk] at hk ⊢;rw [Bx];have a:=Zb xs;have b:=Zd xs;have e:((fun z:PyData×Str=>sz z.1+2) ∘ fun x:PyData=>(x,("statement":Str)))=fun x=>sz x+2:=rfl;rw [e,b];exact ⟨wA fun x hx=>hk (x,"statement") (B9 hx),⋯⟩
  | _=>cases hs
 ·rw [zj] at hk ⊢;refine ⟨hk (t,"term") A5,?_⟩;rw [Ba,Dy];show sz t≤2000+(sz t+2+_);omega
theorem qfl:∀ (l:List (PyData×Str)),(∀ p∈l,sz p.1≤2000+((qj p.1 p.2).map fun z=>sz z.1+2).sum)→(l.map fun p=>sz p.1).sum≤2000*l.length+((l.flatMap fun p=>qj p.1 p.2).map fun z=>sz z.1+2).sum
 | [],_=>Bw _
 | p::r,h=>by
  have a:=h p A5;have b:=qfl r fun q hq=>h q (A9 _ hq);rw [Ba,Dy,Ak,C1,Ah,List.sum_append];omega
theorem qix {d:PyData} {sh:Str} {hands:Bool} (h:qI d sh hands=true) (hk:∀ e∈qL d,e.showable=true):d.showable=true∧sz d+2≤10200+((qL d).map fun e=>sz e+2).sum:=by
 obtain ⟨hd,ts,fs,l,rfl,_,_,e,h5,hl,hs,_⟩:=qZ h;obtain ⟨k1,k2⟩:=Vh _ (Bq e);have hh:hd.length≤8:=by
  have k:(forms.all fun p=>decide (p.1.length≤8))=true:=∅;exact A3 (A8.mp k _ (Bq e))
 have q:∀ p∈ts.zip fs,p.1.showable=true∧sz p.1≤2000+((qj p.1 p.2).map fun z=>sz z.1+2).sum:=fun p hp=>by
  refine ql0 (hs p hp) (k2 _ (Dg hp).2) fun z hz=>hk z.1 ?_;unfold qL;refine B9 ?_;rw [qY e];exact Cj.mpr ⟨_,hp,hz⟩
 have ez:(ts.zip fs).map (·.1)=ts:=List.map_fst_zip ⋯;refine ⟨wA fun x hx=>?_,?_⟩
 ·rcases Ao.mp hx with rfl | hx
  ·rfl
  ·rw [← ez] at hx;obtain ⟨p,hp,rfl⟩:=Bt.mp hx;exact (q p hp).1
 ·have a:=Zb (.str hd::ts);have b:=qfl (ts.zip fs) fun p hp=>(q p hp).2;have c:sz (.str hd)≤82:=qa9 k1 hh;have e2:((ts.zip fs).map fun p=>sz p.1)=ts.map sz:=by
   rw [← ez,Bx]
   congr 1
   rw [ez]
  have e3:((qL (.tuple (.str hd::ts))).map fun e=>sz e+2)=(((ts.zip fs).flatMap fun p=>qj p.1 p.2).map fun z=>sz z.1+2):=by
   unfold qL;rw [qY e,Bx];rfl
  rw [e2,Ee] at b;rw [Ba,Dy,Ak] at a;rw [e3];omega
mutual
theorem Tr.sz:∀ {d:PyData} {s t:Nat},Tr d s t→d.showable=true∧Tre.sz d+2≤10200*s
 | _,_,_,.mk hf h=>by
  obtain ⟨a,b⟩:=Trl.sz h;obtain ⟨c,e⟩:=qix hf a;exact ⟨c,⋯⟩
theorem Trl.sz:∀ {ds:List PyData} {s t:Nat},Trl ds s t→(∀ d∈ds,d.showable=true)∧(ds.map fun e=>Tre.sz e+2).sum≤10200*s
 | _,_,_,.nil=>⟨fun d hd=>(nomatch hd),Bw _⟩
 | _,_,_,.cons h1 h2=>by
  obtain ⟨a,b⟩:=Tr.sz h1;obtain ⟨c,e⟩:=Trl.sz h2;refine ⟨fun d hd=>?_,?_⟩
  ·rcases Ao.mp hd with z | hd
   ·rw [z];exact a
   ·exact c d hd
  ·rw [Ba,Dy];omega
end
theorem qcu:∀ {xs:List PyData},PyData.canLayAll0 xs=true→zH xs=true→∀ x∈xs,x.canLay0=true∧noL x=true
 | [],_,_,_,hx=>nomatch hx
 | y::r,h,n,x,hx=>by
  rw [PyData.canLayAll0,Ae] at h;rw [zH,Ae] at n;rcases Ao.mp hx with rfl | hx
  ·exact ⟨h.1,n.1⟩
  ·exact qcu h.2 n.2 x hx
theorem Gd.mem {n:Nat} {xs:List PyData} (h:Gd n (.tuple xs)):∀ x∈xs,Gd n x:=fun x hx=>by
 have a:=h.lay;have b:=h.nol;have c:=h.dep;rw [PyData.canLay0] at a;rw [noL] at b;rw [PyData.depth] at c;obtain ⟨d,e⟩:=qcu a b x hx;exact ⟨e,d,by have:=PyData.depth_le_depthAll xs x hx;omega⟩
theorem Gd.shaped {n:Nat} {d:PyData} (h:Gd n d) (hn:n≤64):SeqAt.shaped d=true:=by
 unfold SeqAt.shaped;rw [h.lay,Al (A0 h.dep hn)];rfl
def wT:PyData→Bool
 | .tuple (.str _::_)=>true
 | _=>false
def jx:PyData→Bool
 | .tuple _=>true
 | _=>false
def holds (h:Str):Bool:=h=="main"||(h=="fun"||h=="loop")
theorem wX {d:PyData} {sh:Str} {hands:Bool} (h:qI d sh hands=true):wT d=true∧jx d=true:=by
 obtain ⟨hd,ts,fs,l,rfl,_⟩:=qZ h;exact ⟨rfl,rfl⟩
theorem Q1:∀ p∈forms,∀ f∈p.2,(f="names"→holds p.1=true)∧(f="term"→holds p.1=false):=by
 have h:(forms.all fun p=>p.2.all fun f=>(f !="names"||holds p.1)&&(f !="term"||!holds p.1))=true:=∅;intro p hp f hf;have q:=A8.mp (A8.mp h p hp) f hf;rw [Ae,B6,B6,bne_iff_ne,bne_iff_ne,Ev] at q;exact ⟨fun e=>q.1.resolve_left fun n=>n e,fun e=>q.2.resolve_left fun n=>n e⟩
theorem qfn {xs:List PyData} (h:xs.all zm=true):xs.filter jx=[]:=by
 rw [List.filter_eq_nil_iff];intro x hx z;have q:=A8.mp h x hx;cases x with
 | tuple _=>cases q
 | _=>cases z
theorem qcd {xs:List PyData} (h:∀ x∈xs,jx x=true):xs.filter jx=xs:=List.filter_eq_self.mpr h
theorem qco {xs:List PyData} (h:∀ x∈xs,jx x=true):wT (.tuple xs)=false:=by
 cases xs with
 | nil=>rfl
 | cons x r=>
  have q:=h x A5;cases x with
  | tuple _=>rfl
  | _=>cases q
theorem qis {h:Str} {fs:List Str} (e:forms.lookup h=some fs) {t:PyData} {f:Str} (hf:f∈fs) (hs:qA t f=true) (hk:∀ z∈qj t f,∃ sh hands,qI z.1 sh hands=true):
  (jx t=false∧(qj t f).map (·.1)=[])∨(wT t=true∧holds h=false∧(qj t f).map (·.1)=[t])∨(∃ xs,t= .tuple xs∧(wT t&&!holds h)=false∧xs.length≤12∧(qj t f).map (·.1)=xs.filter jx):=by
 obtain ⟨n1,n2⟩:=Q1 _ (Bq e) f hf;have hf':=(Vh _ (Bq e)).2 f hf;simp only [vn,Ao,Bm,or_false] at hf';rcases hf' with rfl | rfl | rfl | rfl | rfl | rfl | rfl | rfl
 ·rw [jN] at hs;refine .inl ⟨?_,by rw [zt ∅];rfl⟩
  cases t with
  | int i=>rfl
  | _=>cases hs
 ·rw [jc] at hs;refine .inl ⟨?_,by rw [zt ∅];rfl⟩
  cases t with
  | str i=>rfl
  | _=>cases hs
 ·rw [JE] at hs;refine .inl ⟨?_,by rw [zt ∅];rfl⟩
  cases t with
  | str i=>rfl
  | _=>cases hs
 ·rw [JF] at hs;refine .inl ⟨?_,by rw [zt ∅];rfl⟩
  cases t with
  | str i=>rfl
  | _=>cases hs
 ·rw [jF] at hs;refine .inr (.inr ?_);cases t with
  | tuple xs=>
   simp only [areNames,Ae] at hs;refine ⟨xs,rfl,by rw [n1 rfl];exact D7 _,by have:=A3 hs.1.1;omega,?_⟩
   rw [zt ∅,qfn hs.1.2];rfl
  | _=>cases hs
 ·rw [jE] at hs;cases t with
  | tuple xs=>
   rw [Vm] at hk ⊢;have q:∀ x∈xs,jx x=true:=fun x hx=>by
    obtain ⟨sh,hands,hh⟩:=hk (x,"term") (B9 hx);exact (wX hh).2
   refine .inr (.inr ⟨xs,rfl,by rw [qco q];rfl,by have:=A3 hs;omega,?_⟩)
   rw [qcd q,Bx];exact Df _
  | _=>cases hs
 ·rw [jl] at hs;cases t with
  | tuple xs=>
   rw [zk] at hk ⊢;have q:∀ x∈xs,jx x=true:=fun x hx=>by
    obtain ⟨sh,hands,hh⟩:=hk (x,"statement") (B9 hx);exact (wX hh).2
   refine .inr (.inr ⟨xs,rfl,by rw [qco q];rfl,by have:=A3 hs;omega,?_⟩)
   rw [qcd q,Bx];exact Df _
  | _=>cases hs
 ·rw [zj] at hk ⊢;obtain ⟨sh,hands,hh⟩:=hk (t,"term") A5;exact .inr (.inl ⟨(wX hh).1,n2 rfl,rfl⟩)
def isFn (d:PyData):Bool:=holds (headOf d)
def fnOf:PyData→PyData→PyData
 | .tuple (h::a::b::_),o=> .tuple [h,a,b,o]
 | _,_=> .none
def qS (d o:PyData) (acc:List PyData):List PyData:=if isFn d=true then acc++[fnOf d o] else acc
def zy (d o:PyData) (acc:List PyData):PyData:=if isFn d=true then .int (acc.length:Nat) else o
def yK:Nat→PyData→PyData→List PyData→List PyData
 | 0,_,_,acc=>acc
 | n+1,d,o,acc=>(qL d).foldl (fun a e=>yK n e (zy d o acc) a) (qS d o acc)
structure Box (α:Type) where
 val:α
@[irreducible] def qfa:Box (Nat→PyData→PyData→List PyData→List PyData):=⟨yK⟩
def jJ (n:Nat) (d o:PyData) (acc:List PyData):List PyData:=qfa.val n d o acc
theorem yJ (n:Nat) (d o:PyData) (acc:List PyData):jJ n d o acc=yK n d o acc:=by
 unfold jJ qfa;rfl
theorem qa4 (d o:PyData) (acc:List PyData):jJ 0 d o acc=acc:=by
 rw [yJ,yK]
theorem jj (n:Nat) (d o:PyData) (acc:List PyData):jJ (n+1) d o acc=(qL d).foldl (fun a e=>jJ n e (zy d o acc) a) (qS d o acc):=by
 rw [yJ,yK]
 congr 1
 funext a e;rw [yJ]
abbrev jf (n:Nat) (ds:List PyData) (o:PyData) (acc:List PyData):List PyData:=ds.foldl (fun a e=>jJ n e o a) acc
theorem Trl.mem:∀ {ds:List PyData} {s t:Nat},Trl ds s t→∀ d∈ds,∃ s' t',Tr d s' t'∧s'≤s∧t'≤t:=by
 intro ds
 induction ds with
 | nil=>intro s t _ d hd;cases hd
 | cons e r ih=>
  intro s t h d hd;cases h with
  | @cons _ _ s1 t1 s2 t2 h1 h2=>
   rcases Ao.mp hd with rfl | hd
   ·exact ⟨s1,t1,h1,⋯,⋯⟩
   ·obtain ⟨s',t',a,b,c⟩:=ih h2 d hd;exact ⟨s',t',a,⋯,⋯⟩
theorem V9 {α β:Type} {f g:α→β→α}:∀ (l:List β) (a:α),(∀ e∈l,∀ a,f a e=g a e)→l.foldl f a=l.foldl g a
 | [],_,_=>rfl
 | e::r,a,h=>by
  rw [B4,B4,h e A5];exact V9 r _ fun e he=>h e (A9 _ he)
theorem Qg:∀ (n:Nat) {d:PyData} {s t:Nat} (o:PyData) (acc:List PyData),Tr d s t→t≤n→jJ n d o acc=jJ (n+1) d o acc
 | 0,d,s,t,o,acc,h,ht=>by
  cases h;omega
 | n+1,d,s,t,o,acc,h,ht=>by
  cases h with
  | mk hf tl=>
   rw [jj,jj];refine V9 _ _ fun e he a=>?_;obtain ⟨s',t',h',_,h2⟩:=tl.mem e he;exact Qg n _ _ h' ⋯
theorem VQ {d:PyData} {s t:Nat} {o:PyData} {acc:List PyData} (h:Tr d s t) (ht:t≤29):jJ 30 d o acc=jf 30 (qL d) (zy d o acc) (qS d o acc):=by
 cases h with
 | mk hf tl=>
  rw [jj];refine V9 _ _ fun e he a=>?_;obtain ⟨s',t',h',_,h2⟩:=tl.mem e he;exact Qg 29 _ _ h' ⋯
theorem qep:∀ p∈forms,holds p.1=true→p.2.length=2:=by
 have h:(forms.all fun p=>!holds p.1||decide (p.2.length=2))=true:=∅;intro p hp hh;have q:=A8.mp h p hp;rw [hh] at q;exact A3 q
theorem qc4 {d:PyData} {sh:Str} {hands:Bool} (h:qI d sh hands=true) (hh:isFn d=true):∃ hd a b,d= .tuple [.str hd,a,b]∧holds hd=true:=by
 obtain ⟨hd,ts,fs,l,rfl,_,_,e,_,hl,_⟩:=qZ h;have h2:=qep _ (Bq e) hh
 match ts,hl with
 | [a,b],_=>exact ⟨hd,a,b,rfl,hh⟩
 | [],z=>rw [h2] at z;cases z
 | [_],z=>rw [h2] at z;cases z
 | _::_::_::_,z=>rw [h2] at z;cases z
def Fn (e:PyData):Prop:=∃ h a b o,e= .tuple [.str h,a,b,o]∧Gd 60 e
def FnI (e:PyData):Prop:=∃ h a b k,e= .tuple [.str h,a,b,.int k]
structure Acc (acc:List PyData):Prop where
 all:∀ e∈acc,Fn e
 tail:∀ e∈acc.tail,FnI e
theorem qc5 {d o:PyData} {s t:Nat} (h:Tr d s t) (hh:isFn d=true) (ht:t≤29) (ho:Gd 0 o):Fn (fnOf d o):=by
 have g:=h.gd;cases h with
 | mk hf _=>
  obtain ⟨hd,a,b,rfl,_⟩:=qc4 hf hh;refine ⟨hd,a,b,o,rfl,(Yk (n:=59) fun x hx=>?_)⟩;have q:∀ x∈[.str hd,a,b],Gd 59 x:=fun x hx=>(g.mem x hx).mono ⋯;simp only [Ao,Bm,or_false] at hx;rcases hx with rfl | rfl | rfl | rfl
  ·exact q _ (by simp)
  ·exact q _ (by simp)
  ·exact q _ (by simp)
  ·exact ho.mono ⋯
theorem qaf {d:PyData} {s t:Nat} {k:Int} {acc:List PyData} (h:Tr d s t) (ht:t≤29) (hn:acc≠[]) (ha:Acc acc):Acc (qS d (.int k) acc)∧qS d (.int k) acc≠[]:=by
 unfold qS;split
 ·rename_i hh;refine ⟨⟨fun e he=>?_,fun e he=>?_⟩,by simp⟩
  ·rcases Az.mp he with he | he
   ·exact ha.all e he
   ·cases Am.mp he;exact qc5 h hh ht ZL
  ·rw [List.tail_append_of_ne_nil hn] at he;rcases Az.mp he with he | he
   ·exact ha.tail e he
   ·cases Am.mp he;cases h with
    | mk hf _=>
     obtain ⟨hd,a,b,rfl,_⟩:=qc4 hf hh;exact ⟨hd,a,b,k,rfl⟩
 ·exact ⟨ha,hn⟩
theorem qik (d:PyData) (k:Int) (acc:List PyData):∃ j,zy d (.int k) acc= .int j:=by
 unfold zy;split
 ·exact ⟨_,rfl⟩
 ·exact ⟨k,rfl⟩
theorem ZW (d o:PyData) (acc:List PyData):(qS d o acc).length≤acc.length+1:=by
 unfold qS;split
 ·simp
 ·omega
theorem vi:∀ (ds:List PyData) (o:PyData) (acc:List PyData),jf 0 ds o acc=acc
 | [],_,_=>rfl
 | d::r,o,acc=>by
  show List.foldl _ (jJ 0 d o acc) r=acc;rw [qa4];exact vi r o acc
theorem Yr:∀ (n:Nat) {ds:List PyData} {s t:Nat} (k:Int) (acc:List PyData),Trl ds s t→t≤29→acc≠[]→Acc acc→Acc (jf n ds (.int k) acc)∧jf n ds (.int k) acc≠[]∧(jf n ds (.int k) acc).length≤acc.length+s
 | 0,ds,s,t,k,acc,h,ht,hn,ha=>by
  have e:=vi ds (.int k) acc;rw [e];exact ⟨ha,hn,⋯⟩
 | n+1,ds,s,t,k,acc,h,ht,hn,ha=>by
  induction ds generalizing s t acc with
  | nil=>
   cases h;exact ⟨ha,hn,Ag _⟩
  | cons d r ih=>
   cases h with
   | @cons _ _ s1 t1 s2 t2 h1 h2=>
    unfold jf;rw [B4,jj];obtain ⟨a1,a2⟩:=qaf (k:=k) h1 ⋯ hn ha;obtain ⟨j,ej⟩:=qik d k acc;have al:=ZW d (.int k) acc;cases h1 with
    | @mk _ sh hands s0 t0 hf tl=>
     obtain ⟨b1,b2,b3⟩:=Yr n j (qS d (.int k) acc) tl ⋯ a2 a1;rw [ej];obtain ⟨c1,c2,c3⟩:=ih _ _ (jf n (qL d) (.int j) (qS d (.int k) acc)) h2 ⋯ b2 b1;exact ⟨c1,c2,by show List.length (jf (n+1) r (.int k) (jf n (qL d) (.int j) (qS d (.int k) acc)))≤_;omega⟩
abbrev funs (d:PyData):List PyData:=jJ 30 d .none []
theorem Vv {d:PyData} {s t:Nat} (h:Pt d "program" false s t) (ht:t≤20):(∃ a b,d= .tuple [.str "main",a,b]∧funs d=jf 30 (qL d) (.int 0) [.tuple [.str "main",a,b,.none]])∧Acc (funs d)∧(funs d).length≤s:=by
 have tr:=h.tr;cases h with
 | @mk _ _ _ s t hf _=>
  obtain ⟨hd,ts,fs,l,rfl,e1,e2,_⟩:=qZ hf;have hm:hd="main":=by
   have q:heads.lookup ("program":Str)=some (["main"]:List Str):=∅;rw [q] at e1;cases e1;simpa using e2
  subst hm;have hh:isFn (.tuple (.str "main"::ts))=true:=(∅:holds "main"=true);obtain ⟨hd,a,b,e,_⟩:=qc4 hf hh;cases e;have ev:funs (.tuple [.str "main",a,b])=jf 30 (qL (.tuple [.str "main",a,b])) (.int 0) [.tuple [.str "main",a,b,.none]]:=by
   show jJ 30 _ _ _=_;rw [VQ tr ⋯];unfold zy qS;rw [if_pos hh,if_pos hh];rfl
  have fn:=qc5 (o:= .none) tr hh ⋯ ⟨rfl,rfl,Bw _⟩;refine ⟨⟨a,b,rfl,ev⟩,?_⟩;rw [ev];cases tr with
  | @mk _ sh hands s0 t0 hf2 tl=>
   obtain ⟨c1,_,c3⟩:=Yr 30 0 [.tuple [.str "main",a,b,.none]] tl ⋯ (by simp) ⟨fun e he=>by
    cases Am.mp he;exact fn,fun e he=>by cases he⟩
   exact ⟨c1,by rw [Av] at c3;omega⟩
inductive Stk:List (PyData×PyData)→Nat→Prop
 | nil:Stk [] 0
 | cons {d o:PyData} {r:List (PyData×PyData)} {s t m:Nat}:Tr d s t→t≤20→Gd 0 o→Stk r m→Stk ((d,o)::r) (s+m)
abbrev qae (tops:List (PyData×PyData)) (acc:List PyData):List PyData:=tops.foldl (fun a p=>jJ 30 p.1 p.2 a) acc
theorem Stk.push {o:PyData} (ho:Gd 0 o) {r:List (PyData×PyData)} {m:Nat} (hr:Stk r m):∀ {ds:List PyData} {s t:Nat},Trl ds s t→t≤20→Stk (ds.map (fun e=>(e,o))++r) (s+m):=by
 intro ds
 induction ds with
 | nil=>intro s t h _;cases h;simpa using hr
 | cons d q ih=>
  intro s t h ht;cases h with
  | @cons _ _ s1 t1 s2 t2 h1 h2=>
   have:=Stk.cons h1 ⋯ ho (ih h2 ⋯);rw [Ba,C4,Ey];exact this
theorem qb1 (ds:List PyData) (o:PyData) (r:List (PyData×PyData)) (acc:List PyData):qae (ds.map (fun e=>(e,o))++r) acc=qae r (jf 30 ds o acc):=by
 unfold qae jf;rw [Eg,List.foldl_map]
abbrev wk (p:PyData×PyData):PyData:= .tuple [p.1,p.2]
theorem Stk.len:∀ {tops:List (PyData×PyData)} {m:Nat},Stk tops m→tops.length≤m:=by
 intro tops
 induction tops with
 | nil=>intro m _;exact Bw _
 | cons p r ih=>
  intro m h;cases h with
  | cons h1 _ _ h2=>
   have:=ih h2;cases h1;rw [Ak];omega
theorem Stk.nol:∀ {tops:List (PyData×PyData)} {m:Nat},Stk tops m→zH (tops.map wk)=true:=by
 intro tops
 induction tops with
 | nil=>intro m _;rfl
 | cons p r ih=>
  intro m h;cases h with
  | cons h1 _ h0 h2=>
   rw [Ba,zH,ih h2,Bool.and_true];show noL (.tuple [_,_])=true;rw [noL,zH,zH,zH,h1.gd.nol,h0.nol];rfl
def Vk (h:Str):Bool:=h=="if"||(h=="while"||h=="try")
mutual
def brS:PyData→List Str
 | .tuple (.str h::t::r)=>(if h=="let" then [txt t] else [])++zP h 1 (t::r)
 | _=>[]
def zP (h:Str):Nat→List PyData→List Str
 | _,[]=>[]
 | k,t::r=>(if h=="try"&&k==3 then [txt t] else [])++((if Vk h&&(jx t&&(decide (1<k)||h=="try")) then brB t else [])++zP h (k+1) r)
def brB:PyData→List Str
 | .tuple xs=>brL xs
 | _=>[]
def brL:List PyData→List Str
 | []=>[]
 | x::r=>brS x++brL r
end
theorem brL_append:∀ (a b:List PyData),brL (a++b)=brL a++brL b
 | [],b=>by rw [Bv,brL,Bv]
 | x::r,b=>by rw [C4,brL,brL,brL_append r b,Bi]
theorem XD (xs:List PyData):jx (.tuple xs)=true:=rfl
theorem qji (x:Str):jx (.str x)=false:=rfl
theorem ZU (a b:PyData):brS (.tuple [.str "let",a,b])=[txt a]:=by
 rw [brS,zP,zP,zP,if_pos ∅,if_neg ∅,if_neg (by rw [show Vk "let"=false from ∅,Cz];exact Ai),if_neg ∅,if_neg (by rw [show Vk "let"=false from ∅,Cz];exact Ai)]
 rfl
theorem qdj (a:PyData) (xs ys:List PyData):brS (.tuple [.str "if",a,.tuple xs,.tuple ys])=brL xs++brL ys:=by
 rw [brS,zP,zP,zP,zP,XD,XD,if_neg ∅,if_neg ∅,if_neg (show ¬ ((Vk "if"&&(jx a&&(decide (1<1)||(("if":Str)=="try"))))=true) by
  rw [show (decide (1<1)||(("if":Str)=="try"))=false from ∅,D7,D7];exact Ai),if_neg ∅,if_pos ∅,if_neg ∅,if_pos ∅,brB,brB]
 simp
theorem wy (a:PyData) (xs:List PyData):brS (.tuple [.str "while",a,.tuple xs])=brL xs:=by
 rw [brS,zP,zP,zP,XD,if_neg ∅,if_neg ∅,if_neg (show ¬ ((Vk "while"&&(jx a&&(decide (1<1)||(("while":Str)=="try"))))=true) by
  rw [show (decide (1<1)||(("while":Str)=="try"))=false from ∅,D7,D7];exact Ai),if_neg ∅,if_pos ∅,brB]
 simp
theorem ZT (b c:Str) (xs ys zs:List PyData):brS (.tuple [.str "try",.tuple xs,.str b,.str c,.tuple ys,.tuple zs])=brL xs++(c::(brL ys++brL zs)):=by
 rw [brS,zP,zP,zP,zP,zP,zP,XD,XD,XD,qji,qji,if_neg ∅,if_neg ∅,if_pos ∅,if_neg ∅,if_neg ∅,if_pos ∅,if_neg ∅,if_neg ∅,if_pos ∅,if_neg ∅,if_pos ∅,brB,brB,brB];simp [txt]
theorem X4 {h:Str} (hc:Vk h=false):∀ (ts:List PyData) (k:Nat),zP h k ts=[]
 | [],k=>by rw [zP]
 | t::r,k=>by
  have ht:(h=="try")=false:=by
   unfold Vk at hc;rw [Em,Em] at hc;exact hc.2.2
  rw [zP,X4 hc r,hc,ht];rfl
theorem qiz {h:Str} {ts:List PyData} (hl:(h=="let")=false) (hc:Vk h=false):brS (.tuple (.str h::ts))=[]:=by
 cases ts with
 | nil=>rw [brS];intro h t r z;cases z
 | cons t r=>rw [brS,hl,X4 hc];rfl
def own:PyData→List Str
 | .tuple (.str h::t::_)=>if h=="name"||h=="set" then [txt t] else []
 | _=>[]
def wV (d:PyData):Bool:=headOf d=="fun"||headOf d=="loop"
def WH:Nat→PyData→List Str
 | 0,_=>[]
 | n+1,d=>if wV d=true then [] else own d++(qL d).flatMap (WH n)
@[irreducible] def qjc:Box (Nat→PyData→List Str):=⟨WH⟩
def jd (n:Nat) (d:PyData):List Str:=qjc.val n d
theorem wa (n:Nat) (d:PyData):jd n d=WH n d:=by
 unfold jd qjc;rfl
theorem JC (n:Nat) (d:PyData):jd (n+1) d=if wV d=true then [] else own d++(qL d).flatMap (jd n):=by
 have e:jd n=WH n:=funext fun d=>wa n d;rw [wa,WH,e]
theorem wY {α β:Type} {f g:α→List β}:∀ (l:List α),(∀ e∈l,f e=g e)→l.flatMap f=l.flatMap g
 | [],_=>rfl
 | e::r,h=>by
  rw [C1,C1,h e A5,wY r fun e he=>h e (A9 _ he)]
theorem qb9:∀ (n:Nat) {d:PyData} {s t:Nat},Tr d s t→t≤n→jd n d=jd (n+1) d
 | 0,d,s,t,h,ht=>by
  cases h;omega
 | n+1,d,s,t,h,ht=>by
  cases h with
  | mk hf tl=>
   rw [JC,JC];rw [wY (qL d) fun e he=>?_];obtain ⟨s',t',h',_,h2⟩:=tl.mem e he;exact qb9 n h' ⋯
theorem XA {d:PyData} {s t:Nat} (h:Tr d s t) (ht:t≤29):jd 30 d=if wV d=true then [] else own d++(qL d).flatMap (jd 30):=by
 cases h with
 | mk hf tl=>
  rw [JC];rw [wY (qL d) fun e he=>?_];obtain ⟨s',t',h',_,h2⟩:=tl.mem e he;exact qb9 29 h' ⋯
theorem qkt {d:PyData} (h:wV d=true):own d=[]:=by
 unfold own;split
 ·rename_i hd t r;have e:headOf (.tuple (.str hd::t::r))=hd:=rfl;unfold wV at h;rw [e,B6,A4,A4] at h;rcases h with rfl | rfl <;> exact if_neg ∅
 ·rfl
theorem qks (d:PyData):(own d).length≤1:=by
 unfold own;split
 ·split <;> simp
 ·simp
mutual
theorem Tr.uses_le:∀ {d:PyData} {s t:Nat} (n:Nat),Tr d s t→(jd n d).length≤s
 | d,_,_,0,h=>by
  rw [wa,WH];exact Bw _
 | d,_,_,n+1,.mk hf tl=>by
  rw [JC];split
  ·exact Bw _
  ·rw [Ac];have a:=qks d;have b:=Trl.uses_le n tl;omega
theorem Trl.uses_le:∀ {ds:List PyData} {s t:Nat} (n:Nat),Trl ds s t→(ds.flatMap (jd n)).length≤s
 | _,_,_,n,.nil=>by simp
 | _,_,_,n,.cons h1 h2=>by
  rw [C1,Ac];have a:=Tr.uses_le n h1;have b:=Trl.uses_le n h2;omega
end
structure Row where
 names:List Str
 used:List Str
 outer:Option Nat
 kind:Str
def qu:PyData→List PyData
 | .tuple xs=>xs
 | _=>[]
def qd9:PyData→Option Nat
 | .int i=>some i.toNat
 | _=>none
def WM:PyData→Row
 | .tuple [h,a,b,o]=>⟨(qu a).map txt++brB b,(qu b).flatMap (jd 30),qd9 o,txt h⟩
 | _=>⟨[],[],none,""⟩
abbrev rows (fs:List PyData):List Row:=fs.map WM
def up (rs:List Row):Nat→Nat→Str→Option Nat
 | 0,_,_=>none
 | n+1,i,x=>match rs[i]? with
  | none=>none
  | some r=>if r.names.contains x=true then some i else match r.outer with
   | none=>none
   | some j=>up rs n j x
def zI (rs:List Row) (i:Nat) (x:Str):Option Nat:=up rs (i+1) i x
def Vp (rs:List Row):Prop:=∀ (i:Nat) (r:Row),rs[i]?=some r→∀ j,r.outer=some j→j<i
theorem qcb {rs:List Row} (ho:Vp rs) {x:Str}:∀ (n m i:Nat),i<n→i<m→up rs n i x=up rs m i x
 | 0,_,_,h,_=>absurd h (Nat.not_lt_zero _)
 | _,0,_,_,h=>absurd h (Nat.not_lt_zero _)
 | n+1,m+1,i,h1,h2=>by
  rw [up,up];cases e:rs[i]? with
  | none=>rfl
  | some r=>
   dsimp only;split
   ·rfl
   ·cases e2:r.outer with
    | none=>rfl
    | some j=>
     have:=ho i r e j e2;exact qcb ho n m j ⋯ ⋯
theorem JD {rs:List Row} (ho:Vp rs) {i:Nat} {r:Row} {x:Str} (e:rs[i]?=some r):zI rs i x=if r.names.contains x=true then some i else match r.outer with
   | none=>none
   | some j=>zI rs j x:=by
 unfold zI;rw [up,e];dsimp only;split
 ·rfl
 ·cases e2:r.outer with
  | none=>rfl
  | some j=>
   have:=ho i r e j e2;exact qcb ho _ _ j ⋯ ⋯
theorem V8 {rs:List Row} {x:Str}:∀ (n i:Nat) {k:Nat},up rs n i x=some k→∃ r,rs[k]?=some r∧r.names.contains x=true
 | 0,_,_,h=>by cases h
 | n+1,i,k,h=>by
  rw [up] at h;cases e:rs[i]? with
  | none=>rw [e] at h;cases h
  | some r=>
   rw [e] at h;dsimp only at h;split at h
   ·rename_i hc;cases h;exact ⟨r,e,hc⟩
   ·cases e2:r.outer with
    | none=>rw [e2] at h;cases h
    | some j=>rw [e2] at h;exact V8 n j h
def jK:List Str→List Str→List Str
 | _,[]=>[]
 | seen,x::r=>if seen.contains x=true then x::jK (seen++[x]) r else jK (seen++[x]) r
def ZD (rs:List Row) (i:Nat) (l:List Str):List Str:=l.filter fun x=>(zI rs i x).isNone
def bad (rs:List Row) (i:Nat) (r:Row):List Str:=jK [] r.names++ZD rs i r.used
def j7 (rs:List Row):Nat→List Row→Option Str
 | _,[]=>none
 | i,r::q=>match bad rs i r with
  | []=>j7 rs (i+1) q
  | x::_=>some x
def Qf (rs:List Row):Option Str:=j7 rs 0 rs
theorem XC:∀ (l seen:List Str),jK seen l=[]→seen.Nodup→(seen++l).Nodup
 | [],seen,_,h=>by rw [An];exact h
 | x::r,seen,h,hs=>by
  rw [jK] at h;split at h
  ·cases h
  ·rename_i hc;have e:seen++x::r=(seen++[x])++r:=by rw [Bi];rfl
   rw [e];refine XC r (seen++[x]) h ?_;rw [D1];refine ⟨hs,by simp,fun a ha b hb=>?_⟩
   cases Am.mp hb;intro z;subst z;exact hc (B2.mpr ha)
theorem vj {rs:List Row}:∀ (l:List Row) (i:Nat),j7 rs i l=none→∀ k r,l[k]?=some r→bad rs (i+k) r=[]
 | [],i,_,k,r,h=>by simp at h
 | q::l,i,h,k,r,hk=>by
  rw [j7] at h;cases e:bad rs i q with
  | cons x y=>rw [e] at h;cases h
  | nil=>
   rw [e] at h;cases k with
   | zero=>cases hk;exact e
   | succ k=>
    rw [C6] at hk;have:=vj l (i+1) h k r hk;rw [show i+(k+1)=i+1+k from ⋯];exact this
structure FnW (e:PyData) (i:Nat):Prop where
 ex:∃ h ns xs o s t,e= .tuple [.str h,.tuple ns,.tuple xs,o]∧ns.all zm=true∧ns.length≤4∧Trl xs s t∧s≤300∧t≤20∧(o= .none∨∃ j:Nat,o= .int (j:Nat)∧j<i)
def qa3 (acc:List PyData):Prop:=∀ i e,acc[i]?=some e→FnW e i
def qa1 (o:PyData) (n:Nat):Prop:=o= .none∨∃ j:Nat,o= .int (j:Nat)∧j<n
theorem qg6:∀ p∈forms,holds p.1=true→p.2=(["names","body"]:List Str):=by
 have h:(forms.all fun p=>!holds p.1||decide (p.2=(["names","body"]:List Str)))=true:=∅;intro p hp hh;have q:=A8.mp h p hp;rw [hh] at q;exact A3 q
theorem wu {d:PyData} {sh:Str} {hands:Bool} (h:qI d sh hands=true) (hh:isFn d=true):∃ hd ns xs,d= .tuple [.str hd,.tuple ns,.tuple xs]∧ns.all zm=true∧ns.length≤4∧qL d=xs:=by
 obtain ⟨hd,ts,fs,l,rfl,_,_,e,_,hl,hs,_⟩:=qZ h;have h2:=qg6 _ (Bq e) hh;dsimp only at h2;subst h2
 match ts,hl with
 | [a,b],_=>
  have ha:=hs (a,"names") (by simp)
  have hb:=hs (b,"body") (by simp)
  dsimp only at ha hb;rw [jF] at ha;rw [jl] at hb;cases a with
  | tuple ns=>
   cases b with
   | tuple xs=>
    simp only [areNames,Ae] at ha;refine ⟨hd,ns,xs,rfl,ha.1.2,A3 ha.1.1,?_⟩;unfold qL;rw [qY e];show ((qj _ _++(qj _ _++[])).map _)=xs;rw [zt (sh:="names") ∅,zk,Bv,An,Bx];exact Df _
   | _=>cases hb
  | _=>cases ha
theorem VB {d o:PyData} {s t:Nat} {acc:List PyData} (h:Tr d s t) (hs:s≤300) (ht:t≤20) (ho:qa1 o acc.length) (ha:qa3 acc):qa3 (qS d o acc)∧qa1 (zy d o acc) (qS d o acc).length∧acc.length≤(qS d o acc).length:=by
 unfold qS zy;split
 ·rename_i hh;cases h with
  | @mk _ sh hands s0 t0 hf tl=>
   obtain ⟨hd,ns,xs,rfl,h1,h2,h3⟩:=wu hf hh;refine ⟨fun i e he=>?_,.inr ⟨acc.length,rfl,by simp⟩,by simp⟩
   by_cases hi:i<acc.length
   ·rw [Bp hi] at he;exact ha i e he
   ·rw [Bl ⋯] at he;have hz:i - acc.length=0:=by
     cases q:i - acc.length with
     | zero=>rfl
     | succ k=>rw [q] at he;simp at he
    have hi2:i=acc.length:=⋯;rw [hz] at he;cases he;rw [h3] at tl;subst hi2;exact ⟨hd,ns,xs,o,s0,t0,rfl,h1,h2,tl,⋯,⋯,ho⟩
 ·exact ⟨ha,ho,Ag _⟩
theorem qa1.mono {o:PyData} {n m:Nat} (h:qa1 o n) (hm:n≤m):qa1 o m:=by
 rcases h with h | ⟨j,e,h⟩
 ·exact .inl h
 ·exact .inr ⟨j,e,⋯⟩
theorem wZ:∀ (n:Nat) {ds:List PyData} {s t:Nat} (o:PyData) (acc:List PyData),Trl ds s t→s≤300→t≤20→qa1 o acc.length→qa3 acc→qa3 (jf n ds o acc)∧acc.length≤(jf n ds o acc).length
 | 0,ds,s,t,o,acc,h,hs,ht,ho,ha=>by
  have e:=vi ds o acc;rw [e];exact ⟨ha,Ag _⟩
 | n+1,ds,s,t,o,acc,h,hs,ht,ho,ha=>by
  induction ds generalizing s t acc with
  | nil=>exact ⟨ha,Ag _⟩
  | cons d r ih=>
   cases h with
   | @cons _ _ s1 t1 s2 t2 h1 h2=>
    unfold jf;rw [B4,jj];obtain ⟨a1,a2,a3⟩:=VB (o:=o) h1 ⋯ ⋯ ho ha;cases h1 with
    | @mk _ sh hands s0 t0 hf tl=>
     obtain ⟨b1,b2⟩:=wZ n (zy d o acc) (qS d o acc) tl ⋯ ⋯ a2 a1;obtain ⟨c1,c2⟩:=ih _ _ (jf n (qL d) (zy d o acc) (qS d o acc)) h2 ⋯ ⋯ (ho.mono ⋯) b1;exact ⟨c1,A0 a3 (A0 b2 c2)⟩
theorem X0 {d:PyData} {s t:Nat} (h:Pt d "program" false s t) (hs:s≤300) (ht:t≤20):qa3 (funs d):=by
 have tr:=h.tr;have e:funs d=jf 30 [d] .none []:=rfl;rw [e];have q:=wZ 30 (ds:=[d]) (s:=s+0) (t:=max t 0) .none [] (.cons tr .nil) ⋯ ⋯ (.inl rfl) (fun i e he=>by simp at he)
 exact q.1
theorem wg {fs:List PyData} (h:qa3 fs):Vp (rows fs):=by
 intro i r hr j hj;rw [Ar] at hr;cases e:fs[i]? with
 | none=>rw [e] at hr;cases hr
 | some d=>
  rw [e] at hr;obtain ⟨hd,ns,xs,o,s,t,rfl,_,_,_,_,_,ho⟩:=(h i d e).ex;cases hr;rcases ho with rfl | ⟨k,rfl,hk⟩
  ·cases hj
  ·have:((k:Nat):Int).toNat=j:=by
    have z:qd9 (.int (k:Nat))=some j:=hj;exact Bg z
   omega
theorem Trl.split:∀ {a b:List PyData} {s t:Nat},Trl (a++b) s t→∃ s1 t1 s2 t2,Trl a s1 t1∧Trl b s2 t2∧s=s1+s2∧t1≤t∧t2≤t
 | [],b,s,t,h=>⟨0,0,s,t,.nil,h,(Nat.zero_add _).symm,Bw _,Ag _⟩
 | x::a,b,_,_,.cons (s:=s0) (t:=t0) h1 h2=>by
  obtain ⟨s1,t1,s2,t2,p,q,e,l1,l2⟩:=Trl.split h2;exact ⟨s0+s1,max t0 t1,s2,t2,.cons h1 p,q,⋯,⋯,⋯⟩
inductive Stm:PyData→Nat→Nat→Prop
 | let_ {x:Str} {a:PyData} {s t:Nat}:zn x=true→Stm (.tuple [.str "let",.str x,a]) s t
 | if_ {a:PyData} {xs ys:List PyData} {s t s1 t1 s2 t2:Nat}:xs.length≤12→ys.length≤12→Trl xs s1 t1→Trl ys s2 t2→s1+s2<s→t1<t→t2<t→Stm (.tuple [.str "if",a,.tuple xs,.tuple ys]) s t
 | while_ {a:PyData} {xs:List PyData} {s t s1 t1:Nat}:xs.length≤12→Trl xs s1 t1→s1<s→t1<t→Stm (.tuple [.str "while",a,.tuple xs]) s t
 | try_ {b c:Str} {xs ys zs:List PyData} {s t s1 t1 s2 t2 s3 t3:Nat}:zn c=true→xs.length≤12→ys.length≤12→zs.length≤12→Trl xs s1 t1→Trl ys s2 t2→Trl zs s3 t3→s1+s2+s3<s→t1<t→t2<t→t3<t→Stm (.tuple [.str "try",.tuple xs,.str b,.str c,.tuple ys,.tuple zs]) s t
 | else_ {hd:Str} {ts:List PyData} {s t:Nat}:hd≠"let"→hd≠"if"→hd≠"while"→hd≠"try"→ts≠[]→Stm (.tuple (.str hd::ts)) s t
theorem VA {d:PyData} (h:qA d "body"=true):∃ xs,d= .tuple xs∧xs.length≤12:=by
 rw [jl] at h;cases d with
 | tuple xs=>exact ⟨xs,rfl,A3 h⟩
 | _=>cases h
theorem yF {d:PyData} (h:qA d "name"=true):∃ x,d= .str x∧zn x=true:=by
 rw [jc] at h;cases d with
 | str x=>exact ⟨x,rfl,h⟩
 | _=>cases h
theorem ji {u:Str} (xs:List PyData):(xs.map fun x=>(x,u)).map (·.1)=xs:=by
 rw [Bx];exact Df _
theorem wG {d:PyData} {s t:Nat} (h:Tr d s t):Stm d s t:=by
 cases h with
 | @mk _ sh hands s0 t0 hf tl=>
  obtain ⟨hd,ts,fs,l,rfl,_,_,e,_,hl,hs,_⟩:=qZ hf;have ek:qL (.tuple (.str hd::ts))=((ts.zip fs).flatMap fun p=>qj p.1 p.2).map (·.1):=by unfold qL;rw [qY e]
  rw [ek] at tl
  by_cases h1:hd="let"
  ·subst h1;have e2:forms.lookup ("let":Str)=some (["name","term"]:List Str):=∅;cases e.symm.trans e2
   match ts,hl,hs,tl with
   | [a,b],_,hs,tl=>
    obtain ⟨x,rfl,hx⟩:=yF (hs (a,"name") (by simp))
    exact .let_ hx
  by_cases h2:hd="if"
  ·subst h2;have e2:forms.lookup ("if":Str)=some (["term","body","body"]:List Str):=∅;cases e.symm.trans e2
   match ts,hl,hs,tl with
   | [a,b,c],_,hs,tl=>
    obtain ⟨xs,rfl,hx⟩:=VA (hs (b,"body") (by simp))
    obtain ⟨ys,rfl,hy⟩:=VA (hs (c,"body") (by simp))
    replace tl:Trl ((qj a "term"++(qj (.tuple xs) "body"++(qj (.tuple ys) "body"++[]))).map Prod.fst) s0 t0:=tl
    rw [zj,zk,zk,Ah,Ah,An,ji,ji] at tl;obtain ⟨s1,t1,s2,t2,p,q,e3,l1,l2⟩:=tl.split;obtain ⟨s3,t3,s4,t4,p2,q2,e4,l3,l4⟩:=q.split;exact .if_ hx hy p2 q2 ⋯ ⋯ ⋯
  by_cases h3:hd="while"
  ·subst h3;have e2:forms.lookup ("while":Str)=some (["term","body"]:List Str):=∅;cases e.symm.trans e2
   match ts,hl,hs,tl with
   | [a,b],_,hs,tl=>
    obtain ⟨xs,rfl,hx⟩:=VA (hs (b,"body") (by simp))
    replace tl:Trl ((qj a "term"++(qj (.tuple xs) "body"++[])).map Prod.fst) s0 t0:=tl
    rw [zj,zk,Ah,An,ji] at tl;obtain ⟨s1,t1,s2,t2,p,q,e3,l1,l2⟩:=tl.split;exact .while_ hx q ⋯ ⋯
  by_cases h4:hd="try"
  ·subst h4;have e2:forms.lookup ("try":Str)=some (["body","name","name","body","body"]:List Str):=∅;cases e.symm.trans e2
   match ts,hl,hs,tl with
   | [a,b,c,g,k],_,hs,tl=>
    obtain ⟨xs,rfl,hx⟩:=VA (hs (a,"body") (by simp))
    obtain ⟨b,rfl,_⟩:=yF (hs (b,"name") (by simp))
    obtain ⟨c,rfl,hc⟩:=yF (hs (c,"name") (by simp))
    obtain ⟨ys,rfl,hy⟩:=VA (hs (g,"body") (by simp))
    obtain ⟨zs,rfl,hz⟩:=VA (hs (k,"body") (by simp))
    replace tl:Trl ((qj (.tuple xs) "body"++(qj (.str b) "name"++(qj (.str c) "name"++(qj (.tuple ys) "body"++(qj (.tuple zs) "body"++[]))))).map Prod.fst) s0 t0:=tl
    rw [zk,zk,zk,zt (sh:="name") ∅,zt (sh:="name") ∅,Bv,Bv,Ah,Ah,An,ji,ji,ji] at tl;obtain ⟨s1,t1,s2,t2,p,q,e3,l1,l2⟩:=tl.split;obtain ⟨s3,t3,s4,t4,p2,q2,e4,l3,l4⟩:=q.split;exact .try_ hc hx hy hz p p2 q2 ⋯ ⋯ ⋯ ⋯
  refine .else_ h1 h2 h3 h4 fun z=>?_;subst z;have all:∀ p∈forms,p.2≠[]:=by
   have q:(forms.all fun p=>decide (p.2≠[]))=true:=∅;exact fun p hp=>A3 (A8.mp q p hp)
  have:=all _ (Bq e);cases fs with
  | nil=>exact this rfl
  | cons _ _=>cases hl
theorem Vw {hd:Str} {ts:List PyData} (h1:hd≠"let") (h2:hd≠"if") (h3:hd≠"while") (h4:hd≠"try"):brS (.tuple (.str hd::ts))=[]:=by
 refine qiz (Bk.mpr h1) ?_;unfold Vk;rw [Bk.mpr h2,Bk.mpr h3,Bk.mpr h4];rfl
theorem qlo {n:Nat} (IH:∀ {xs:List PyData} {s t:Nat},Trl xs s t→t≤n→(brL xs).length≤s) {x:PyData} {s0 t0:Nat} (h1:Tr x s0 t0) (ht:t0≤n+1):(brS x).length≤s0:=by
 have pos:0<s0:=by cases h1;omega
 cases wG h1 with
 | let_ _=>rw [ZU];exact pos
 | if_ _ _ p q e l1 l2=>
  have:=IH p ⋯;have:=IH q ⋯;rw [qdj,Ac];omega
 | while_ _ p e l1=>
  have:=IH p ⋯;rw [wy];omega
 | try_ _ _ _ _ p q r e l1 l2 l3=>
  have:=IH p ⋯;have:=IH q ⋯;have:=IH r ⋯;rw [ZT,Ac,Ak,Ac];omega
 | else_ k1 k2 k3 k4 _=>
  rw [Vw k1 k2 k3 k4];exact Bw _
theorem qhi {m:Nat} (E:∀ {x:PyData} {s t:Nat},Tr x s t→t≤m→(brS x).length≤s):∀ {xs:List PyData} {s t:Nat},Trl xs s t→t≤m→(brL xs).length≤s
 | [],_,_,_,_=>by
  rw [brL];exact Bw _
 | x::r,_,_,.cons h1 h2,ht=>by
  rw [brL,Ac];exact Nat.add_le_add (E h1 (A0 (Nat.le_max_left _ _) ht)) (qhi E h2 (A0 (Nat.le_max_right _ _) ht))
theorem Yx:∀ (n:Nat) {xs:List PyData} {s t:Nat},Trl xs s t→t≤n→(brL xs).length≤s
 | 0,xs,s,t,h,ht=>by
  have:t=0:=⋯;subst this;cases h.zero;exact Bw _
 | n+1,_,_,_,h,ht=>qhi (qlo (Yx n)) h ht
theorem yZ {hd:Str} {ts:List PyData} {s t:Nat} (h:Tr (.tuple (.str hd::ts)) s t) (hh:hd="name"∨hd="set"):∃ x r,ts= .str x::r∧zn x=true∧own (.tuple (.str hd::ts))=[x]:=by
 cases h with
 | @mk _ sh hands s0 t0 hf tl=>
  obtain ⟨_,_,fs,l,e0,_,_,e,_,hl,hs,_⟩:=qZ hf;cases e0;have e2:∃ q,fs=("name":Str)::q:=by
   rcases hh with rfl | rfl
   ·exact ⟨[],Bg (e.symm.trans ∅)⟩
   ·exact ⟨["term"],Bg (e.symm.trans ∅)⟩
  obtain ⟨q,rfl⟩:=e2;cases ts with
  | nil=>cases hl
  | cons a r=>
   obtain ⟨x,rfl,hx⟩:=yF (hs (a,"name") (by simp))
   refine ⟨x,r,rfl,hx,?_⟩;show (if _ then _ else _)=_
   rw [if_pos (by rw [B6,A4,A4];exact hh)]
   rfl
theorem wl {hd:Str} {ts:List PyData} (hh:¬ (hd="name"∨hd="set")):own (.tuple (.str hd::ts))=[]:=by
 cases ts with
 | nil=>rfl
 | cons a r=>
  show (if _ then _ else _)=_
  rw [if_neg (by rw [B6,A4,A4];exact hh)]
theorem wU (hd:Str) (ts:List PyData):wV (.tuple (.str hd::ts))=(hd=="fun"||hd=="loop"):=rfl
def qdm (h:Str) (k:Nat) (t:PyData):List Str:=(if h=="try"&&k==3 then [txt t] else [])++(if Vk h&&(jx t&&(decide (1<k)||h=="try")) then brB t else [])
theorem X3 (h:Str) (t:PyData):∀ (l:List PyData) (k:Nat),zP h k (l++[t])=zP h k l++qdm h (k+l.length) t
 | [],k=>by
  rw [Bv,zP,zP,zP,Bv,An];rfl
 | y::r,k=>by
  rw [C4,zP,zP,X3 h t r (k+1),Bi,Bi,Ak]
  congr 3
  rw [show k+1+r.length=k+(r.length+1) from ⋯]
theorem WW (h:Str) (b:List PyData):∀ (a:List PyData) (k:Nat),zP h k (a++b)=zP h k a++zP h (k+a.length) b
 | [],k=>by
  rw [Bv,zP,Bv];rfl
 | y::r,k=>by
  rw [C4,zP,zP,WW h b r (k+1),Bi,Bi,Ak,show k+1+r.length=k+(r.length+1) from ⋯]
theorem qls {hd:Str} {ts xs:List PyData} {s t j:Nat} (h:Tr (.tuple (.str hd::ts)) s t) (hc:Vk hd=true) (hj:ts[j]?=some (.tuple xs)) (hk:0<j∨hd="try"):∃ s' t',Trl xs s' t'∧s'≤s∧t'<t:=by
 have no:∀ {a b:Str},a≠b→¬ a=b:=fun h=>h;have st:=wG h;generalize hd':PyData.tuple (.str hd::ts)=d at st;cases st with
 | let_ _=>cases hd';exact absurd hc ∅
 | if_ _ _ p q e l1 l2=>
  cases hd'
  match j,hj with
  | 0,hj=>rcases hk with hk | hk <;> first | omega | exact absurd hk ∅
  | 1,hj=>cases hj;exact ⟨_,_,p,⋯,⋯⟩
  | 2,hj=>cases hj;exact ⟨_,_,q,⋯,⋯⟩
  | j+3,hj=>simp at hj
 | while_ _ p e l1=>
  cases hd'
  match j,hj with
  | 0,hj=>rcases hk with hk | hk <;> first | omega | exact absurd hk ∅
  | 1,hj=>cases hj;exact ⟨_,_,p,⋯,⋯⟩
  | j+2,hj=>simp at hj
 | try_ _ _ _ _ p q r e l1 l2 l3=>
  cases hd'
  match j,hj with
  | 0,hj=>cases hj;exact ⟨_,_,p,⋯,⋯⟩
  | 1,hj=>cases hj
  | 2,hj=>cases hj
  | 3,hj=>cases hj;exact ⟨_,_,q,⋯,⋯⟩
  | 4,hj=>cases hj;exact ⟨_,_,r,⋯,⋯⟩
  | j+5,hj=>simp at hj
 | else_ k1 k2 k3 k4 _=>
  cases hd';unfold Vk at hc;rw [Bk.mpr k2,Bk.mpr k3,Bk.mpr k4] at hc;cases hc
theorem qdw {ts:List PyData} {s t:Nat} (h:Tr (.tuple (.str "try"::ts)) s t):∃ c,ts[2]?=some (.str c):=by
 have st:=wG h;generalize hd':PyData.tuple (.str "try"::ts)=d at st;cases st with
 | let_ _=>cases hd'
 | if_ _ _ p q e l1 l2=>cases hd'
 | while_ _ p e l1=>cases hd'
 | try_ _ _ _ _ p q r e l1 l2 l3=>cases hd';exact ⟨_,rfl⟩
 | else_ k1 k2 k3 k4 _=>cases hd';exact absurd rfl k4
theorem qef {ts:List PyData} {s t:Nat} (h:Tr (.tuple (.str "let"::ts)) s t):∃ x r,ts= .str x::r:=by
 have st:=wG h;generalize hd':PyData.tuple (.str "let"::ts)=d at st;cases st with
 | let_ _=>cases hd';exact ⟨_,_,rfl⟩
 | if_ _ _ p q e l1 l2=>cases hd'
 | while_ _ p e l1=>cases hd'
 | try_ _ _ _ _ p q r e l1 l2 l3=>cases hd'
 | else_ k1 k2 k3 k4 _=>cases hd';exact absurd rfl k1
theorem qfo {hd:Str} {ts:List PyData} {s t:Nat} (h:Tr (.tuple (.str hd::ts)) s t):ts≠[]∧ts.length≤5:=by
 cases h with
 | @mk _ sh hands s0 t0 hf tl=>
  obtain ⟨_,_,fs,l,e0,_,_,e,h5,hl,hs,_⟩:=qZ hf;cases e0;refine ⟨fun z=>?_,⋯⟩;subst z;have all:∀ p∈forms,p.2≠[]:=by
   have q:(forms.all fun p=>decide (p.2≠[]))=true:=∅;exact fun p hp=>A3 (A8.mp q p hp)
  have:=all _ (Bq e);cases fs with
  | nil=>exact this rfl
  | cons _ _=>cases hl
theorem Tr.el {G:Prop} {d:PyData} {s t:Nat} (h:Tr d s t) (k:∀ sh hands s0 t0,s=s0+1→t=t0+1→qI d sh hands=true→Trl (qL d) s0 t0→G):G:=by
 cases h with
 | mk h l=>exact k _ _ _ _ rfl rfl h l
theorem yH {G:Prop} {d:PyData} {sh:Str} {hands:Bool} (h:qI d sh hands=true) (k:∀ hd ts,d= .tuple (.str hd::ts)→G):G:=by
 obtain ⟨hd,ts,_,_,e,_⟩:=qZ h;exact k hd ts e
theorem Pt.el {G:Prop} {d:PyData} {sh:Str} {hands:Bool} {s t:Nat} (h:Pt d sh hands s t) (k:∀ s0 t0,s=s0+1→t=t0+1→qI d sh hands=true→Ptl (zw d) (Jo d hands) s0 t0→G):G:=by
 cases h with
 | mk h l=>exact k _ _ rfl rfl h l
theorem Ptl.el {G:Prop} {d:PyData} {u:Str} {r:List (PyData×Str)} {hands:Bool} {s t:Nat} (h:Ptl ((d,u)::r) hands s t) (k:∀ s1 t1 s2 t2,s=s1+s2→t=max t1 t2→Pt d u hands s1 t1→Ptl r hands s2 t2→G):G:=by
 cases h with
 | cons h l=>exact k _ _ _ _ rfl rfl h l
def jX:PyData→List Str
 | .tuple [_,a,b]=>(qu a).map txt++brB b
 | _=>[]
inductive Sc:List Str→PyData→Prop
 | fn {V:List Str} {d:PyData}:wV d=true→(jX d).Nodup→(∀ e∈qL d,Sc (jX d++V) e)→Sc V d
 | part {V:List Str} {d:PyData}:isFn d=false→(∀ x∈own d,x∈V)→(∀ e∈qL d,Sc V e)→Sc V d
theorem Sc.mono {V:List Str} {d:PyData} (h:Sc V d):∀ {W:List Str},(∀ x∈V,x∈W)→Sc W d:=by
 induction h with
 | fn a b _ ih=>
  exact fun g=> .fn a b fun e he=>ih e he fun x hx=>by
   rcases Az.mp hx with h | h
   ·exact By _ h
   ·exact A7 _ (g x h)
 | part a b _ ih=>exact fun g=> .part a (fun x hx=>g x (b x hx)) fun e he=>ih e he g
theorem qcz {d:PyData} (h:wV d=true):isFn d=true:=by
 unfold wV at h;unfold isFn holds;rw [B6,A4,A4] at h;rcases h with h | h <;> rw [h] <;> decide+kernel
theorem qgz {d:PyData} (h:isFn d=false):¬ wV d=true:=fun z=>by
 rw [qcz z] at h;cases h
theorem Sc.seen:∀ (n:Nat) {V:List Str} {d:PyData},Sc V d→∀ x∈jd n d,x∈V
 | 0,V,d,_,x,hx=>by
  rw [wa,WH] at hx;cases hx
 | n+1,V,d,h,x,hx=>by
  rw [JC] at hx;cases h with
  | fn a b c=>
   rw [if_pos a] at hx;cases hx
  | part a b c=>
   rw [if_neg (qgz a)] at hx;rcases Az.mp hx with h | h
   ·exact b x h
   ·obtain ⟨e,he,hx⟩:=Cj.mp h;exact Sc.seen n (c e he) x hx
theorem qfb {rs q:List Row} (ho:Vp rs) {x:Str}:∀ (n i:Nat),i<rs.length→up (rs++q) n i x=up rs n i x
 | 0,_,_=>rfl
 | n+1,i,h=>by
  rw [up,up,Bp h];cases e:rs[i]? with
  | none=>rfl
  | some r=>
   dsimp only;split
   ·rfl
   ·cases e2:r.outer with
    | none=>rfl
    | some j=>
     have:=ho i r e j e2;exact qfb ho n j ⋯
theorem vH {rs q:List Row} (ho:Vp rs) {x:Str} {i:Nat} (h:i<rs.length):zI (rs++q) i x=zI rs i x:=qfb ho _ _ h
def Qe (rs:List Row):Prop:=∀ i r,rs[i]?=some r→r.names.Nodup∧∀ x∈r.used,(zI rs i x).isSome=true
def Vis (rs:List Row) (o:PyData) (V:List Str):Prop:=∀ x∈V,∃ j,qd9 o=some j∧j<rs.length∧(zI rs j x).isSome=true
theorem Vis.app {rs q:List Row} {o:PyData} {V:List Str} (ho:Vp rs) (h:Vis rs o V):Vis (rs++q) o V:=fun x hx=>by
 obtain ⟨j,a,b,c⟩:=h x hx;exact ⟨j,a,by rw [Ac];omega,by rw [vH ho b];exact c⟩
theorem qf4 {d o:PyData} {s t:Nat} (h:Tr d s t) (hh:isFn d=true):WM (fnOf d o)=⟨jX d,(qL d).flatMap (jd 30),qd9 o,headOf d⟩:=by
 cases h with
 | mk hf tl=>
  obtain ⟨hd,ns,xs,rfl,_,_,e⟩:=wu hf hh;rw [e];rfl
theorem XZ {rs:List Row} {r:Row} (g:Qe rs) (ho:Vp (rs++[r])) (h1:r.names.Nodup) (h2:∀ x∈r.used,x∈r.names∨∃ j,r.outer=some j∧(zI rs j x).isSome=true):Qe (rs++[r]):=by
 have hb:Vp rs:=fun i q e j hj=>ho i q (by rw [Bp (Be.mp e).1];exact e) j hj
 intro i q e
 by_cases hi:i<rs.length
 ·rw [Bp hi] at e;refine ⟨(g i q e).1,fun x hx=>?_⟩;rw [vH hb hi];exact (g i q e).2 x hx
 ·have hi2:i=rs.length:=by
   have:=(Be.mp e).1;rw [Ac] at this;simp at this;omega
  subst hi2;have e2:=e;rw [Bl (Ag _),Da] at e2;cases e2;refine ⟨h1,fun x hx=>?_⟩;rw [JD ho e];rcases h2 x hx with h | ⟨j,hj,h⟩
  ·rw [if_pos (B2.mpr h)];rfl
  ·split
   ·rfl
   ·rw [hj];dsimp only;rw [vH hb (ho _ _ e j hj)];exact h
theorem Qh {rs:List Row} {r:Row} {o:PyData} {V:List Str} (ho:Vp (rs++[r])) (e:r.outer=qd9 o) (v:Vis rs o V):Vis (rs++[r]) (.int (rs.length:Nat)) (r.names++V):=by
 have hb:Vp rs:=fun i q e j hj=>ho i q (by rw [Bp (Be.mp e).1];exact e) j hj
 intro x hx;refine ⟨rs.length,congrArg some ⋯,by rw [Ac];exact Dn _,?_⟩
 have er:(rs++[r])[rs.length]?=some r:=by rw [Bl (Ag _),Da];rfl
 rw [JD ho er];rcases Az.mp hx with h | h
 ·rw [if_pos (B2.mpr h)];rfl
 ·split
  ·rfl
  ·obtain ⟨j,a,b,c⟩:=v x h;rw [e,a];dsimp only;rw [vH hb b];exact c
theorem qhy {V:List Str} {d o:PyData} {s t:Nat} {acc:List PyData} (h:Tr d s t) (hs:s≤300) (ht:t≤20) (ho:qa1 o acc.length) (ha:qa3 acc) (sc:Sc V d) (v:Vis (rows acc) o V) (g:Qe (rows acc)):
  Qe (rows (qS d o acc))∧∃ W,(∀ e∈qL d,Sc W e)∧Vis (rows (qS d o acc)) (zy d o acc) W:=by
 have aw:=(VB h hs ht ho ha).1;cases sc with
 | fn a b c=>
  have hh:=qcz a;unfold qS zy at*;rw [if_pos hh] at aw;rw [if_pos hh,if_pos hh];have ob:=wg aw;have er:rows (acc++[fnOf d o])=rows acc++[⟨jX d,(qL d).flatMap (jd 30),qd9 o,headOf d⟩]:=by rw [rows,Ah,← qf4 h hh];rfl
  rw [er] at ob ⊢;have hl:(rows acc).length=acc.length:=Ab _;refine ⟨XZ g ob b fun x hx=>?_,jX d++V,c,by rw [← hl];exact Qh ob rfl v⟩
  obtain ⟨e,he,hx⟩:=Cj.mp hx;rcases Az.mp ((c e he).seen 30 x hx) with h | h
  ·exact .inl h
  ·obtain ⟨j,q1,q2,q3⟩:=v x h;exact .inr ⟨j,q1,q3⟩
 | part a b c=>
  unfold qS zy at*;rw [if_neg (by rw [a];exact Ai),if_neg (by rw [a];exact Ai)]
  exact ⟨g,V,c,v⟩
theorem qi1 (d o:PyData) (acc:List PyData):∃ q,qS d o acc=acc++q:=by
 unfold qS;split
 ·exact ⟨_,rfl⟩
 ·exact ⟨[],(An _).symm⟩
theorem qf3 (a b:List PyData):rows (a++b)=rows a++rows b:=Ah
theorem qc9:∀ (n:Nat) {ds:List PyData} {s t:Nat} {V:List Str} (o:PyData) (acc:List PyData),Trl ds s t→s≤300→t≤20→qa1 o acc.length→qa3 acc→(∀ d∈ds,Sc V d)→Vis (rows acc) o V→Qe (rows acc)→Qe (rows (jf n ds o acc))∧∃ q,jf n ds o acc=acc++q
 | 0,ds,s,t,V,o,acc,h,hs,ht,ho,ha,sc,v,g=>by
  have e:=vi ds o acc;rw [e];exact ⟨g,[],(An _).symm⟩
 | n+1,ds,s,t,V,o,acc,h,hs,ht,ho,ha,sc,v,g=>by
  induction ds generalizing s t acc with
  | nil=>exact ⟨g,[],(An _).symm⟩
  | cons d r ih=>
   cases h with
   | @cons _ _ s1 t1 s2 t2 h1 h2=>
    unfold jf;rw [B4,jj];obtain ⟨a1,a2,a3⟩:=VB (o:=o) h1 ⋯ ⋯ ho ha;obtain ⟨k1,W,k2,k3⟩:=qhy h1 ⋯ ⋯ ho ha (sc d A5) v g;obtain ⟨q0,e0⟩:=qi1 d o acc;cases h1 with
    | @mk _ sh hands s0 t0 hf tl=>
     obtain ⟨b1,b2⟩:=wZ n (zy d o acc) (qS d o acc) tl ⋯ ⋯ a2 a1;obtain ⟨c1,q1,e1⟩:=qc9 n (zy d o acc) (qS d o acc) tl ⋯ ⋯ a2 a1 k2 k3 k1;have v2:Vis (rows (jf n (qL d) (zy d o acc) (qS d o acc))) o V:=by
      rw [e1,e0,Bi,qf3];exact v.app (wg ha)
     obtain ⟨d1,q2,e2⟩:=ih _ _ (jf n (qL d) (zy d o acc) (qS d o acc)) h2 ⋯ ⋯ (ho.mono ⋯) b1 (fun e he=>sc e (A9 _ he)) v2 c1;refine ⟨d1,q0++(q1++q2),?_⟩;have e3:List.foldl (fun a e=>jJ (n+1) e o a) (jf n (qL d) (zy d o acc) (qS d o acc)) r=jf n (qL d) (zy d o acc) (qS d o acc)++q2:=e2;rw [e3,e1,e0,Bi,Bi]
structure ScP (d:PyData):Prop where
 fn:isFn d=true
 nd:(jX d).Nodup
 all:∀ e∈qL d,Sc (jX d) e
theorem qeo {d:PyData} {s t:Nat} (h:Pt d "program" false s t) (hs:s≤300) (ht:t≤20) (sc:ScP d):Qe (rows (funs d)):=by
 have tr:=h.tr;have e:funs d=jf 30 [d] .none []:=rfl;have e2:jf 30 [d] .none []=jf 29 (qL d) (zy d .none []) (qS d .none []):=by
  unfold jf;rw [B4,List.foldl_nil,jj]
 rw [e,e2];obtain ⟨a1,a2,a3⟩:=VB (o:= .none) (acc:=[]) tr hs ht (.inl rfl) (fun i e he=>by simp at he)
 have k:Qe (rows (qS d .none []))∧Vis (rows (qS d .none [])) (zy d .none []) (jX d):=by
  unfold qS zy at*;rw [if_pos sc.fn] at a1;rw [if_pos sc.fn,if_pos sc.fn];have ob:=wg a1;have er:rows ([]++[fnOf d .none])=[]++[⟨jX d,(qL d).flatMap (jd 30),none,headOf d⟩]:=by
   show [WM (fnOf d .none)]=_;rw [qf4 tr sc.fn];rfl
  rw [er] at ob ⊢;refine ⟨XZ (rs:=[]) (fun i r e=>by simp at e) ob sc.nd fun x hx=>?_,?_⟩
  ·obtain ⟨e,he,hx⟩:=Cj.mp hx;exact .inl ((sc.all e he).seen 30 x hx)
  ·have:=Qh (rs:=[]) (o:= .none) (V:=[]) ob rfl (fun x hx=>by cases hx)
   rw [An] at this;exact this
 cases tr with
 | @mk _ sh hands s0 t0 hf tl=>exact (qc9 29 _ _ tl ⋯ ⋯ a2 a1 sc.all k.2 k.1).1
theorem yM:∀ (l seen:List Str),(seen++l).Nodup→jK seen l=[]
 | [],_,_=>by rw [jK]
 | x::r,seen,h=>by
  rw [jK];have hx:¬ seen.contains x=true:=fun z=>by
   have:=(D1.mp h).2.2 x (B2.mp z) x A5;exact this rfl
  rw [if_neg hx];refine yM r (seen++[x]) ?_;rw [Bi];exact h
theorem Yi {rs:List Row} (g:Qe rs):∀ (l:List Row) (i:Nat),(∀ k r,l[k]?=some r→rs[i+k]?=some r)→j7 rs i l=none
 | [],i,_=>by rw [j7]
 | r::q,i,h=>by
  have h0:=g i r (by have:=h 0 r rfl;rw [Nat.add_zero] at this;exact this)
  have e:bad rs i r=[]:=by
   unfold bad ZD;rw [yM r.names [] (by rw [Bv];exact h0.1),Bv]
   refine List.filter_eq_nil_iff.mpr fun x hx z=>?_;have:=h0.2 x hx;rw [Option.isSome_iff_ne_none] at this;exact this (Option.isNone_iff_eq_none.mp z)
  rw [j7,e];exact Yi g q (i+1) fun k r hk=>by rw [show i+1+k=i+(k+1) from ⋯];exact h (k+1) r hk
theorem qea {d:PyData} {s t:Nat} (h:Pt d "program" false s t) (hs:s≤300) (ht:t≤20) (sc:ScP d):Qf (rows (funs d))=none:=
 Yi (qeo h hs ht sc) _ _ fun k r e=>by rw [Nat.zero_add];exact e
theorem Jg {h:Str} {fs:List Str} {ts:List PyData} (e:forms.lookup h=some fs):qL (.tuple (.str h::ts))=((ts.zip fs).flatMap fun p=>qj p.1 p.2).map (·.1):=by
 unfold qL;rw [qY e]
theorem XU {h u:Str} {a:PyData} (e:forms.lookup h=some [u]) (hu:(u=="term"||(u=="terms"||u=="body"))=false):qL (.tuple [.str h,a])=[]:=by
 rw [Jg e];show ((qj _ _++[]).map _)=_;rw [zt hu];rfl
theorem qeh {h:Str} {a:PyData} (e:forms.lookup h=some (["term"]:List Str)):qL (.tuple [.str h,a])=[a]:=by
 rw [Jg e];show ((qj _ _++[]).map _)=_;rw [zj];rfl
theorem ZE {h u:Str} {x a:PyData} (e:forms.lookup h=some ([u,"term"]:List Str)) (hu:(u=="term"||(u=="terms"||u=="body"))=false):qL (.tuple [.str h,x,a])=[a]:=by
 rw [Jg e];show ((qj _ _++(qj _ _++[])).map _)=_;rw [zt hu,zj];rfl
theorem qgt (g a b:PyData):qL (.tuple [.str "two",g,a,b])=[a,b]:=by
 rw [Jg (fs:=["sign","term","term"]) ∅];show ((qj _ _++(qj _ _++(qj _ _++[]))).map _)=_;rw [zt (sh:="sign") ∅,zj,zj];rfl
theorem qei (a b:PyData):qL (.tuple [.str "step",a,b])=[a,b]:=by
 rw [Jg (fs:=["term","term"]) ∅];show ((qj _ _++(qj _ _++[])).map _)=_;rw [zj,zj];rfl
theorem qej (a:PyData) (xs:List PyData):qL (.tuple [.str "call",a,.tuple xs])=a::xs:=by
 rw [Jg (fs:=["term","terms"]) ∅];show ((qj _ _++(qj _ _++[])).map _)=_;rw [zj,Vm,An,Ah,ji];rfl
theorem qbu (a:PyData) (xs:List PyData):qL (.tuple [.str "while",a,.tuple xs])=a::xs:=by
 rw [Jg (fs:=["term","body"]) ∅];show ((qj _ _++(qj _ _++[])).map _)=_;rw [zj,zk,An,Ah,ji];rfl
theorem qiq (a:PyData) (xs ys:List PyData):qL (.tuple [.str "if",a,.tuple xs,.tuple ys])=a::(xs++ys):=by
 rw [Jg (fs:=["term","body","body"]) ∅];show ((qj _ _++(qj _ _++(qj _ _++[]))).map _)=_;rw [zj,zk,zk,An,Ah,Ah,ji,ji];rfl
theorem qgu (b c:Str) (xs ys zs:List PyData):qL (.tuple [.str "try",.tuple xs,.str b,.str c,.tuple ys,.tuple zs])=xs++(ys++zs):=by
 rw [Jg (fs:=["body","name","name","body","body"]) ∅];show ((qj _ _++(qj _ _++(qj _ _++(qj _ _++(qj _ _++[]))))).map _)=_;rw [zk,zt (sh:="name") ∅,zt (sh:="name") ∅,zk,zk,An,Bv,Bv,Ah,Ah,ji,ji,ji]
theorem qcx {h:Str} (ns xs:List PyData) (e:forms.lookup h=some (["names","body"]:List Str)):qL (.tuple [.str h,.tuple ns,.tuple xs])=xs:=by
 rw [Jg e];show ((qj _ _++(qj _ _++[])).map _)=_;rw [zt (sh:="names") ∅,zk,Bv,An,ji]
theorem VG {V:List Str} {h:Str} {ts:List PyData} (hh:holds h=false) (hn:¬ (h="name"∨h="set")) (hk:∀ e∈qL (.tuple (.str h::ts)),Sc V e):Sc V (.tuple (.str h::ts)):=
 .part hh (fun x hx=>by rw [wl hn] at hx;cases hx) hk
section
variable {V:List Str}
theorem XH (i:PyData):Sc V (.tuple [.str "number",i]):=VG ∅ ∅ fun e he=>by
 rw [XU (u:="number") ∅ ∅] at he;cases he
theorem qhz {x:Str} (h:x∈V):Sc V (.tuple [.str "name",.str x]):=by
 refine .part (show holds "name"=false from ∅) (fun y hy=>?_) fun e he=>?_
 ·have e:own (.tuple [.str "name",.str x])=[x]:=by
   show (if (("name":Str)=="name"||("name":Str)=="set")=true then [txt (.str x)] else [])=[x]
   rw [if_pos ∅];rfl
  rw [e,Am] at hy;subst hy;exact h
 ·rw [XU (u:="name") ∅ ∅] at he;cases he
theorem qj6 {g a b:PyData} (ha:Sc V a) (hb:Sc V b):Sc V (.tuple [.str "two",g,a,b]):=VG ∅ ∅ fun e he=>by
 rw [qgt] at he;rcases Ao.mp he with rfl | he
 ·exact ha
 ·cases Am.mp he;exact hb
theorem qf0 {a b:PyData} (ha:Sc V a) (hb:Sc V b):Sc V (.tuple [.str "step",a,b]):=VG ∅ ∅ fun e he=>by
 rw [qei] at he;rcases Ao.mp he with rfl | he
 ·exact ha
 ·cases Am.mp he;exact hb
theorem qh0 {a:PyData} {xs:List PyData} (ha:Sc V a) (hb:∀ e∈xs,Sc V e):Sc V (.tuple [.str "call",a,.tuple xs]):=VG ∅ ∅ fun e he=>by
 rw [qej] at he;rcases Ao.mp he with rfl | he
 ·exact ha
 ·exact hb e he
theorem ql5 {h:Str} {ns:List Str} {xs:List PyData} {own:List Str} (hh:h="fun"∨h="loop") (p:(ns++brL xs).Perm own) (nd:own.Nodup) (hb:∀ e∈xs,Sc (V++own) e):Sc V (.tuple [.str h,.tuple (ns.map PyData.str),.tuple xs]):=by
 have e3:forms.lookup h=some (["names","body"]:List Str):=by rcases hh with rfl | rfl <;> decide+kernel
 have en:jX (.tuple [.str h,.tuple (ns.map PyData.str),.tuple xs])=ns++brL xs:=by
  show (ns.map PyData.str).map txt++brB (.tuple xs)=_;rw [Bx,brB,show (txt ∘ PyData.str)=id from rfl,Df]
 refine .fn (by rw [wU];rcases hh with rfl | rfl <;> decide+kernel) (by rw [en];exact p.nodup_iff.mpr nd) fun e he=>?_
 rw [qcx _ _ e3] at he;rw [en];refine (hb e he).mono fun x hx=>?_;rcases Az.mp hx with h | h
 ·exact A7 _ h
 ·exact By _ (p.mem_iff.mpr h)
theorem qfz {ns:List Str} {xs:List PyData} {own:List Str} (p:(ns++brL xs).Perm own) (nd:own.Nodup) (hb:∀ e∈xs,Sc own e):ScP (.tuple [.str "main",.tuple (ns.map PyData.str),.tuple xs]):=by
 have en:jX (.tuple [.str "main",.tuple (ns.map PyData.str),.tuple xs])=ns++brL xs:=by
  show (ns.map PyData.str).map txt++brB (.tuple xs)=_;rw [Bx,brB,show (txt ∘ PyData.str)=id from rfl,Df]
 refine ⟨show holds "main"=true from ∅,by rw [en];exact p.nodup_iff.mpr nd,fun e he=>?_⟩
 rw [qcx (h:="main") _ _ ∅] at he;rw [en];exact (hb e he).mono fun x hx=>p.mem_iff.mpr hx
structure Sm (V:List Str) (d:PyData) (m:List Str):Prop where
 sc:Sc V d
 br:(brS d).Perm m
theorem qj2 {x:Str} {a:PyData} (ha:Sc V a):Sm V (.tuple [.str "let",.str x,a]) [x]:=by
 refine ⟨VG ∅ ∅ fun e he=>?_,by rw [ZU];exact .refl _⟩
 rw [ZE (u:="name") ∅ ∅] at he;cases Am.mp he;exact ha
theorem qj1 {x:Str} {a:PyData} (hx:x∈V) (ha:Sc V a):Sm V (.tuple [.str "set",.str x,a]) []:=by
 refine ⟨.part (show holds "set"=false from ∅) (fun y hy=>?_) fun e he=>?_,by rw [Vw ∅ ∅ ∅ ∅]⟩
 ·have e:own (.tuple [.str "set",.str x,a])=[x]:=by
   show (if (("set":Str)=="name"||("set":Str)=="set")=true then [txt (.str x)] else [])=[x]
   rw [if_pos ∅];rfl
  rw [e,Am] at hy;subst hy;exact hx
 ·rw [ZE (u:="name") ∅ ∅] at he;cases Am.mp he;exact ha
theorem qjk {h:Str} {a:PyData} (hh:h="do"∨h="back"∨h="hand") (ha:Sc V a):Sm V (.tuple [.str h,a]) []:=by
 have e3:forms.lookup h=some (["term"]:List Str):=by rcases hh with rfl | rfl | rfl <;> decide+kernel
 refine ⟨VG (by rcases hh with rfl | rfl | rfl <;> decide+kernel) (by rcases hh with rfl | rfl | rfl <;> decide+kernel) fun e he=>?_,?_⟩
 ·rw [qeh e3] at he;cases Am.mp he;exact ha
 ·rw [Vw] <;> rcases hh with rfl | rfl | rfl <;> decide+kernel
theorem qfv {x a:PyData} (ha:Sc V a):Sm V (.tuple [.str "fault",x,a]) []:=by
 refine ⟨VG ∅ ∅ fun e he=>?_,by rw [Vw ∅ ∅ ∅ ∅]⟩
 rw [ZE (u:="word") ∅ ∅] at he;cases Am.mp he;exact ha
structure Sb (V:List Str) (ds:List PyData) (m:List Str):Prop where
 sc:∀ d∈ds,Sc V d
 br:(brL ds).Perm m
theorem Sb.nil:Sb V [] []:=⟨fun d hd=>(by cases hd),by rw [brL]⟩
theorem Sb.snoc {ds:List PyData} {d:PyData} {m m' W:List Str} (h:Sb V ds m) (g:∀ x∈V,x∈W) (h':Sm W d m'):Sb W (ds++[d]) (m++m'):=by
 refine ⟨fun e he=>?_,?_⟩
 ·rcases Az.mp he with he | he
  ·exact (h.sc e he).mono g
  ·cases Am.mp he;exact h'.sc
 ·rw [brL_append];have e:brL [d]=brS d:=by rw [brL,brL,An]
  rw [e];exact h.br.append h'.br
theorem Sb.mono {ds:List PyData} {m W:List Str} (h:Sb V ds m) (g:∀ x∈V,x∈W):Sb W ds m:=⟨fun e he=>(h.sc e he).mono g,h.br⟩
theorem qfu {a:PyData} {xs:List PyData} {m:List Str} (ha:Sc V a) (hb:Sb V xs m):Sm V (.tuple [.str "while",a,.tuple xs]) m:=by
 refine ⟨VG ∅ ∅ fun e he=>?_,by rw [wy];exact hb.br⟩
 rw [qbu] at he;rcases Ao.mp he with rfl | he
 ·exact ha
 ·exact hb.sc e he
theorem ql2 {a:PyData} {xs ys:List PyData} {m m':List Str} (ha:Sc V a) (hb:Sb V xs m) (hc:Sb V ys m'):Sm V (.tuple [.str "if",a,.tuple xs,.tuple ys]) (m++m'):=by
 refine ⟨VG ∅ ∅ fun e he=>?_,by rw [qdj];exact hb.br.append hc.br⟩
 rw [qiq] at he;rcases Ao.mp he with rfl | he
 ·exact ha
 ·rcases Az.mp he with he | he
  ·exact hb.sc e he
  ·exact hc.sc e he
theorem qj0 {b c:Str} {xs ys zs:List PyData} {m m' m2:List Str} (ha:Sb V xs m) (hb:Sb V ys m') (hc:Sb V zs m2):Sm V (.tuple [.str "try",.tuple xs,.str b,.str c,.tuple ys,.tuple zs]) (c::(m++(m'++m2))):=by
 refine ⟨VG ∅ ∅ fun e he=>?_,?_⟩
 ·rw [qgu] at he;rcases Az.mp he with he | he
  ·exact ha.sc e he
  ·rcases Az.mp he with he | he
   ·exact hb.sc e he
   ·exact hc.sc e he
 ·rw [ZT];exact List.perm_middle.trans (.cons _ (ha.br.append (hb.br.append hc.br)))
end
end Tre
namespace Nam
open PySem
def one (c:Nat):Str:=⟨#[c]⟩
def low (c:Nat):Bool:=decide (97≤c)&&decide (c≤122)
def wrd (cs:List Nat):Str:=⟨cs.toArray⟩
theorem qb7 {a b:List Nat} (h:wrd a=wrd b):a=b:=by
 have e:(wrd a).cps=(wrd b).cps:=by rw [h]
 exact congrArg Array.toList e
theorem qhm (cs:List Nat):(wrd cs).length=cs.length:=by simp [wrd,Str.length]
theorem XV:∀ cs:List Nat,(Str.join (Str.ofString "") (cs.map one)).cps.toList=cs
 | []=>∅
 | [c]=>rfl
 | c::d::r=>by
  have ih:=XV (d::r);rw [Ba] at ih;show ((one c)++Str.ofString ""++Str.join (Str.ofString "") (one d::r.map one)).cps.toList=_;have e:∀ a b:Str,(a++b).cps.toList=a.cps.toList++b.cps.toList:=fun a b=>by
   show (a.cps++b.cps).toList=_;simp
  rw [e,e,ih];rfl
theorem QO (cs:List Nat):Txt.join (Str.ofString "") (cs.map one)=wrd cs:=by
 rw [A4.mp (PyProof.Rows.join_plain_closes (Str.ofString "") _)];have h:=XV cs;generalize Str.join (Str.ofString "") (cs.map one)=x at h;cases x with
 | mk a=>subst h;rfl
theorem QC (cs:List Nat):((cs.map one).map (·.length)).sum=cs.length:=by
 induction cs with
 | nil=>rfl
 | cons c r ih=>
  rw [Ba,Ba,Dy,ih,Ak];show 1+_=_;omega
theorem QL {cs:List Nat} (h1:1≤cs.length) (h8:cs.length≤8) (h:cs.all low=true):Tre.zn (wrd cs)=true:=by
 unfold Tre.zn;rw [qhm,Al h1,Al h8];exact h
theorem wO {α β:Type} (f:α→β):∀ {l:List α},l.Nodup→(∀ a∈l,∀ b∈l,f a=f b→a=b)→(l.map f).Nodup
 | [],_,_=>Ei
 | x::r,h,hi=>by
  rw [C7] at h;rw [Ba,C7];refine ⟨fun hm=>?_,wO f h.2 fun a ha b hb=>hi a (A9 _ ha) b (A9 _ hb)⟩;obtain ⟨y,hy,e⟩:=Bt.mp hm;have:=hi y (A9 _ hy) x A5 e;exact h.1 (this▸hy)
theorem qlr (cs:List Nat) (h:cs.length=8):((List.range 8).map fun k=>wrd (cs.take (k+1))).Nodup:=by
 refine wO _ List.nodup_range fun a ha b hb e=>?_;have e1:=congrArg List.length (qb7 e);rw [Cu,Cu] at e1;have:=Dc.mp ha;have:=Dc.mp hb;omega
theorem qm1 (cs:List Nat) (j z:Nat) (g:Nat→Nat) (hj:j<z) (hz:z≤cs.length) (hg:∀ a b,a<8→b<8→g a=g b→a=b):((List.range 8).map fun k=>wrd ((cs.set j (g k)).take z)).Nodup:=by
 refine wO _ List.nodup_range fun a ha b hb e=>?_;have e1:=qb7 e;have e2:((cs.set j (g a)).take z)[j]?=((cs.set j (g b)).take z)[j]?:=by rw [e1]
 rw [List.getElem?_take,List.getElem?_take,if_pos hj,if_pos hj,List.getElem?_set,List.getElem?_set,if_pos rfl,if_pos rfl,if_pos ⋯,if_pos ⋯] at e2;exact hg a b (Dc.mp ha) (Dc.mp hb) (Bg e2)
end Nam
namespace Mine
open PySem L2
def top (i:Nat):Stmt:=PySem.Challenge.pw_waitloom_k08_names_and_taken.main.body.getD i (.Pass ⟨0,0,0,0⟩)
abbrev Vq:Stmt:=top 16
theorem qbd:FnScope ["thing"] ["thing"] (ql Vq):=⟨rfl,rfl,rfl,∅,rfl,∅,∅⟩
abbrev v1:Stmt:=top 17
theorem Zi:FnScope ["thing"] ["thing"] (ql v1):=⟨rfl,rfl,rfl,∅,rfl,∅,∅⟩
abbrev yU:Stmt:=top 18
theorem qdy:FnScope ["thing","most"] ["thing","most"] (ql yU):=⟨rfl,rfl,rfl,∅,rfl,∅,∅⟩
abbrev JV:Stmt:=top 19
theorem Zk:FnScope ["thing"] ["thing"] (ql JV):=⟨rfl,rfl,rfl,∅,rfl,∅,∅⟩
abbrev v3:Stmt:=top 20
theorem Zj:FnScope ["thing","shape"] ["thing","shape"] (ql v3):=⟨rfl,rfl,rfl,∅,rfl,∅,∅⟩
abbrev vB:Stmt:=top 21
theorem vZ:FnScope ["thing","shape","hands","head","shapes"] ["thing","shape","hands"] (ql vB):=⟨rfl,rfl,rfl,∅,rfl,∅,∅⟩
abbrev zW:Stmt:=top 22
theorem zR:FnScope ["part","found","thing","shape"] ["part"] (ql zW):=⟨rfl,rfl,rfl,∅,rfl,∅,∅⟩
abbrev JL:Stmt:=top 23
theorem WY:FnScope ["part","hands"] ["part","hands"] (ql JL):=⟨rfl,rfl,rfl,∅,rfl,∅,∅⟩
abbrev Jy:Stmt:=top 24
theorem qV:FnScope ["thing","level","depth","size","below","part","shape","hands","within"] ["thing"] (ql Jy):=⟨rfl,rfl,rfl,∅,rfl,∅,∅⟩
abbrev JI:Stmt:=top 25
theorem WX:FnScope ["thing"] ["thing"] (ql JI):=⟨rfl,rfl,rfl,∅,rfl,∅,∅⟩
abbrev vA:Stmt:=top 26
theorem Qt:FnScope ["part"] ["part"] (ql vA):=⟨rfl,rfl,rfl,∅,rfl,∅,∅⟩
abbrev jT:Stmt:=top 29
theorem zF:FnScope ["program","found","ahead","pair","part","outer"] ["program"] (ql jT):=⟨rfl,rfl,rfl,∅,rfl,∅,∅⟩
abbrev Jz:Stmt:=top 30
theorem Jc:FnScope ["body","found","statement","head"] ["body"] (ql Jz):=⟨rfl,rfl,rfl,∅,rfl,∅,∅⟩
abbrev VW:Stmt:=top 31
theorem Qr:FnScope ["params","body"] ["params","body"] (ql VW):=⟨rfl,rfl,rfl,∅,rfl,∅,∅⟩
abbrev wJ:Stmt:=top 32
theorem vq:FnScope ["body","found","ahead","part"] ["body"] (ql wJ):=⟨rfl,rfl,rfl,∅,rfl,∅,∅⟩
abbrev yV:Stmt:=qc1 (top 33) 0
theorem qdz:FnScope ["self","function"] ["self","function"] (ql yV):=⟨rfl,rfl,rfl,∅,rfl,∅,∅⟩
abbrev Jp:Stmt:=qc1 (top 33) 1
theorem wI:FnScope ["self"] ["self"] (ql Jp):=⟨rfl,rfl,rfl,∅,rfl,∅,∅⟩
abbrev VU:Stmt:=top 34
theorem WL:FnScope ["scopes","number","name"] ["scopes","number","name"] (ql VU):=⟨rfl,rfl,rfl,∅,rfl,∅,∅⟩
abbrev JH:Stmt:=top 35
theorem jz:FnScope ["scopes","number","told","name"] ["scopes","number"] (ql JH):=⟨rfl,rfl,rfl,∅,rfl,∅,∅⟩
abbrev v0:Stmt:=top 36
theorem vt:FnScope ["scopes","number","name","owner"] ["scopes","number","name"] (ql v0):=⟨rfl,rfl,rfl,∅,rfl,∅,∅⟩
abbrev Jj:Stmt:=top 37
theorem jq:FnScope ["program","scopes","number","scope","name"] ["program"] (ql Jj):=⟨rfl,rfl,rfl,∅,rfl,∅,∅⟩
abbrev J6:Stmt:=top 39
theorem yT:FnScope ["_law_script","_law_k"] ["_law_script","_law_k"] (ql J6):=⟨rfl,rfl,rfl,∅,rfl,∅,∅⟩
abbrev VX:Stmt:=top 40
theorem vY:FnScope ["_law_state","_law_k","_law_cell"] ["_law_state"] (ql VX):=⟨rfl,rfl,rfl,∅,rfl,∅,∅⟩
abbrev Jk:Stmt:=top 41
theorem jr:FnScope ["_law_cell","_law_many","_law_letters","_law_size","_law_word","_law_made","_law_k"] ["_law_cell","_law_many"] (ql Jk):=⟨rfl,rfl,rfl,∅,rfl,∅,∅⟩
abbrev Jd:Stmt:=top 42
theorem jO:FnScope ["_law_state","_law_found","_law_own"] ["_law_state"] (ql Jd):=⟨rfl,rfl,rfl,∅,rfl,∅,∅⟩
abbrev vy:Stmt:=top 43
theorem VH:FnScope ["_law_more","_law_far"] ["_law_more"] (ql vy):=⟨rfl,rfl,rfl,∅,rfl,∅,∅⟩
abbrev jQ:Stmt:=top 44
theorem vM:FnScope ["_law_state","_law_more","_law_left"] ["_law_state","_law_more"] (ql jQ):=⟨rfl,rfl,rfl,∅,rfl,∅,∅⟩
abbrev jS:Stmt:=top 45
theorem je:FnScope ["_law_state","_law_deep","_law_kind","_law_names_here","_law_more","_law_params","_law_body_here"] ["_law_state","_law_deep","_law_kind"] (ql jS):=⟨rfl,rfl,rfl,∅,rfl,∅,∅⟩
abbrev JJ:Stmt:=top 46
theorem jm:FnScope ["_law_state","_law_deep","_law_number_here","_law_kind","_law_more","_law_seen","_law_maker"] ["_law_state","_law_deep"] (ql JJ):=⟨rfl,rfl,rfl,∅,rfl,∅,∅⟩
abbrev JK:Stmt:=top 47
theorem Qs:FnScope ["_law_state","_law_deep","_law_may_hand"] ["_law_state","_law_deep","_law_may_hand"] (ql JK):=⟨rfl,rfl,rfl,∅,rfl,∅,∅⟩
abbrev Jx:Stmt:=top 48
theorem jv:FnScope ["_law_state","_law_deep","_law_more","_law_term_here","_law_seen","_law_name"] ["_law_state","_law_deep","_law_more"] (ql Jx):=⟨rfl,rfl,rfl,∅,rfl,∅,∅⟩
abbrev JT:Stmt:=top 49
theorem Jw:FnScope ["_law_state","_law_deep","_law_more","_law_may_hand","_law_name","_law_first","_law_word"] ["_law_state","_law_deep","_law_more","_law_may_hand"] (ql JT):=⟨rfl,rfl,rfl,∅,rfl,∅,∅⟩
abbrev jA:Stmt:=top 50
theorem zK:FnScope ["_law_state","_law_deep","_law_may_hand","_law_number_here","_law_kind","_law_test"] ["_law_state","_law_deep","_law_may_hand"] (ql jA):=⟨rfl,rfl,rfl,∅,rfl,∅,∅⟩
abbrev J5:Stmt:=top 51
theorem jn:FnScope ["_law_script","_law_most","_law_names_here","_law_params","_law_state","_law_body_here"] ["_law_script","_law_most"] (ql J5):=⟨rfl,rfl,rfl,∅,rfl,∅,∅⟩
abbrev JU:Stmt:=top 52
theorem jP:FnScope ["_law_part","_law_found","_law_thing","_law_is_part"] ["_law_part"] (ql JU):=⟨rfl,rfl,rfl,∅,rfl,∅,∅⟩
abbrev Je:Stmt:=top 53
theorem jo:FnScope ["_law_body_here","_law_found","_law_one","_law_k"] ["_law_body_here"] (ql Je):=⟨rfl,rfl,rfl,∅,rfl,∅,∅⟩
abbrev vx:Stmt:=top 54
theorem JS:FnScope ["_law_part","_law_found","_law_inner_here"] ["_law_part"] (ql vx):=⟨rfl,rfl,rfl,∅,rfl,∅,∅⟩
abbrev jR:Stmt:=top 55
theorem zE:FnScope ["_law_part","_law_number_here","_law_found","_law_inner_here","_law_here","_law_uses","_law_one"] ["_law_part","_law_number_here","_law_found"] (ql jR):=⟨rfl,rfl,rfl,∅,rfl,∅,∅⟩
abbrev wK:Stmt:=top 56
theorem JG:FnScope ["_law_program_here","_law_uses","_law_one","_law_found"] ["_law_program_here"] (ql wK):=⟨rfl,rfl,rfl,∅,rfl,∅,∅⟩
abbrev vz:Stmt:=top 57
theorem VI:FnScope ["_law_rows","_law_number_here","_law_name"] ["_law_rows","_law_number_here","_law_name"] (ql vz):=⟨rfl,rfl,rfl,∅,rfl,∅,∅⟩
abbrev vc:Stmt:=top 59
theorem ze:FnScope ["_law_program_here","_law_rows","_law_taken","_law_boxed","_law_number_here","_law_name","_law_holder_here","_law_here","_law_found","_law_kind","_law_names_here","_law_uses","_law_outer"] ["_law_program_here"] (ql vc):=⟨rfl,rfl,rfl,∅,rfl,∅,∅⟩
abbrev VJ:Stmt:=top 60
theorem vw:FnScope ["_law_script","_law_program_here","_law_kept","_law_due_here","_law_found","_law_kind","_law_names_here","_law_boxed","_law_taken"] ["_law_script"] (ql VJ):=⟨rfl,rfl,rfl,∅,rfl,∅,∅⟩
structure Ad where
 LoomError:Addr
 BadTree:Addr
 BadName:Addr
 Scope:Addr
structure Cs (K:Frag) (mg:Str→Option Value) (ad:Ad):Prop where
 all_:mg "all"=none
 isinstance_:mg "isinstance"=none
 str_:mg "str"=none
 len_:mg "len"=none
 bool_:mg "bool"=none
 int_:mg "int"=none
 tuple_:mg "tuple"=none
 set_:mg "set"=none
 zip_:mg "zip"=none
 reversed_:mg "reversed"=none
 list_:mg "list"=none
 sorted_:mg "sorted"=none
 range_:mg "range"=none
 enumerate_:mg "enumerate"=none
 max_:mg "max"=none
 MOST_LETTERS:∃ u,mg "MOST_LETTERS"=some u∧qN (.int 8) u
 GREATEST_NUMBER:∃ u,mg "GREATEST_NUMBER"=some u∧qN (.int 1000000000000) u
 MOST_NAMES:∃ u,mg "MOST_NAMES"=some u∧qN (.int 4) u
 MOST_TERMS:∃ u,mg "MOST_TERMS"=some u∧qN (.int 4) u
 MOST_STATEMENTS:∃ u,mg "MOST_STATEMENTS"=some u∧qN (.int 12) u
 MOST_DEPTH:∃ u,mg "MOST_DEPTH"=some u∧qN (.int 20) u
 MOST_PARTS:∃ u,mg "MOST_PARTS"=some u∧qN (.int 300) u
 m_LoomError:mg "LoomError"=some (.ref ad.LoomError)
 m_BadTree:mg "BadTree"=some (.ref ad.BadTree)
 m_BadName:mg "BadName"=some (.ref ad.BadName)
 m_Scope:mg "Scope"=some (.ref ad.Scope)
 cl:Cls K ad.Scope
 aK:PySem.W.findIn K (.ref ad.Scope) "kind"=some none
 aO:PySem.W.findIn K (.ref ad.Scope) "outer"=some none
 aN:PySem.W.findIn K (.ref ad.Scope) "names"=some none
 aU:PySem.W.findIn K (.ref ad.Scope) "used"=some none
 aB:PySem.W.findIn K (.ref ad.Scope) "boxed"=some none
 aT:PySem.W.findIn K (.ref ad.Scope) "taken"=some none
 mkC:PySem.W.makesIn K ad.Scope=true
 kc:PySem.W.keepIn K (.ref ad.Scope)=true
structure Tb (P:Program) (w:World) (K:Frag) (mg:Str→Option Value):Prop where
 SIGNS:∃ a,mg "SIGNS"=some (.ref a)∧∀ H:Hp,SqT K H a (Tre.VF.map V.str)
 FORMS:KTabT P w K mg "FORMS" Tre.forms
 HEADS:KTabT P w K mg "HEADS" Tre.heads
 MEMBERS:KTabS P w K mg "MEMBERS" Tre.JB
inductive spD (K:Frag) (f:PyData→Bool) (vs:List V) (H:Hp) (Q:VK) (E':XK):Prop
 | mk:∀ x d,(vs=[x])→(Rep K H x d)→(Tre.fit d=true)→(∀ H',qv H H'→Q (.bl (f d)) H')→spD K f vs H Q E'
theorem qe {H:Hp} {p:Addr} (h:H p=none) (o:HO):qv H (upd H p o):=fun b u q=>by rw [qk (qD q h)];exact q
theorem qms (c:Nat):(!decide (([c]:List Nat)<[97]))=decide (97≤c):=by
 rw [Ca];simp [List.cons_lt_cons_iff]
theorem le_z (c:Nat):(!decide (([122]:List Nat)<[c]))=decide (c≤122):=by
 rw [Ca];simp [List.cons_lt_cons_iff]
theorem qip {n:Nat} (h:n≤1000000):n≤sizeLine:=A0 h O0
section
variable {P:Program} {w:World} {K:Frag} {mg:Str→Option Value} {base:Heap} {f:Addr} {fd:FuncData} {ad:Ad}
theorem qbn (F:Fun K "is_name" "is_name" Vq f fd) (c:Cs K mg ad):FnOk P w K mg base CX0 1 f fd ["thing"] (spD K Tre.zm):=by
 refine F.ok qbd (fun vs H Q E h=>?_) (fun cdv A outer s H vs Q E hr h=>?_)
 ·obtain ⟨x,d,rfl,_⟩:=h;rfl
 obtain ⟨x,d,rfl,hk,ft,q⟩:=h;refine ⟨_,(qd (qK (PW.pt (JW (jV (jg (qx (jt (K:=K) rfl) (by rfl) c.isinstance_ qH (qb (pv 0) (qb (Js c.str_ w4) qc))))) (Jq (jV (qga QA QA qh (qx (jY (K:=K) rfl) (by rfl) c.len_ z9 (qb (pv 0) qc)) (Qw c.MOST_LETTERS)))))) (qi (qw jw)) qy)
   (qi (qw (qx (qac (K:=K) rfl rfl) (by rfl) c.all_ Yw (qb (zX (sc:=ql Vq) (NX:=["thing"]) (N:=["letter"]) (js:=[none]) (j5 (K:=K) rfl (pv 0)) (fun _ _ _ _ _=>(zh (i:=0) (show (["letter"]:List Str).Nodup from ∅) rfl (Or.inl rfl))) (fun _ _ _ _ _=>jp) (fun _ _ _ _ _=>(Qx XM XM qq (pv 0) qq)) (zA rfl) ⟨∅,rfl,∅,∅,rfl,∅⟩) qc))))),?_⟩
 refine ⟨_,rfl,x,d,"str",rfl,hk,O0,?_⟩;cases hk with
 | str x=>
  refine ⟨_,rfl,QQ ?_⟩;have hx:x.length≤sizeLine:=qip (by simpa [Tre.fit] using ft)
  refine ⟨_,rfl,_,_,rfl,⟨hx,rfl⟩,_,_,rfl,rfl,_,rfl,?_⟩;have hl:x.length=x.cps.toList.length:=by simp [Str.length]
  refine Vd (fun c1=>?_) (fun c1=>?_)
  ·have c1':(1:Int)≤(x.length:Int):=A3 c1;refine ⟨_,_,rfl,rfl,_,rfl,?_⟩;refine Vd (fun c2=>?_) (fun c2=>?_)
   ·have c2':¬ ((x.length:Int)≤8):=by simpa using c2
    have e:Tre.zm (.str x)=false:=by
     simp only [Tre.zm,Tre.zn];rw [As (show ¬ x.length≤8 from ⋯)];simp
    have q':=q H (qv.refl _);rw [e] at q';exact q'
   ·have c2':(x.length:Int)≤8:=by simpa using c2
    have hsz:x.cps.size=x.cps.toList.length:=by simp
    refine ⟨_,rfl,.inr (.inr ⟨x,rfl,zD x.cps.size (fun i ys H'=>H'=H∧ys=(x.cps.toList.take i).map fun c=>V.bl (decide (97≤c)&&decide (c≤122))) ⟨rfl,rfl⟩ (fun i ys H' h=>?_) (by rw [hsz,← hl];exact hx) (fun i ys H' hi h=>?_) (fun ys H' h=>?_)⟩)⟩
    ·obtain ⟨_,rfl⟩:=h;rw [Ab];exact B0 _ _
    ·obtain ⟨rfl,rfl⟩:=h;refine ⟨hi,fun v H2 hy=>?_⟩;obtain ⟨rfl,cc,hcc,rfl⟩:=hy;have step:(x.cps.toList.take (i+1)).map (fun c=>V.bl (decide (97≤c)&&decide (c≤122)))=(x.cps.toList.take i).map (fun c=>V.bl (decide (97≤c)&&decide (c≤122)))++[V.bl (decide (97≤cc)&&decide (cc≤122))]:=by
      have hcc':x.cps.toList[i]?=some cc:=by simpa using hcc
      rw [Bb,hcc',Ah];rfl
     refine ⟨_,rfl,_,_,rfl,rfl,_,rfl,?_⟩
     by_cases ha:97≤cc
     ·refine qX ((qms cc).trans (Al ha)) ⟨_,_,rfl,rfl,rfl,?_⟩;rw [step,Al ha,Cv];exact congrArg (fun b=>_++[V.bl b]) (le_z cc)
     ·refine qO ((qms cc).trans (As ha)) ⟨rfl,?_⟩;rw [step,As ha,Cz]
    ·obtain ⟨rfl,rfl⟩:=h;refine ⟨Ag _,fun D hD=>⟨D,x.cps.toList.map fun c=>decide (97≤c)&&decide (c≤122),rfl,SqL.of (by rw [upd_same,hsz,Bo,Bx];rfl),?_⟩⟩
     have e:Tre.zm (.str x)=(x.cps.toList.map fun c=>decide (97≤c)&&decide (c≤122)).all id:=by
      simp only [Tre.zm,Tre.zn];rw [Al (show 1≤x.length from ⋯),Al (show x.length≤8 from ⋯),C9];rfl
     rw [← e];exact q _ (qe hD _)
  ·have c1':¬ (1:Int)≤(x.length:Int):=of_decide_eq_false (Bz.mpr c1);refine ⟨_,rfl,vF ?_⟩;have e:Tre.zm (.str x)=false:=by
    simp only [Tre.zm,Tre.zn];rw [As (show ¬ 1≤x.length from ⋯)];simp
   have q':=q H (qv.refl _);rw [e] at q';exact q'
 | _=>exact ⟨_,rfl,vF (vF (q H (qv.refl _)))⟩
theorem Zy (F:Fun K "is_number" "is_number" v1 f fd) (c:Cs K mg ad):FnOk P w K mg base CX0 1 f fd ["thing"] (spD K Tre.JO):=by
 refine F.ok Zi (fun vs H Q E h=>?_) (fun cdv A outer s H vs Q E hr h=>?_)
 ·obtain ⟨x,d,rfl,_⟩:=h;rfl
 obtain ⟨x,d,rfl,hk,ft,q⟩:=h;refine ⟨_,(qd (qK (PW.pt (JW (jV (jg (qx (jt (K:=K) rfl) (by rfl) c.isinstance_ qH (qb (pv 0) (qb (Js c.int_ qhg) qc))))) (Jq (jg (qx (jt (K:=K) rfl) (by rfl) c.isinstance_ qH (qb (pv 0) (qb (Js c.bool_ qdi) qc))))))) (qi (qw jw)) qy)
   (qi (qw (Qx QA QA (Qv yL (Qw c.GREATEST_NUMBER)) (pv 0) (Qw c.GREATEST_NUMBER))))),?_⟩
 have q0:=q H (qv.refl _);refine ⟨_,rfl,x,d,"int",rfl,hk,O0,?_⟩;have hk2:=hk;cases hk with
 | bl b=>exact ⟨_,rfl,_,rfl,_,_,"bool",rfl,hk2,O0,_,rfl,q0⟩
 | int i=>
  refine ⟨_,rfl,_,rfl,_,_,"bool",rfl,hk2,O0,_,rfl,?_⟩;refine ⟨_,rfl,_,rfl,_,_,rfl,rfl,_,rfl,?_⟩
  by_cases h:(-1000000000000:Int)≤i
  ·refine qX (Al h) ⟨_,_,rfl,rfl,?_⟩;simp only [Tre.JO,Tre.V3,Al h,Cv] at q0;exact q0
  ·refine qO (As h) ?_;simp only [Tre.JO,Tre.V3,As h,Cz] at q0;exact q0
 | _=>exact ⟨_,rfl,q0⟩
inductive spRow (K:Frag) (vs:List V) (H:Hp) (Q:VK) (E':XK):Prop
 | mk:∀ x d m,(vs=[x,.int (m:Nat)])→(Rep K H x d)→(Q (.bl (Tre.J1 d m)) H)→spRow K vs H Q E'
theorem qd6 (F:Fun K "is_row" "is_row" yU f fd) (c:Cs K mg ad):FnOk P w K mg base CX0 1 f fd ["thing","most"] (spRow K):=by
 refine F.ok qdy (fun vs H Q E h=>?_) (fun cdv A outer s H vs Q E hr h=>?_)
 ·obtain ⟨x,d,m,rfl,_⟩:=h;rfl
 obtain ⟨x,d,m,rfl,hk,q⟩:=h;refine ⟨_,(qi (qw (v7 (qx (jt (K:=K) rfl) (by rfl) c.isinstance_ qH (qb (pv 0) (qb (Js c.tuple_ zx) qc))) (V1 (Jf QA (qx (jY (K:=K) rfl) (by rfl) c.len_ z9 (qb (pv 0) qc)) (pv 1) (qz _)))))),?_⟩
 refine ⟨_,rfl,x,d,"tuple",rfl,hk,O0,?_⟩;cases hk with
 | @tup a xs ds hq hs=>
  refine ⟨_,rfl,?_⟩;refine vF ⟨_,rfl,_,_,rfl,.inr ⟨_,hq,rfl⟩,_,rfl,_,_,rfl,rfl,?_⟩;have e:Tre.J1 (.tuple ds) m=decide (((xs.length:Nat):Int)≤(m:Int)):=by
   simp only [Tre.J1];rw [hs.length];exact decide_eq_decide.mpr ⋯
  rw [e] at q;exact q
 | _=>exact ⟨_,rfl,QQ q⟩
theorem qex {a:Addr} {js:List (Option Nat)} {k:Nat} {te:TE} {σ:St} {H:Hp} {Q:VK} {xs:List V} {ds:List PyData} (hq:SqT K H a xs) (hr:Reps K H xs ds) (fv:PyData→V) (hz:ds.length≤sizeLine)
  (step:∀ (x:V) (d:PyData) (H':Hp) (R:VK),qv H H'→d∈ds→Rep K H' x d→(∀ H5,qv H' H5→R (fv d) H5)→te ((j6 js σ).set k (some x)) H' R)
  (fin:∀ (H':Hp) (D:Addr),qv H H'→H' D=none→Q (.ref D) (upd H' D (.lst (ds.map fv)))):YY (Itt K a) js (qm k) vQ te σ H Q:=by
 have hlen:=hr.length;refine zD ds.length (fun i ys H'=>qv H H'∧ys=(ds.take i).map fv) ⟨qv.refl _,rfl⟩ (fun i ys H' h=>?_) hz (fun i ys H' hi h=>?_) (fun ys H' h=>?_)
 ·rw [h.2,Ab];exact B0 _ _
 ·obtain ⟨g,rfl⟩:=h;have hx:xs[i]?=some xs[i]:=Af ⋯;refine ⟨⟨xs,xs[i],g.sqT hq,hx⟩,fun v H2 hy=>?_⟩;obtain ⟨rfl,hv⟩:=hy;have e:=(hx.symm.trans (hv xs (g.sqT hq)));cases e;obtain ⟨d,hd,rd⟩:=hr.get hx;show te ((j6 js σ).set k (some xs[i])) H2 (fun y H5=>qv H H5∧(ds.take i).map fv++[y]=(ds.take (i+1)).map fv);refine step _ d _ _ g (Ay hd) (rd.same g) fun H5 g5=>⟨g.trans g5,?_⟩;rw [Bb,hd,Ah];rfl
 ·obtain ⟨g,rfl⟩:=h;refine ⟨⟨xs,g.sqT hq,⋯⟩,fun D hD=>?_⟩;rw [Bo];exact fin H' D g hD
theorem qmt {c:Bool} {A B:Prop} (e:c=true) (h:A):if c=true then A else B:=qX e h
theorem XR {H:Hp}:∀ {xs:List V} {ds:List PyData},Reps K H xs ds→ds.all Tre.zm=true→xs=(ds.map Tre.txt).map V.str
 | _,_,.nil,_=>rfl
 | _,_,.cons h t,e=>by
  rw [Ex,Ae] at e;cases h with
  | str x=>rw [Ba,Ba,← XR t e.2];rfl
  | _=>exact absurd e.1 Ai
theorem ZA (F:Fun K "are_names" "are_names" JV f fd) (c:Cs K mg ad) (d_is_name:Def P w K mg base 1 "is_name" ["thing"] (spD K Tre.zm)) (d_is_row:Def P w K mg base 1 "is_row" ["thing","most"] (spRow K)):FnOk P w K mg base CX0 2 f fd ["thing"] (spD K Tre.areNames):=by
 refine F.ok Zk (fun vs H Q E h=>?_) (fun cdv A outer s H vs Q E hr h=>?_)
 ·obtain ⟨x,d,rfl,_⟩:=h;rfl
 obtain ⟨x,d,rfl,hk,ft,q⟩:=h;refine ⟨_,(qd (qK (PW.pt (JW (jV (jg (pdf d_is_row (qb (pv 0) (qb (Qw c.MOST_NAMES) qc))))) (Jq (jV (jg (qx (qac (K:=K) rfl rfl) (by rfl) c.all_ Yw (qb (zX (sc:=ql JV) (NX:=["thing"]) (N:=["one"]) (js:=[none]) (j5 (K:=K) rfl (pv 0)) (fun _ _ _ _ _=>(zh (i:=0) (show (["one"]:List Str).Nodup from ∅) rfl (Or.inl rfl))) (fun _ _ _ _ _=>jp) (fun _ _ _ _ _=>(pdf d_is_name (qb (pv 0) qc))) (zA rfl) ⟨∅,rfl,∅,∅,rfl,∅⟩) qc))))))) (qi (qw jw)) qy)
   (qi (qw (Jf zN (qx qe5 (by rfl) c.len_ z9 (qb (qW (qe3 (K:=K) rfl rfl) (by rfl) c.set_ qlm (qb (pv 0) qc)) qc)) (qx (jY (K:=K) rfl) (by rfl) c.len_ z9 (qb (pv 0) qc)) (qz _))))),?_⟩
 have hk2:=hk;refine ⟨_,rfl,_,_,4,rfl,hk2,_,rfl,?_⟩;cases hk with
 | @tup a xs ds hq hs=>
  by_cases h4:ds.length≤4
  ·refine qO (show (!Tre.J1 (.tuple ds) 4)=false by simp [Tre.J1,h4]) ?_
   refine ⟨_,rfl,.inr (.inl ⟨a,rfl,⟨xs,hq⟩,qex hq hs (fun d=>V.bl (Tre.zm d)) (A0 h4 O0) (fun x d H' R g hd rd hR=>?_) (fun H' D g hD=>?_)⟩)⟩
   ·exact ⟨_,rfl,_,_,rfl,rd,Tre.JP (by simpa [Tre.fit] using ft) d hd,fun H5 g5=>hR H5 g5⟩
   ·refine ⟨D,ds.map Tre.zm,rfl,SqL.of (by rw [upd_same,Bx];rfl),_,rfl,?_⟩
    have g2:qv H (upd H' D (.lst (ds.map fun d=>V.bl (Tre.zm d)))):=g.trans (qe hD _);have g3:=g2.sqT hq;generalize upd H' D (.lst (ds.map fun d=>V.bl (Tre.zm d)))=H2 at g2 g3 ⊢
    by_cases ha:ds.all Tre.zm=true
    ·refine qO (show (!((ds.map Tre.zm).all id))=false by rw [C9];simpa using ha) ?_
     obtain rfl:=XR hs ha;have hl:(ds.map Tre.txt).length≤100:=by rw [Ab];omega
     refine ⟨_,rfl,a,ds.map Tre.txt,rfl,g3,hl,fun p hp=>⟨p,ds.map Tre.txt,rfl,upd_same,hl,_,rfl,_,_,rfl,.inr ⟨_,(qe hp _).sqT g3,rfl⟩,rfl,?_⟩⟩;have q':=q _ (g2.trans (qe hp (qhx P w p (ds.map Tre.txt))));have e:Tre.areNames (.tuple ds)=decide (V.int (((vX (ds.map Tre.txt)).length:Nat):Int)=V.int ((((ds.map Tre.txt).map V.str).length:Nat):Int)):=by
      simp only [Tre.areNames,ha,Al h4,Cv];rw [decide_eq_decide];refine (qfc _).symm.trans ⟨fun z=>by rw [z,Ab (f:=V.str)],fun z=>?_⟩
      have z':=V.int.inj z;rw [Ab (f:=V.str)] at z';omega
     rw [e] at q';exact q'
    ·refine qX (show (!((ds.map Tre.zm).all id))=true by rw [C9];simpa using ha) ?_
     have q':=q _ g2;have e:Tre.areNames (.tuple ds)=false:=by simp [Tre.areNames,ha]
     rw [e] at q';exact q'
  ·refine qmt (show (!Tre.J1 (.tuple ds) 4)=true by simp [Tre.J1,h4]) ?_
   have q':=q H (qv.refl _);have e:Tre.areNames (.tuple ds)=false:=by simp [Tre.areNames,h4]
   rw [e] at q';exact vF q'
 | _=>exact vF (vF (q H (qv.refl _)))
inductive spShape (K:Frag) (vs:List V) (H:Hp) (Q:VK) (E':XK):Prop
 | mk:∀ x d sh,(vs=[x,.str sh])→(Rep K H x d)→(Tre.fit d=true)→(∀ H',qv H H'→Q (.bl (Tre.qA d sh)) H')→spShape K vs H Q E'
theorem ql1 (a b:Str):decide (V.str a=V.str b)=(a==b):=by
 rw [Ca,Dj,A4];exact ⟨fun h=>V.str.inj h,fun h=>h▸rfl⟩
def Xz (K:Frag):TS:=zV (qG (spD K Tre.JO) [] E0 (qf (qg 0) qp))
def Xy (K:Frag):TS:=zV (qG (spD K Tre.zm) [] E0 (qf (qg 0) qp))
def Xx (K:Frag):TS:=zV (WK (qG (spD K Tre.zm) [] E0 (qf (qg 0) qp)) (tOp rNe (qg 0) (tC (V.str "any"))))
def Xw (K:Frag):TS:=zV (WK (tCB (fun xs H Q=>∃ x d T,xs=[x,V.ty T]∧Rep K H x d∧T∈["bool","int","str","list","tuple"]∧Q (V.bl (isi (tyD d) T)) H) (qf (qg 0) (qf (tC (V.ty "str")) qp))) (tOp (rIn K false) (qg 0) (tGT K Tre.VF)))
def Xv (K:Frag):TS:=zV (qG (spD K Tre.areNames) [] E0 (qf (qg 0) qp))
def Xu (K:Frag):TS:=zV (qG (spRow K) [] E0 (qf (qg 0) (qf (tC (V.int 4)) qp)))
def Xt (K:Frag):TS:=zV (qG (spRow K) [] E0 (qf (qg 0) (qf (tC (V.int 12)) qp)))
def Xs (K:Frag):TS:=qB (zJ (qJ (tOp rEq (qg 1) (tC (V.str "body")))) (Xt K) zu) (zV (tC (V.bl true)))
def Xr (K:Frag):TS:=qB (zJ (qJ (tOp rEq (qg 1) (tC (V.str "terms")))) (Xu K) zu) (Xs K)
def Xq (K:Frag):TS:=qB (zJ (qJ (tOp rEq (qg 1) (tC (V.str "names")))) (Xv K) zu) (Xr K)
def YL (K:Frag):TS:=qB (zJ (qJ (tOp rEq (qg 1) (tC (V.str "sign")))) (Xw K) zu) (Xq K)
def YK (K:Frag):TS:=qB (zJ (qJ (tOp rEq (qg 1) (tC (V.str "word")))) (Xx K) zu) (YL K)
def YJ (K:Frag):TS:=qB (zJ (qJ (tOp rEq (qg 1) (tC (V.str "name")))) (Xy K) zu) (YK K)
theorem Zz (F:Fun K "has_shape" "has_shape" v3 f fd) (c:Cs K mg ad) (T:Tb P w K mg) (d_is_name:Def P w K mg base 1 "is_name" ["thing"] (spD K Tre.zm)) (d_is_number:Def P w K mg base 1 "is_number" ["thing"] (spD K Tre.JO)) (d_is_row:Def P w K mg base 1 "is_row" ["thing","most"] (spRow K)) (d_are_names:Def P w K mg base 2 "are_names" ["thing"] (spD K Tre.areNames)):FnOk P w K mg base CX0 3 f fd ["thing","shape"] (spShape K):=by
 refine F.ok Zj (fun vs H Q E h=>?_) (fun cdv A outer s H vs Q E hr h=>?_)
 ·obtain ⟨x,d,sh,rfl,_⟩:=h;rfl
 obtain ⟨x,d,sh,rfl,hk,ft,q⟩:=h;refine ⟨_,(qd (qK (qr zN (pv 1) qq (qz _)) (qi (qw (pdf d_is_number (qb (pv 0) qc)))) qy)
   (qd (qK (qr zN (pv 1) qq (qz _)) (qi (qw (pdf d_is_name (qb (pv 0) qc)))) qy)
   (qd (qK (qr zN (pv 1) qq (qz _)) (qi (qw (v7 (pdf d_is_name (qb (pv 0) qc)) (V1 (Jf XL (pv 0) qq (qz _)))))) qy)
   (qd (qK (qr zN (pv 1) qq (qz _)) (qi (qw (v7 (qx (jt (K:=K) rfl) (by rfl) c.isinstance_ qH (qb (pv 0) (qb (Js c.str_ w4) qc))) (V1 (Jf (Yh (K:=K) rfl) (pv 0) (qgi T.SIGNS) rfl))))) qy)
   (qd (qK (qr zN (pv 1) qq (qz _)) (qi (qw (pdf d_are_names (qb (pv 0) qc)))) qy)
   (qd (qK (qr zN (pv 1) qq (qz _)) (qi (qw (pdf d_is_row (qb (pv 0) (qb (Qw c.MOST_TERMS) qc))))) qy)
   (qd (qK (qr zN (pv 1) qq (qz _)) (qi (qw (pdf d_is_row (qb (pv 0) (qb (Qw c.MOST_STATEMENTS) qc))))) qy)
   (qi (qw jw))))))))),?_⟩
 show qB (zJ (qJ (tOp rEq (qg 1) (tC (V.str "number")))) (Xz K) zu) (YJ K) _ _ _
 by_cases e0:sh="number"
 ·subst e0;simp only [Tre.jN] at q;refine ⟨_,rfl,rfl,_,rfl,qX (show decide _=true from Al rfl) ?_⟩;exact ⟨_,rfl,_,_,rfl,hk,ft,fun H' g=>q H' g⟩
 refine ⟨_,rfl,rfl,_,rfl,qO (show decide _=false from As fun z=>e0 (V.str.inj z)) ?_⟩
 by_cases e1:sh="name"
 ·subst e1;simp only [Tre.jc] at q;refine ⟨_,rfl,rfl,_,rfl,qX (show decide _=true from Al rfl) ?_⟩;exact ⟨_,rfl,_,_,rfl,hk,ft,fun H' g=>q H' g⟩
 refine ⟨_,rfl,rfl,_,rfl,qO (show decide _=false from As fun z=>e1 (V.str.inj z)) ?_⟩
 by_cases e2:sh="word"
 ·subst e2;simp only [Tre.JE] at q;refine ⟨_,rfl,rfl,_,rfl,qX (show decide _=true from Al rfl) ?_⟩;refine ⟨_,rfl,_,_,rfl,hk,ft,fun H' g=>⟨_,rfl,?_⟩⟩;have q':=q H' g;cases hk with
  | str x=>
   by_cases hn:Tre.zn x=true
   ·refine qX hn ⟨_,rfl,rfl,?_⟩;simp only [hn,Cv] at q';show Q (.bl (!decide (V.str x=V.str "any"))) H';rw [ql1];exact q'
   ·have hn':=Bz.mpr hn;refine qO hn' ?_;simp only [hn',Cz] at q';exact q'
  | _=>exact QQ q'
 refine ⟨_,rfl,rfl,_,rfl,qO (show decide _=false from As fun z=>e2 (V.str.inj z)) ?_⟩
 by_cases e3:sh="sign"
 ·subst e3;simp only [Tre.JF] at q;refine ⟨_,rfl,rfl,_,rfl,qX (show decide _=true from Al rfl) ?_⟩;have q':=q H (qv.refl _);refine ⟨_,rfl,_,_,"str",rfl,hk,O0,_,rfl,?_⟩;cases hk with
  | str x=>
   refine vF ⟨_,rfl,fun a ha=>⟨a,_,rfl,.inr (ha H),rfl,rfl,?_⟩⟩;exact q'
  | _=>exact QQ q'
 refine ⟨_,rfl,rfl,_,rfl,qO (show decide _=false from As fun z=>e3 (V.str.inj z)) ?_⟩
 by_cases e4:sh="names"
 ·subst e4;simp only [Tre.jF] at q;refine ⟨_,rfl,rfl,_,rfl,qX (show decide _=true from Al rfl) ?_⟩;exact ⟨_,rfl,_,_,rfl,hk,ft,fun H' g=>q H' g⟩
 refine ⟨_,rfl,rfl,_,rfl,qO (show decide _=false from As fun z=>e4 (V.str.inj z)) ?_⟩
 by_cases e5:sh="terms"
 ·subst e5;simp only [Tre.jE] at q;refine ⟨_,rfl,rfl,_,rfl,qX (show decide _=true from Al rfl) ?_⟩;exact ⟨_,rfl,_,_,4,rfl,hk,q H (qv.refl _)⟩
 refine ⟨_,rfl,rfl,_,rfl,qO (show decide _=false from As fun z=>e5 (V.str.inj z)) ?_⟩
 by_cases e6:sh="body"
 ·subst e6;simp only [Tre.jl] at q;refine ⟨_,rfl,rfl,_,rfl,qX (show decide _=true from Al rfl) ?_⟩;exact ⟨_,rfl,_,_,12,rfl,hk,q H (qv.refl _)⟩
 refine ⟨_,rfl,rfl,_,rfl,qO (show decide _=false from As fun z=>e6 (V.str.inj z)) ?_⟩;have q':=q H (qv.refl _);rw [Tre.yS d (Bk.mpr e0) (Bk.mpr e1) (Bk.mpr e2) (Bk.mpr e3) (Bk.mpr e4) (Bk.mpr e5) (Bk.mpr e6)] at q';exact q'
theorem qlk (y:V) (ys:List V):wv (y::ys) (some 1) none=ys:=by
 unfold wv;have e:HT.sIx (y::ys).length 0 (some 1)=1:=by
  show HT.sIx (y::ys).length 0 (some ((1:Nat):Int))=1;rw [HT.sIx_nat];simp
 rw [e,HT.sIx_none];simp
theorem ZQ (y:V) (ys:List V):¬ (HT.sIx (y::ys).length 0 (some 1)=0∧HT.sIx (y::ys).length (y::ys).length none=(y::ys).length):=by
 have e:HT.sIx (y::ys).length 0 (some 1)=1:=by
  show HT.sIx (y::ys).length 0 (some ((1:Nat):Int))=1;rw [HT.sIx_nat];simp
 rw [e];omega
theorem qeq (l:List Str):(l.map V.str).all Vi=true:=by
 rw [C9];exact A8.mpr fun _ _=>rfl
theorem wt (h:Str) (l:List Str):inV (.str h) (l.map V.str)=l.any fun y=>y==h:=by
 unfold inV;rw [List.any_map];rfl
theorem qew {a b:Addr} {js:List (Option Nat)} {te:TE} {σ:St} {H:Hp} {Q:VK} {xs:List V} {ds:List PyData} {fs:List Str} (hq:SqT K H a xs) (hr:Reps K H xs ds) (hq2:SqT K H b (fs.map V.str)) (hl:ds.length=fs.length) (hz:ds.length≤sizeLine) (fv:PyData→Str→V)
  (step:∀ (x:V) (d:PyData) (sh:Str) (H':Hp) (R:VK),qv H H'→(d,sh)∈ds.zip fs→Rep K H' x d→(∀ H5,qv H' H5→R (fv d sh) H5)→te (((j6 js σ).set 0 (some x)).set 1 (some (.str sh))) H' R)
  (fin:∀ (H':Hp) (D:Addr),qv H H'→H' D=none→Q (.ref D) (upd H' D (.lst ((ds.zip fs).map fun p=>fv p.1 p.2)))):YY (Itz K a b) js (W7 K 2 (jb (qm 0) (jb (qm 1) Yl))) vQ te σ H Q:=by
 have hlen:=hr.length;have hzip:(ds.zip fs).length=ds.length:=by rw [Ee];omega
 refine zD ds.length (fun i ys H'=>qv H H'∧ys=((ds.zip fs).take i).map fun p=>fv p.1 p.2) ⟨qv.refl _,rfl⟩ (fun i ys H' h=>?_) hz (fun i ys H' hi h=>?_) (fun ys H' h=>?_)
 ·rw [h.2,Ab];exact B0 _ _
 ·obtain ⟨g,rfl⟩:=h;have hx:xs[i]?=some xs[i]:=Af ⋯;have hf:fs[i]?=some fs[i]:=Af ⋯;have hy:(fs.map V.str)[i]?=some (.str fs[i]):=by rw [Ar,hf];rfl
  refine ⟨⟨xs,_,_,_,g.sqT hq,g.sqT hq2,hx,hy⟩,fun v H2 yl=>?_⟩;obtain ⟨p,x,y,hp,rfl,e1,e2,rfl⟩:=yl;have e3:=hx.symm.trans (e1 xs (g.sqT hq));cases e3;have e4:=hy.symm.trans (e2 _ (g.sqT hq2));cases e4;obtain ⟨d,hd,rd⟩:=hr.get hx;have g2:=g.trans (qe hp (.tup [xs[i],.str fs[i]]));have hm:(ds.zip fs)[i]?=some (d,fs[i]):=D3.mpr ⟨hd,hf⟩;refine ⟨p,_,rfl,SqT.of upd_same,rfl,_,_,rfl,_,_,rfl,rfl,?_⟩;show te (((j6 js σ).set 0 (some xs[i])).set 1 (some (.str fs[i]))) _ (fun z H5=>qv H H5∧((ds.zip fs).take i).map (fun p=>fv p.1 p.2)++[z]=((ds.zip fs).take (i+1)).map fun p=>fv p.1 p.2);refine step _ d _ _ _ g2 (Ay hm) (rd.same g2) fun H5 g5=>⟨g2.trans g5,?_⟩;rw [Bb,hm,Ah];rfl
 ·obtain ⟨g,rfl⟩:=h;refine ⟨⟨xs,_,g.sqT hq,g.sqT hq2,.inl ⋯⟩,fun D hD=>?_⟩;rw [← hzip,Bo];exact fin H' D g hD
inductive spForm (K:Frag) (vs:List V) (H:Hp) (Q:VK) (E':XK):Prop
 | mk:∀ x d sh hands,(vs=[x,.str sh,.bl hands])→(Rep K H x d)→(Tre.fit d=true)→((Tre.heads.lookup sh).isSome=true)→(∀ H',qv H H'→Q (.bl (Tre.qI d sh hands)) H')→spForm K vs H Q E'
def Qd (K:Frag):TS:=zV (tCB (fun xs H Q=>∃ a bs,xs=[V.ref a]∧SqL K H a (List.map V.bl bs)∧Q (V.bl (bs.all id)) H) (qf (jM (qlc K (qf (tSl (qbf K) (qg 0) (yO (tC (V.int 1))) wb) (qf (qg 4) qp))) [none,none] (W7 K 2 (jb (qm 0) (jb (qm 1) Yl))) vQ (qG (spShape K) [] E0 (qf (qg 0) (qf (qg 1) qp)))) qp))
def Qc (K:Frag):TS:=qB (zJ (qJ (tOp rNe (tCB (fun xs H Q=>∃ x n,xs=[x]∧Vo K x H n∧Q (V.int ↑n) H) (qf (qg 0) qp)) (tOp jh (tCB (fun xs H Q=>∃ x n,xs=[x]∧Vo K x H n∧Q (V.int ↑n) H) (qf (qg 4) qp)) (tC (V.int 1))))) (zV (tC (V.bl false))) zu) (Qd K)
def Qb (K:Frag):TS:=qB (qP (qce K Tre.forms (qg 3)) (qm 4)) (Qc K)
def Qa (K:Frag):TS:=qB (zJ (wF (qJ (tOp rEq (qg 3) (tC (V.str "hand")))) (Ql (tB (qg 2)))) (zV (tC (V.bl false))) zu) (Qb K)
def Z9 (K:Frag):TS:=qB (zJ (qJ (tOp (rIn K true) (qg 3) (qce K Tre.heads (qg 1)))) (zV (tC (V.bl false))) zu) (Qa K)
def Z8 (K:Frag):TS:=qB (qP (tOp (rIx K) (qg 0) (tC (V.int 0))) (qm 3)) (Z9 K)
theorem QI (F:Fun K "has_form" "has_form" vB f fd) (c:Cs K mg ad) (T:Tb P w K mg) (d_has_shape:Def P w K mg base 3 "has_shape" ["thing","shape"] (spShape K)):FnOk P w K mg base CX0 4 f fd ["thing","shape","hands"] (spForm K):=by
 refine F.ok vZ (fun vs H Q E h=>?_) (fun cdv A outer s H vs Q E hr h=>?_)
 ·obtain ⟨x,d,sh,hands,rfl,_⟩:=h;rfl
 obtain ⟨x,d,sh,hands,rfl,hk,ft,hsh,q⟩:=h;refine ⟨_,(qd (qK (PW.pt (JW (jV (jg (qx (jt (K:=K) rfl) (by rfl) c.isinstance_ qH (qb (pv 0) (qb (Js c.tuple_ zx) qc))))) (JW (qr zN (qx (jY (K:=K) rfl) (by rfl) c.len_ z9 (qb (pv 0) qc)) qh (qz _)) (Jq (jV (jg (qx (jt (K:=K) rfl) (by rfl) c.isinstance_ qH (qb (pix K (pv 0) qh) (qb (Js c.str_ w4) qc))))))))) (qi (qw jw)) qy)
   (qd (pst 3 vZ.nd (pix K (pv 0) qh))
   (qd (qK (qr (Ya (K:=K) rfl) (pv 3) (Zo (K:=K) rfl T.HEADS (pv 1) (fun _ _=>rfl)) rfl) (qi (qw jw)) qy)
   (qd (qK (PW.pt (J8 (qr zN (pv 3) qq (qz _)) (JA (jV (jg (pv 2)))))) (qi (qw jw)) qy)
   (qd (pst 4 vZ.nd (Zo (K:=K) rfl T.FORMS (pv 3) (fun _ _=>rfl)))
   (qd (qK (qr XL (qx (jY (K:=K) rfl) (by rfl) c.len_ z9 (qb (pv 0) qc)) (qt zi (qx (jY (K:=K) rfl) (by rfl) c.len_ z9 (qb (pv 4) qc)) qh) (qz _)) (qi (qw jw)) qy)
   (qi (qw (qx (qac (K:=K) rfl rfl) (by rfl) c.all_ Yw (qb (zX (sc:=ql vB) (NX:=["thing","shape","hands","head","shapes"]) (N:=["one","wanted"]) (js:=[none,none]) (qgf (K:=K) rfl c.zip_ (qb (JM (qbb (K:=K) rfl) (pv 0) (JY qh) Vr) (qb (pv 4) qc))) (fun _ _ _ _ _=>(WN (K:=K) (n:=2) rfl rfl (zb (zh (i:=0) (show (["one","wanted"]:List Str).Nodup from ∅) rfl (Or.inl rfl)) (zb (zh (i:=1) (show (["one","wanted"]:List Str).Nodup from ∅) rfl (Or.inl rfl)) JZ)))) (fun _ _ _ _ _=>jp) (fun _ _ _ _ _=>(pdf d_has_shape (qb (pv 0) (qb (pv 1) qc)))) (Zp rfl rfl) ⟨∅,rfl,∅,∅,rfl,∅⟩) qc)))))))))),?_⟩
 show qB (zJ (tOr (Ql (tB (tCB (fun xs H Q=>∃ x d T,xs=[x,V.ty T]∧Rep K H x d∧T∈["bool","int","str","list","tuple"]∧Q (V.bl (isi (tyD d) T)) H) (qf (qg 0) (qf (tC (V.ty "tuple")) qp))))) (tOr (qJ (tOp rEq (tCB (fun xs H Q=>∃ x n,xs=[x]∧Vo K x H n∧Q (V.int ↑n) H) (qf (qg 0) qp)) (tC (V.int 0)))) (Ql (tB (tCB (fun xs H Q=>∃ x d T,xs=[x,V.ty T]∧Rep K H x d∧T∈["bool","int","str","list","tuple"]∧Q (V.bl (isi (tyD d) T)) H) (qf (tOp (rIx K) (qg 0) (tC (V.int 0))) (qf (tC (V.ty "str")) qp))))))) (zV (tC (V.bl false))) zu) (Z8 K) _ _ _;have q0:=q H (qv.refl _);have hk2:=hk;refine ⟨_,rfl,_,_,"tuple",rfl,hk2,O0,_,rfl,?_⟩;cases hk with
 | @tup a xs ds hq hs=>
  refine QQ ⟨_,rfl,_,_,rfl,.inr ⟨_,hq,rfl⟩,rfl,_,rfl,?_⟩;cases hs with
  | nil=>exact vF (vF q0)
  | @cons y ys e es r rs=>
   refine qO (show decide _=false from As fun z=>by have:=V.int.inj z;rw [Ak] at this;omega) ?_
   have hy:atI (y::ys) 0=some y:=qo (j:=0) rfl;refine ⟨_,rfl,.inr (.inl ⟨_,_,0,_,rfl,rfl,hq,hy,_,_,"str",rfl,r,O0,_,rfl,?_⟩)⟩;cases r with
   | str h=>
    refine QQ ?_;refine ⟨_,rfl,.inr (.inl ⟨_,_,0,_,rfl,rfl,hq,hy,?_⟩)⟩;obtain ⟨l,hl⟩:=Option.isSome_iff_exists.mp hsh;refine ⟨_,rfl,_,rfl,sh,l,rfl,hl,fun a2 ha2=>⟨a2,_,rfl,.inr (ha2 H),rfl,qeq l,_,rfl,?_⟩⟩;have hin:(((Tre.heads.lookup sh).getD []).any fun y=>y==h)=l.any fun y=>y==h:=by rw [hl];rfl
    have q1:=q0;simp only [Tre.qI,hin] at q1
    by_cases hm:(l.any fun y=>y==h)=true
    ·refine qO (show (!inV (.str h) (l.map V.str))=false by rw [wt,hm];rfl) ?_
     rw [hm,Cv] at q1;obtain ⟨_,_,_,fs,hfs,hf5⟩:=Tre.XY (hin.trans hm);refine ⟨_,rfl,rfl,_,rfl,?_⟩
     by_cases hb:(h=="hand"&&!hands)=true
     ·rw [Ae,A4] at hb;obtain ⟨rfl,hb⟩:=hb;refine qX (show decide _=true from Al rfl) ⟨_,rfl,_,rfl,qX hb ?_⟩;rw [hb] at q1;exact q1
     ·have hb':=Bz.mpr hb;have q2:∀ H',qv H H'→Q (.bl (Tre.zQ es fs)) H':=fun H' g=>by
       have:=q H' g;simp only [Tre.qI,hin,hm,hb',hfs,Cv,Bool.not_false,Option.getD_some] at this;exact this
      refine Vd (fun c1=>⟨_,rfl,_,rfl,qO ?hd ?g1⟩) (fun _=>QQ ?g2)
      case hd=>
       have c1':h="hand":=V.str.inj (A3 c1);rw [c1'] at hb';simpa using hb'
      all_goals
       refine ⟨_,rfl,h,fs,rfl,hfs,fun a3 ha3=>?_⟩;refine ⟨_,rfl,_,_,rfl,.inr ⟨_,hq,rfl⟩,_,rfl,_,_,rfl,.inr ⟨_,ha3 H,rfl⟩,.inl ⟨_,_,rfl,rfl,rfl,_,rfl,?_⟩⟩;have hys:=rs.length
       by_cases hlen:es.length=fs.length
       ·refine qO (show (!decide _)=false by
         rw [Bool.not_eq_false',Dj,Ab,Ak,hys,hlen];rfl) ?_
        refine ⟨_,rfl,_,rfl,.inr (.inr ⟨a,_,rfl,hq,ZQ _ _,fun p hp=>?_⟩)⟩;rw [qlk];have g1:=qe hp (.tup ys);refine ⟨_,rfl,p,a3,rfl,⟨ys,SqT.of upd_same⟩,⟨_,ha3 _⟩,qew (SqT.of upd_same) (rs.same g1) (ha3 _) hlen (A0 ⋯ (show 5≤sizeLine from O0)) (fun d sh=>V.bl (Tre.qA d sh)) (fun x d sh H' R g hd rd hR=>?_) (fun H' D g hD=>?_)⟩
        ·have ft':Tre.fit d=true:=by
          rw [Tre.fit,Tre.Jr,Ae] at ft;exact Tre.JP ft.2 d (Dg hd).1
         exact ⟨_,rfl,_,rfl,_,_,_,rfl,rd,ft',fun H5 g5=>hR H5 g5⟩
        ·have q3:=q2 _ ((g1.trans g).trans (qe hD (.lst ((es.zip fs).map fun p=>V.bl (Tre.qA p.1 p.2)))));refine ⟨D,(es.zip fs).map fun p=>Tre.qA p.1 p.2,rfl,SqL.of (by rw [upd_same,Bx];rfl),?_⟩
         have e3:Tre.zQ es fs=((es.zip fs).map fun p=>Tre.qA p.1 p.2).all id:=by
          unfold Tre.zQ;rw [Al hlen,Cv,C9];rfl
         rw [e3] at q3;exact q3
       ·refine qX (show (!decide _)=true by
         rw [Ev,decide_eq_false_iff_not,Ab,Ak,hys];intro z;have:=V.int.inj z;omega) ?_
        have q3:=q2 H (qv.refl _);unfold Tre.zQ at q3;rw [As hlen,Cz] at q3;exact q3
    ·have hm':=Bz.mpr hm;refine qX (show (!inV (.str h) (l.map V.str))=true by rw [wt,hm'];rfl) ?_
     rw [hm',Cz,Cz] at q1;exact q1
   | _=>exact vF q0
 | _=>exact vF (vF q0)
end
abbrev Lp (J:It) (g:TG) (tb:TS) (D:Ends) (σ:St) (H:Hp):Prop:=
 ∃ W:Nat→Nat→St→Hp→Prop,(∃ m,W 0 m σ H)∧∀ i m σ H,W i m σ H→
  (J.stop i H∧D.nx σ H)∨(J.go i H∧∃ N:St→Hp→Prop,(∀ σ' H',N σ' H'→∃ m',m'<m∧W (i+1) m' σ' H')∧∀ x H',J.yld i H x H'→g x σ H' fun σ2 H2=>tb {D with nx:=N,ct:=N,bk:=D.nx} σ2 H2)
theorem qbz {J:It} {g:TG} {tb:TS} {D:Ends} {σ:St} {H:Hp} (n:Nat) (Pv:Nat→St→Hp→Prop) (h0:Pv 0 σ H)
  (hs:∀ i σ H,i<n→Pv i σ H→J.go i H∧∀ x H',J.yld i H x H'→g x σ H' fun σ2 H2=>tb {D with nx:=Pv (i+1),ct:=Pv (i+1),bk:=D.nx} σ2 H2) (hd:∀ σ H,Pv n σ H→J.stop n H∧D.nx σ H):
  Lp J g tb D σ H:=by
 refine ⟨fun i m σ H=>m=n - i∧i≤n∧Pv i σ H,⟨n,by simp,Bw _,h0⟩,fun i m σ H h=>?_⟩
 obtain ⟨rfl,hi,p⟩:=h
 by_cases lt:i<n
 ·obtain ⟨a,b⟩:=hs i σ H lt p;exact .inr ⟨a,Pv (i+1),fun σ' H' p'=>⟨n - (i+1),⋯,rfl,lt,p'⟩,b⟩
 ·obtain rfl:i=n:=⋯;exact .inl (hd σ H p)
theorem jZ {J:It} {g:TG} {tb:TS} {D:Ends} {σ:St} {H:Hp} (n:Nat) (Pv:Nat→St→Hp→Prop) (h0:Pv 0 σ H)
  (hs:∀ i σ H,i<n→Pv i σ H→J.go i H∧∀ x H',J.yld i H x H'→∀ D':Ends,(∀ σ H,Pv (i+1) σ H→D'.nx σ H)→(∀ v H,D.rt v H→D'.rt v H)→g x σ H' fun σ2 H2=>tb D' σ2 H2) (hd:∀ σ H,Pv n σ H→J.stop n H∧D.nx σ H):
  Lp J g tb D σ H:=
 qbz n Pv h0 (fun i σ H hi p=>⟨(hs i σ H hi p).1,fun x H' y=>(hs i σ H hi p).2 x H' y _ (fun _ _ h=>h) fun _ _ h=>h⟩) hd
theorem Ym {K:Frag} {a:Addr} {ws:List V} {ds:List PyData} {H0:Hp} {k:Nat} {tb:TS} {D:Ends} {σ:St} {H:Hp} (rs:Reps K H0 ws ds) (Pv:Nat→St→Hp→Prop) (h0:Pv 0 σ H) (sq:∀ i σ H,Pv i σ H→SqT K H a ws)
  (hs:∀ i σ H v d,i<ds.length→ds[i]?=some d→Rep K H0 v d→Pv i σ H→∀ D':Ends,(∀ σ H,Pv (i+1) σ H→D'.nx σ H)→(∀ v H,D.rt v H→D'.rt v H)→tb D' (σ.set k (some v)) H) (hd:∀ σ H,Pv ds.length σ H→D.nx σ H):
  Lp (Itt K a) (qm k) tb D σ H:=by
 have hl:=rs.length;refine jZ ds.length Pv h0 (fun i σ H hi p=>?_) fun σ H p=>⟨⟨ws,sq _ σ H p,⋯⟩,hd σ H p⟩;have hx:ws[i]?=some (ws[i]'⋯):=Af ⋯;obtain ⟨d,he,rd⟩:=rs.get hx;refine ⟨⟨ws,_,sq i σ H p,hx⟩,fun v H' yl=>?_⟩;obtain ⟨rfl,hv⟩:=yl;have ev:=Bg (hx.symm.trans (hv ws (sq i σ H' p)));rw [← ev];exact hs i σ H' _ d hi he rd p
theorem qg7 {K:Frag} {a:Addr} {ws:List V} {ds:List PyData} {H0:Hp} {k:Nat} {tb:TS} {D:Ends} {σ:St} {H:Hp} (rs:Reps K H0 ws ds) (Pv:Nat→St→Hp→Prop) (h0:Pv 0 σ H) (sq:∀ i σ H,Pv i σ H→SqL K H a ws)
  (hs:∀ i σ H v d,i<ds.length→ds[i]?=some d→Rep K H0 v d→Pv i σ H→∀ D':Ends,(∀ σ H,Pv (i+1) σ H→D'.nx σ H)→(∀ v H,D.rt v H→D'.rt v H)→tb D' (σ.set k (some v)) H) (hd:∀ σ H,Pv ds.length σ H→D.nx σ H):
  Lp (Itl K a) (qm k) tb D σ H:=by
 have hl:=rs.length;refine jZ ds.length Pv h0 (fun i σ H hi p=>?_) fun σ H p=>⟨⟨ws,sq _ σ H p,⋯⟩,hd σ H p⟩;have hx:ws[i]?=some (ws[i]'⋯):=Af ⋯;obtain ⟨d,he,rd⟩:=rs.get hx;refine ⟨⟨ws,_,sq i σ H p,hx⟩,fun v H' yl=>?_⟩;obtain ⟨rfl,hv⟩:=yl;have ev:=Bg (hx.symm.trans (hv ws (sq i σ H' p)));rw [← ev];exact hs i σ H' _ d hi he rd p
abbrev Prs (K:Frag) (H0 H:Hp):List V→List (PyData×Str)→Prop:=Paired fun (y:V) (q:PyData×Str)=>∃ a x,y= .ref a∧H a=some (.tup [x,.str q.2])∧Rep K H0 x q.1
section
variable {P:Program} {w:World} {K:Frag} {mg:Str→Option Value} {base:Heap} {f:Addr} {fd:FuncData} {ad:Ad}
theorem Prs.write {H0 H:Hp} {p:Addr} {zs:List V} {o:HO} {ys:List V} {l:List (PyData×Str)} (hp:H p=some (.lst zs)) (h:Prs K H0 H ys l):Prs K H0 (upd H p o) ys l:=
 L2.Paired.mapP h fun y q ⟨a,x,e,ha,r⟩=>⟨a,x,e,by rw [qk (qgn ha hp (by intro z;cases z))];exact ha,r⟩
theorem Prs.same {H0 H H':Hp} {ys:List V} {l:List (PyData×Str)} (g:qv H H') (h:Prs K H0 H ys l):Prs K H0 H' ys l:=L2.Paired.mapP h fun _ _ ⟨a,x,e,ha,r⟩=>⟨a,x,e,g _ _ ha,r⟩
theorem Prs.append {H0 H:Hp}:∀ {ys zs:List V} {l m:List (PyData×Str)},Prs K H0 H ys l→Prs K H0 H zs m→Prs K H0 H (ys++zs) (l++m)
 | _,_,_,_,.nil,h=>h
 | _,_,_,_,.cons r t,h=> .cons r (Prs.append t h)
def prD (q:PyData×Str):PyData:= .tuple [q.1,.str q.2]
theorem Prs.reps {H0 H:Hp} (g:qv H0 H):∀ {ys:List V} {l:List (PyData×Str)},Prs K H0 H ys l→Reps K H ys (l.map prD)
 | _,_,.nil=> .nil
 | _,_,.cons (a:=y) (b:=q) h t=>by
  obtain ⟨a,x,rfl,ha,r⟩:=h;exact .cons (.tup (SqT.of ha) (.cons (r.same g) (.cons (.str _) .nil))) (Prs.reps g t)
theorem qE {H H':Hp} {p:Addr} (g:qv H H') (h:H p=none) (o:HO):qv H (upd H' p o):=fun b u q=>by rw [qk (qD q h)];exact g b u q
inductive spInner (K:Frag) (vs:List V) (H:Hp) (Q:VK) (E':XK):Prop
 | mk:∀ x d sh hands H0,(vs=[x])→(qv H0 H)→(Rep K H0 x d)→(Tre.qI d sh hands=true)→(∀ H' p zs,qv H H'→H p=none→H' p=some (.lst zs)→Prs K H0 H' zs (Tre.zw d)→Q (.ref p) H')→spInner K vs H Q E'
theorem qgp {sh:Str} (h:(sh=="terms"||sh=="body")=true):Tre.JB.lookup sh=some ((Tre.JB.lookup sh).getD ""):=by
 rw [B6,A4,A4] at h;rcases h with rfl | rfl <;> decide+kernel
theorem ZI (sh a b:Str):inV (.str sh) [.str a,.str b]=(sh==a||sh==b):=by
 rw [show ([.str a,.str b]:List V)=[a,b].map V.str from rfl,wt];simp only [Cw,List.any_nil,Ea,Bool.beq_comm]
theorem qj9 {sh:Str} {d:PyData} (h:(sh=="terms"||sh=="body")=true) (hs:Tre.qA d sh=true):∃ ds,d= .tuple ds∧ds.length≤12:=by
 have row:∀ m,m≤12→Tre.J1 d m=true→∃ ds,d= .tuple ds∧ds.length≤12:=fun m hm h=>by
  cases d with
  | tuple ds=>exact ⟨ds,rfl,A0 (A3 h) hm⟩
  | _=>cases h
 rw [B6,A4,A4] at h;rcases h with rfl | rfl
 ·rw [Tre.jE] at hs;exact row 4 O0 hs
 ·rw [Tre.jl] at hs;exact row 12 O0 hs
theorem _root_.L2.Rep.tup_inv {H:Hp} {x:V} {ds:List PyData} (h:Rep K H x (.tuple ds)):∃ a xs,x= .ref a∧SqT K H a xs∧Reps K H xs ds:=by
 cases h with
 | tup hq hs=>exact ⟨_,_,rfl,hq,hs⟩
inductive Iv_TreF_0 (K:W.Frag) (H:Hp) (H0:Hp) (es:List PyData) (fs:List Str) (a:Addr) (ys:List V) (p0:Addr) (p1:Addr) (i:Nat) (σ:St) (H':Hp):Prop
 | mk:∀ o2 o3 zs,(σ=[some (.ref a),some (.ref p0),o2,o3])→(qv H H')→(H' p1=some (.tup ys))→(H' p0=some (.lst zs))→(Prs K H0 H' zs (((es.zip fs).take i).flatMap fun p=>Tre.qj p.1 p.2))→(zs.length≤12*i)→Iv_TreF_0 K H H0 es fs a ys p0 p1 i σ H'
def vV (K:Frag):TS:=zz (tBM K "list" jU (qg 1) (qf (jM (jD K (qg 2)) [none,some 3] (qm 0) vQ (Ji (qf (qg 0) (qf (qje Tre.JB (qg 1)) qp)))) qp))
def vU (K:Frag):TS:=zz (tBM K "list" zM (qg 1) (qf (Ji (qf (qg 2) (qf (qg 3) qp))) qp))
def vT (K:Frag):TS:=zJ (qJ (tOp (rIn K false) (qg 3) (Ji (qf (tC (V.str "terms")) (qf (tC (V.str "body")) qp))))) (vV K) zu
def vS (K:Frag):TS:=zJ (qJ (tOp rEq (qg 3) (tC (V.str "term")))) (vU K) (vT K)
def vR (K:Frag):TS:=qB (Jv (qlc K (qf (tSl (qbf K) (qg 0) (yO (tC (V.int 1))) wb) (qf (qce K Tre.forms (tOp (rIx K) (qg 0) (tC (V.int 0)))) qp))) (W7 K 2 (jb (qm 2) (jb (qm 3) Yl))) (vS K)) (zV (qg 1))
theorem v8 (F:Fun K "inner_with_shapes" "inner_with_shapes" zW f fd) (c:Cs K mg ad) (T:Tb P w K mg):FnOk P w K mg base CX0 1 f fd ["part"] (spInner K):=by
 refine F.ok zR (fun vs H Q E h=>?_) (fun cdv A outer s H vs Q E hr h=>?_)
 ·obtain ⟨x,d,sh,hands,H0,rfl,_⟩:=h;rfl
 obtain ⟨x,d,sh,hands,H0,rfl,gH,hk,hf,q⟩:=h;obtain ⟨hd,es,fs,_,rfl,_,_,hfs,hf5,hlen,hsh,_⟩:=Tre.qZ hf;refine ⟨_,(qd (pst 1 zR.nd (zg qc))
   (qd (zT Bh rfl (qgf (K:=K) rfl c.zip_ (qb (JM (qbb (K:=K) rfl) (pv 0) (JY qh) Vr) (qb (Zo (K:=K) rfl T.FORMS (pix K (pv 0) qh) (fun _ _=>rfl)) qc))) (WN (K:=K) (n:=2) rfl rfl (zb (pgn 2 zR.nd) (zb (pgn 3 zR.nd) JZ))) (qi (qK (qr zN (pv 3) qq (qz _)) (qi (qT (Jn (K:=K) rfl Ax Bu Bs zC (pv 1) (qb (qQ (qb (pv 2) (qb (pv 3) qc))) qc)))) (qi (qK (qr (Yh (K:=K) rfl) (pv 3) (qQ (qb qq (qb qq qc))) rfl) (qi (qT (Jn (K:=K) rfl Ax Ch Ci jH (pv 1) (qb (zX (sc:=ql zW) (NX:=["part","found","thing","shape"]) (N:=["one","shape"]) (js:=[none,some 3]) (j5 (K:=K) rfl (pv 2)) (fun _ _ _ _ _=>(zh (i:=0) (show (["one","shape"]:List Str).Nodup from ∅) rfl (Or.inl rfl))) (fun _ _ _ _ _=>jp) (fun _ _ _ _ _=>(qQ (qb (pv 0) (qb (qif T.MEMBERS (pv 1) (fun _ _=>rfl)) qc)))) (zA rfl) ⟨∅,rfl,∅,∅,rfl,∅⟩) qc)))) qy)))))
   (qi (qw (pv 1))))),?_⟩
 show qB (qP (Ju qp) (qm 1)) (vR K) _ _ _;cases hk with
 | @tup a xs ds hq hs=>
  cases hs with
  | @cons y ys e es' r rs=>
   cases r;have hys:=rs.length;refine ⟨(O0:0≤sizeLine),fun p0 hp0=>?_⟩;have g0:=qe hp0 (.lst []);refine ⟨_,rfl,_,rfl,.inr (.inr ⟨a,_,rfl,(gH.trans g0).sqT hq,ZQ _ _,fun p1 hp1=>?_⟩)⟩;rw [qlk];have g1:=g0.trans (qe hp1 (.tup ys));have n01:p0≠p1:=qD upd_same hp1;refine ⟨_,rfl,.inr (.inl ⟨_,_,0,_,rfl,rfl,(gH.trans g1).sqT hq,qo (j:=0) rfl,hd,fs,rfl,hfs,fun a3 ha3=>⟨p1,a3,rfl,⟨ys,SqT.of upd_same⟩,⟨_,ha3 _⟩,?_⟩⟩)⟩;refine jZ es.length (Iv_TreF_0 K H H0 es fs a ys p0 p1) ?_ (fun i σ H2 hi h=>?_) (fun σ H2 h=>?_)
   ·exact ⟨none,none,[],rfl,g1,upd_same,by rw [qk n01];exact upd_same,.nil,Ag _⟩
   ·obtain ⟨o2,o3,zs,rfl,g2,h1,h0,pr,hz⟩:=h;obtain ⟨yi,hx⟩:=Vf (l:=ys) (i:=i) ⋯;obtain ⟨sh1,hfi⟩:=Vf (l:=fs) (i:=i) ⋯;have hy:(fs.map V.str)[i]?=some (.str sh1):=by rw [Ar,hfi];rfl
    refine ⟨⟨ys,_,_,_,SqT.of h1,ha3 _,hx,hy⟩,fun v H3 yl D' hn _=>?_⟩;obtain ⟨q1,xx,yy,hq1,rfl,e1,e2,rfl⟩:=yl;have e3:=hx.symm.trans (e1 ys (SqT.of h1));cases e3;have e4:=hy.symm.trans (e2 _ (ha3 _));cases e4;obtain ⟨d,hd',rd⟩:=rs.get hx;have hm:(es.zip fs)[i]?=some (d,sh1):=D3.mpr ⟨hd',hfi⟩;have hshape:Tre.qA d sh1=true:=hsh _ (Ay hm);have step:((es.zip fs).take (i+1)).flatMap (fun p=>Tre.qj p.1 p.2)=((es.zip fs).take i).flatMap (fun p=>Tre.qj p.1 p.2)++Tre.qj d sh1:=by
     rw [Bb,hm,Ck];simp
    have g3:=qe hq1 (.tup [yi,.str sh1]);refine ⟨q1,_,rfl,SqT.of upd_same,rfl,_,_,rfl,_,_,rfl,rfl,?_⟩;have h0':=g3 _ _ h0;have h1':=g3 _ _ h1;have pr':=pr.same g3;have g2':=g2.trans g3;generalize upd H2 q1 (.tup [yi,.str sh1])=H3 at h0' h1' pr' g2' ⊢;refine ⟨_,rfl,rfl,_,rfl,?_⟩
    by_cases ht:sh1="term"
    ·refine qX (show decide _=true from Al (congrArg V.str ht)) ?_;refine ⟨_,rfl,.inl ⟨rfl,zs,SqL.of h0'⟩,_,rfl,_,rfl,(O0:2≤sizeLine),fun q2 hq2=>?_⟩;have g4:=qe hq2 (.tup [yi,.str sh1]);refine ⟨p0,zs,_,rfl,rfl,g4 _ _ h0',Cf (show zs.length≤100 from ⋯) O0,?_⟩;have e5:Tre.qj d sh1=[(d,sh1)]:=by unfold Tre.qj;rw [if_pos (A4.mpr ht)]
     refine hn _ _ ⟨_,_,zs++[.ref q2],rfl,qE (g2'.trans g4) hp0 _,?_,upd_same,?_,?_⟩
     ·rw [qk (Ne.symm n01)];exact g4 _ _ h1'
     ·rw [step,e5];refine Prs.append (Prs.write (g4 _ _ h0') (pr'.same g4)) (.cons ⟨q2,yi,rfl,?_,rd⟩ .nil);rw [qk (Ne.symm (qD h0' hq2))];exact upd_same
     ·rw [Ac,Av];omega
    ·refine qO (show decide _=false from As fun z=>ht (V.str.inj z)) ?_;refine ⟨_,rfl,(O0:2≤sizeLine),fun q2 hq2=>⟨q2,_,rfl,.inr (SqT.of upd_same),rfl,rfl,_,rfl,?_⟩⟩;have g4:=qe hq2 (.tup [.str "terms",.str "body"]);have h0'':=g4 _ _ h0';have h1'':=g4 _ _ h1';have pr'':=pr'.same g4;have g2'':=g2'.trans g4;generalize upd H3 q2 (.tup [.str "terms",.str "body"])=H4 at h0'' h1'' pr'' g2'' ⊢;have ht':(sh1=="term")=false:=Bk.mpr ht
     by_cases hb:(sh1=="terms"||sh1=="body")=true
     ·refine qX (show inV _ _=true from (ZI sh1 "terms" "body").trans hb) ?_;obtain ⟨ds2,rfl,h12⟩:=qj9 hb hshape;obtain ⟨at',ws,ew,hw,hrs⟩:=rd.tup_inv;have hwl:=hrs.length;refine ⟨_,rfl,.inl ⟨rfl,zs,SqL.of h0''⟩,_,rfl,.inr (.inl ⟨at',ew,⟨ws,(gH.trans g2'').sqT hw⟩,?_⟩)⟩;refine zD ds2.length (fun j vs H'=>qv H4 H'∧Prs K H0 H' vs ((ds2.take j).map fun z=>(z,(Tre.JB.lookup sh1).getD ""))) ⟨qv.refl _,.nil⟩ (fun j vs H' h=>?_) (A0 h12 O0) (fun j vs H' hj h=>?_) (fun vs H' h=>?_)
      ·have:=Cm h.2;rw [this,Ab];exact B0 _ _
      ·obtain ⟨g5,pv⟩:=h;have hw2:=(gH.trans (g2''.trans g5)).sqT hw;have hxw:ws[j]?=some ws[j]:=Af ⋯;refine ⟨⟨ws,_,hw2,hxw⟩,fun v H6 yl=>?_⟩;obtain ⟨rfl,hv⟩:=yl;have e6:=hxw.symm.trans (hv ws hw2);cases e6;obtain ⟨dd,hdd,rdd⟩:=hrs.get hxw;refine ⟨_,rfl,_,rfl,sh1,_,rfl,qgp hb,(O0:2≤sizeLine),fun q3 hq3=>⟨g5.trans (qe hq3 _),?_⟩⟩;rw [Bb,hdd,Ah];exact Prs.append (pv.same (qe hq3 _)) (.cons ⟨q3,ws[j],rfl,upd_same,rdd⟩ .nil)
      ·obtain ⟨g5,pv⟩:=h;refine ⟨⟨ws,(gH.trans (g2''.trans g5)).sqT hw,⋯⟩,fun D hD=>?_⟩;rw [Bo] at pv;have hvl:=Cm pv;rw [Ab] at hvl;have g6:=g5.trans (qe hD (.lst vs));refine ⟨p0,D,zs,vs,rfl,rfl,g6 _ _ h0'',upd_same,A0 (show zs.length+vs.length≤100 from ⋯) O0,?_⟩;have e5:Tre.qj (.tuple ds2) sh1=ds2.map fun z=>(z,(Tre.JB.lookup sh1).getD ""):=by
        unfold Tre.qj;rw [if_neg (by rw [ht'];exact Ai),if_pos hb]
       refine hn _ _ ⟨_,_,zs++vs,rfl,qE (g2''.trans g6) hp0 _,?_,upd_same,?_,?_⟩
       ·rw [qk (Ne.symm n01)];exact g6 _ _ h1''
       ·rw [step,e5];exact Prs.append (Prs.write (g6 _ _ h0'') (pr''.same g6)) (Prs.write (g6 _ _ h0'') (pv.same (qe hD _)))
       ·rw [Ac];omega
     ·have hb':=Bz.mpr hb;refine qO (show inV _ _=false from (ZI sh1 "terms" "body").trans hb') ?_;have e5:Tre.qj d sh1=[]:=by
       unfold Tre.qj;rw [if_neg (by rw [ht'];exact Ai),if_neg (by rw [hb'];exact Ai)]
      refine hn _ _ ⟨_,_,zs,rfl,g2'',h1'',h0'',?_,⋯⟩;rw [step,e5,An];exact pr''
   ·obtain ⟨o2,o3,zs,rfl,g2,h1,h0,pr,hz⟩:=h;refine ⟨⟨ys,_,SqT.of h1,ha3 _,.inl ⋯⟩,_,rfl,q _ p0 zs g2 hp0 h0 ?_⟩;have e5:Tre.zw (.tuple (.str hd::es))=((es.zip fs).take es.length).flatMap fun p=>Tre.qj p.1 p.2:=by
     show ((es.zip ((Tre.forms.lookup hd).getD [])).flatMap _)=_;rw [hfs,Do (by rw [Ee];omega)]
     rfl
    rw [e5];exact pr
inductive spWithin (K:Frag) (vs:List V) (H:Hp) (Q:VK) (E':XK):Prop
 | mk:∀ x h es hands,(vs=[x,.bl hands])→(Rep K H x (.tuple (.str h::es)))→(∀ H',qv H H'→Q (.bl (Tre.Jo (.tuple (.str h::es)) hands)) H')→spWithin K vs H Q E'
theorem W4 (F:Fun K "hands_within" "hands_within" JL f fd) (c:Cs K mg ad):FnOk P w K mg base CX0 1 f fd ["part","hands"] (spWithin K):=by
 refine F.ok WY (fun vs H Q E h=>?_) (fun cdv A outer s H vs Q E hr h=>?_)
 ·obtain ⟨x,h,es,hands,rfl,_⟩:=h;rfl
 obtain ⟨x,h,es,hands,rfl,hk,q⟩:=h;refine ⟨_,(qd (qK (qr zN (pix K (pv 0) qh) qq (qz _)) (qi (qw jw)) qy)
   (qi (qw (qmg (pv 1) (V1 (Jf (Yh (K:=K) rfl) (pix K (pv 0) qh) (qQ (qb qq (qb qq qc))) rfl)))))),?_⟩
 obtain ⟨a,xs,rfl,hq,hs⟩:=hk.tup_inv;cases hs with
 | @cons y ys e es' r rs=>
  cases r;have e1:Tre.Jo (.tuple (.str h::es)) hands=if h=="fun" then false else hands||(h=="main"||h=="loop"):=rfl
  rw [e1] at q;refine ⟨_,rfl,.inr (.inl ⟨_,_,0,_,rfl,rfl,hq,qo (j:=0) rfl,rfl,_,rfl,?_⟩)⟩
  by_cases hf:h="fun"
  ·refine qX (show decide _=true from Al (congrArg V.str hf)) ?_;rw [if_pos (A4.mpr hf)] at q;exact q _ (qv.refl _)
  ·refine qO (show decide _=false from As fun z=>hf (V.str.inj z)) ?_;rw [if_neg (fun z=>hf (A4.mp z))] at q;refine ⟨_,rfl,_,rfl,?_⟩;cases hands with
   | true=>exact vF (q _ (qv.refl _))
   | false=>
    refine QQ ⟨_,rfl,.inr (.inl ⟨_,_,0,_,rfl,rfl,hq,qo (j:=0) rfl,(O0:2≤sizeLine),fun p hp=>⟨p,_,rfl,.inr (SqT.of upd_same),rfl,rfl,?_⟩⟩)⟩;have q':=q _ (qe hp (.tup [.str "main",.str "loop"]));rw [Bool.false_or,← ZI h "main" "loop"] at q';exact q'
abbrev Trs (K:Frag) (H0 H:Hp):List V→Tre.Lv→Prop:=Paired fun (y:V) (q:PyData×Str×Bool)=>∃ a x,y= .ref a∧H a=some (.tup [x,.str q.2.1,.bl q.2.2])∧Rep K H0 x q.1
theorem Trs.write {H0 H:Hp} {p:Addr} {zs:List V} {o:HO} {ys:List V} {l:Tre.Lv} (hp:H p=some (.lst zs)) (h:Trs K H0 H ys l):Trs K H0 (upd H p o) ys l:=
 L2.Paired.mapP h fun _ _ ⟨a,x,e,ha,r⟩=>⟨a,x,e,by rw [qk (qgn ha hp (by intro z;cases z))];exact ha,r⟩
theorem Trs.same {H0 H H':Hp} {ys:List V} {l:Tre.Lv} (g:qv H H') (h:Trs K H0 H ys l):Trs K H0 H' ys l:=L2.Paired.mapP h fun _ _ ⟨a,x,e,ha,r⟩=>⟨a,x,e,g _ _ ha,r⟩
theorem Trs.append {H0 H:Hp}:∀ {ys zs:List V} {l m:Tre.Lv},Trs K H0 H ys l→Trs K H0 H zs m→Trs K H0 H (ys++zs) (l++m)
 | _,_,_,_,.nil,h=>h
 | _,_,_,_,.cons r t,h=> .cons r (Trs.append t h)
theorem Trs.get {H0 H:Hp}:∀ {ys:List V} {l:Tre.Lv} {i:Nat} {q:PyData×Str×Bool},Trs K H0 H ys l→l[i]?=some q→∃ a x,ys[i]?=some (.ref a)∧H a=some (.tup [x,.str q.2.1,.bl q.2.2])∧Rep K H0 x q.1
 | _,_,_,_,.nil,h=>by simp at h
 | _,_,0,_,.cons ⟨a,x,e,ha,r⟩ t,h=>by
  simp at h;subst h;exact ⟨a,x,by rw [e];rfl,ha,r⟩
 | _,_,i+1,_,.cons r t,h=>by
  simp only [C6] at h ⊢;exact Trs.get t h
theorem Prs.get {H0 H:Hp}:∀ {ys:List V} {l:List (PyData×Str)} {i:Nat} {q:PyData×Str},Prs K H0 H ys l→l[i]?=some q→∃ a x,ys[i]?=some (.ref a)∧H a=some (.tup [x,.str q.2])∧Rep K H0 x q.1
 | _,_,_,_,.nil,h=>by simp at h
 | _,_,0,_,.cons ⟨a,x,e,ha,r⟩ t,h=>by
  simp at h;subst h;exact ⟨a,x,by rw [e];rfl,ha,r⟩
 | _,_,i+1,_,.cons r t,h=>by
  simp only [C6] at h ⊢;exact Prs.get t h
inductive PvP (K:Frag) (x:V) (d:PyData) (H:Hp) (m:Nat) (σ:St) (H':Hp):Prop
 | mk:∀ (L:Addr) (zs:List V) (lv:Tre.Lv) (n sz:Nat) (o4 o5 o6 o7 o8:Option V),(σ=[some x,some (.ref L),some (.int n),some (.int sz),o4,o5,o6,o7,o8])→(qv H H')→(H' L=some (.lst zs))→(H L=none)→(Trs K H H' zs lv)→(m+n=20)→(Tre.yI m sz lv=Tre.j9 d)→((∀ p∈lv,Tre.fit p.1=true∧(Tre.heads.lookup p.2.1).isSome=true))→(sz≤300)→(lv.length≤18000)→PvP K x d H m σ H'
theorem qds (n sz:Nat):Tre.yI n sz []=true:=by cases n <;> rfl
inductive Iv_TreH_0 (K:W.Frag) (H:Hp) (x:V) (L:Addr) (zs:List V) (lv:Tre.Lv) (n:Nat) (sz:Nat) (B:Addr) (i:Nat) (σ:St) (H':Hp):Prop
 | mk:∀ o5 o6 o7 o8 bs,(σ=[some x,some (.ref L),some (.int ((n:Int)+1)),some (.int ((sz:Int)+(zs.length:Nat))),some (.ref B),o5,o6,o7,o8])→(qv H H')→(H' L=some (.lst zs))→(H' B=some (.lst bs))→(Trs K H H' zs lv)→(Trs K H H' bs (Tre.vN (lv.take i)))→(∀ p∈lv.take i,Tre.qI p.1 p.2.1 p.2.2=true)→Iv_TreH_0 K H x L zs lv n sz B i σ H'
def YI (K:Frag):TS:=zz (tBM K "list" jU (qg 4) (qf (jM (jD K (qG (spInner K) [] E0 (qf (qg 5) qp))) [none,none,some 8] (W7 K 2 (jb (qm 0) (jb (qm 1) Yl))) vQ (Ji (qf (qg 0) (qf (qg 1) (qf (qg 2) qp))))) qp))
def YH (K:Frag):TS:=qB (qP (qG (spWithin K) [] E0 (qf (qg 5) (qf (qg 7) qp))) (qm 8)) (YI K)
def YG (K:Frag):TS:=qB (zJ (Ql (tB (qG (spForm K) [] E0 (qf (qg 5) (qf (qg 6) (qf (qg 7) qp)))))) (zV (tC (V.bl false))) zu) (YH K)
def YF (K:Frag):TS:=qB (Jv (jD K (qg 1)) (W7 K 3 (jb (qm 5) (jb (qm 6) (jb (qm 7) Yl)))) (YG K)) (qP (qg 4) (qm 1))
def YE (K:Frag):TS:=qB (qP (Ju qp) (qm 4)) (YF K)
def YD (K:Frag):TS:=qB (zJ (tOr (qJ (tOp (rI0 fun i j=>V.bl (decide (j<i))) (qg 2) (tC (V.int 20)))) (qJ (tOp (rI0 fun i j=>V.bl (decide (j<i))) (qg 3) (tC (V.int 300))))) (zV (tC (V.bl false))) zu) (YE K)
def YC (K:Frag):TS:=qB (qjx 3 (tCB (fun xs H Q=>∃ x n,xs=[x]∧Vo K x H n∧Q (V.int ↑n) H) (qf (qg 1) qp)) (ipI fun i j=>i+j)) (YD K)
def YB (K:Frag):TS:=qB (qjx 2 (tC (V.int 1)) (ipI fun i j=>i+j)) (YC K)
def YA (K:Frag):TS:=qB (vk (fun σ H Q=>qg 1 σ H fun x H'=>∃ k,qe6 K x H' k∧Q k H') (YB K)) (zV (tC (V.bl true)))
def Yz (K:Frag):TS:=qB (qP (tC (V.int 0)) (qm 3)) (YA K)
def yx (K:Frag):TS:=qB (qP (tC (V.int 0)) (qm 2)) (Yz K)
theorem Y2 (F:Fun K "is_program" "is_program" Jy f fd) (c:Cs K mg ad) (d_has_form:Def P w K mg base 4 "has_form" ["thing","shape","hands"] (spForm K)) (d_hands_within:Def P w K mg base 1 "hands_within" ["part","hands"] (spWithin K)) (d_inner_with_shapes:Def P w K mg base 1 "inner_with_shapes" ["part"] (spInner K)):FnOk P w K mg base CX0 5 f fd ["thing"] (spD K Tre.j9):=by
 refine F.ok qV (fun vs H Q E h=>?_) (fun cdv A outer s H vs Q E hr h=>?_)
 ·obtain ⟨x,d,rfl,_⟩:=h;rfl
 obtain ⟨x,d,rfl,hk,ft,q⟩:=h;refine ⟨_,(qd (pst 1 qV.nd (zg (qb (qQ (qb (pv 0) (qb qq (qb jw qc)))) qc)))
   (qd (pst 2 qV.nd qh)
   (qd (pst 3 qV.nd qh)
   (qd (Jl Bh (qkd (K:=K) rfl (pv 1)) (qd (qgc (i:=2) qV.nd rfl (by first | exact Or.inl rfl | exact Or.inr rfl) qh qgx)
   (qd (qgc (i:=3) qV.nd rfl (by first | exact Or.inl rfl | exact Or.inr rfl) (qx (jY (K:=K) rfl) (by rfl) c.len_ z9 (qb (pv 1) qc)) qgx)
   (qd (qK (PW.pt (JW (qr QB (pv 2) (Qw c.MOST_DEPTH) (qz _)) (Jq (qr QB (pv 3) (Qw c.MOST_PARTS) (qz _))))) (qi (qw jw)) qy)
   (qd (pst 4 qV.nd (zg qc))
   (qd (zT Bh rfl (j5 (K:=K) rfl (pv 1)) (WN (K:=K) (n:=3) rfl rfl (zb (pgn 5 qV.nd) (zb (pgn 6 qV.nd) (zb (pgn 7 qV.nd) JZ)))) (qd (qK (jV (jg (pdf d_has_form (qb (pv 5) (qb (pv 6) (qb (pv 7) qc)))))) (qi (qw jw)) qy)
   (qd (pst 8 qV.nd (pdf d_hands_within (qb (pv 5) (qb (pv 7) qc))))
   (qi (qT (Jn (K:=K) rfl Ax Ch Ci jH (pv 4) (qb (zX (sc:=ql Jy) (NX:=["thing","level","depth","size","below","part","shape","hands","within"]) (N:=["inner","inner_shape","within"]) (js:=[none,none,some 8]) (j5 (K:=K) rfl (pdf d_inner_with_shapes (qb (pv 5) qc))) (fun _ _ _ _ _=>(WN (K:=K) (n:=2) rfl rfl (zb (zh (i:=0) (show (["inner","inner_shape","within"]:List Str).Nodup from ∅) rfl (Or.inl rfl)) (zb (zh (i:=1) (show (["inner","inner_shape","within"]:List Str).Nodup from ∅) rfl (Or.inl rfl)) JZ)))) (fun _ _ _ _ _=>jp) (fun _ _ _ _ _=>(qQ (qb (pv 0) (qb (pv 1) (qb (pv 2) qc))))) (Zp rfl rfl) ⟨∅,rfl,∅,∅,rfl,∅⟩) qc)))))))
   (qi (pst 1 qV.nd (pv 4)))))))))
   (qi (qw jw)))))),?_⟩
 show qB (qP (Ju (qf (Ji (qf (qg 0) (qf (tC (V.str "program")) (qf (tC (V.bl false)) qp)))) qp)) (qm 1)) (yx K) _ _ _;refine ⟨_,rfl,(O0:3≤sizeLine),fun p1 hp1=>⟨(O0:1≤sizeLine),fun L0 hL0=>?_⟩⟩;have g0:=(qe hp1 (.tup [x,.str "program",.bl false])).trans (qe hL0 (.lst [.ref p1]));refine ⟨PvP K x d H,⟨20,?_⟩,?_⟩
 ·refine ⟨L0,_,[(d,"program",false)],0,0,none,none,none,none,none,rfl,g0,upd_same,(qe hp1 _).free hL0,?_,rfl,rfl,fun p hp=>?_,O0,by simp⟩
  ·exact .cons ⟨p1,x,rfl,by rw [qk (qD upd_same hL0)];exact upd_same,hk⟩ .nil
  ·rw [Am] at hp;subst hp;exact ⟨ft,by show (Tre.heads.lookup (Str.ofString "program")).isSome=true;decide+kernel⟩
 ·rintro m σ H1 ⟨L,zs,lv,n,sz,o4,o5,o6,o7,o8,rfl,g,hL,hL0',tr,hn,hw,hlv,hsz,hll⟩;refine ⟨_,rfl,_,.inl ⟨zs,SqL.of hL,rfl⟩,?_⟩
  by_cases he:lv=[]
  ·subst he;cases tr;rw [qds] at hw;rw [← hw] at q;exact q _ g
  have hlen:=Cm tr;have hz1:1≤lv.length:=by
   cases lv with
   | nil=>exact absurd rfl he
   | cons _ _=>simp
  have hemp:lv.isEmpty=false:=by
   cases lv with
   | nil=>exact absurd rfl he
   | cons _ _=>rfl
  have qF:Tre.j9 d=false→∀ H',qv H H'→Q (.bl false) H':=fun e H' g'=>e▸q H' g';refine qX (show (!zs.isEmpty)=true by cases zs with | nil=>simp at hlen;omega | cons _ _=>rfl) ?_
  refine ⟨fun σ' H'=>∃ m',m'<m∧PvP K x d H m' σ' H',fun σ' H' h=>h,?_⟩;refine ⟨_,rfl,_,_,rfl,rfl,_,rfl,_,rfl,_,_,rfl,.inl ⟨zs,SqL.of hL,rfl⟩,_,_,rfl,rfl,?_⟩;refine ⟨_,rfl,_,_,rfl,rfl,_,rfl,?_⟩;cases m with
  | zero=>
   refine qX (show decide _=true from Al (by show (20:Int)<(n:Int)+1;omega)) (vF (qF ?_ _ g))
   rw [← hw];exact hemp
  | succ m=>
   refine qO (show decide _=false from As (by show ¬ (20:Int)<(n:Int)+1;omega)) ?_
   refine ⟨_,rfl,_,_,rfl,rfl,_,rfl,?_⟩;rw [Tre.yI,hemp,Bool.false_or] at hw
   by_cases hs:sz+lv.length≤300
   ·refine qO (show decide _=false from As (by show ¬ (300:Int)<(sz:Int)+((zs.length:Nat):Int);omega)) ?_
    rw [Al hs,Cv] at hw;refine ⟨(O0:0≤sizeLine),fun B hB=>?_⟩;have gB:=qe hB (.lst []);have hB0:H B=none:=g.free hB;have nLB:L≠B:=qD hL hB;refine ⟨_,rfl,.inl ⟨L,rfl,⟨zs,SqL.of (gB _ _ hL)⟩,?_⟩⟩;refine jZ lv.length (Iv_TreH_0 K H x L zs lv n sz B) ?_ (fun i σ H2 hi h=>?_) (fun σ H2 h=>?_)
    ·exact ⟨_,_,_,_,[],rfl,g.trans gB,gB _ _ hL,upd_same,tr.same gB,.nil,fun p hp=>by simp at hp⟩
    ·obtain ⟨o5,o6,o7,o8,bs,rfl,g2,hL2,hB2,tr2,trb,hfs⟩:=h;have hqi:lv[i]?=some lv[i]:=Af hi;generalize lv[i]=p at hqi;obtain ⟨a,xi,hzi,hai,rxi⟩:=tr2.get hqi;refine ⟨⟨zs,_,SqL.of hL2,hzi⟩,fun v H3 yl D' hn hr'=>?_⟩;obtain ⟨rfl,hv⟩:=yl;have e1:=hzi.symm.trans (hv zs (SqL.of hL2));cases e1;refine ⟨a,_,rfl,SqT.of hai,rfl,_,_,rfl,_,_,rfl,_,_,rfl,rfl,?_⟩;obtain ⟨hfit,hhd⟩:=hlv p (Ay hqi);refine ⟨_,rfl,_,rfl,_,rfl,xi,p.1,p.2.1,p.2.2,rfl,rxi.same g2,hfit,hhd,fun H4 g4=>⟨_,rfl,?_⟩⟩
     by_cases hf:Tre.qI p.1 p.2.1 p.2.2=true
     ·refine qO (show (!Tre.qI p.1 p.2.1 p.2.2)=false by rw [hf];rfl) ?_
      obtain ⟨hd,es,fs,l,ep,_⟩:=Tre.qZ hf;refine ⟨_,rfl,_,rfl,xi,hd,es,p.2.2,rfl,ep▸rxi.same (g2.trans g4),fun H5 g5=>?_⟩;have g25:=(g2.trans g4).trans g5;have g35:=g4.trans g5;have hB5:=g35 _ _ hB2;refine ⟨_,rfl,.inl ⟨rfl,bs,SqL.of hB5⟩,_,rfl,xi,p.1,p.2.1,p.2.2,H,rfl,g25,rxi,hf,fun H6 p6 ps g6 hp6 hl6 prs=> .inl ⟨p6,rfl,⟨ps,SqL.of hl6⟩,?_⟩⟩;have hpl:=Cm prs;have hil:=Tre.wq hf;refine zD (Tre.zw p.1).length (fun j vs H'=>qv H6 H'∧Trs K H H' vs (((Tre.zw p.1).take j).map fun z=>(z.1,z.2,Tre.Jo p.1 p.2.2))) ⟨qv.refl _,.nil⟩ (fun j vs H' h=>?_) (A0 hil O0) (fun j vs H' hj h=>?_) (fun vs H' h=>?_)
      ·have:=Cm h.2;rw [this,Ab];exact B0 _ _
      ·obtain ⟨g7,tv⟩:=h;have hj2:(Tre.zw p.1)[j]?=some (Tre.zw p.1)[j]:=Af hj;generalize (Tre.zw p.1)[j]=z at hj2;obtain ⟨az,xz,hpz,haz,rxz⟩:=prs.get hj2;refine ⟨⟨ps,_,SqL.of (g7 _ _ hl6),hpz⟩,fun v H8 yl=>?_⟩;obtain ⟨rfl,hv⟩:=yl;have e6:=hpz.symm.trans (hv ps (SqL.of (g7 _ _ hl6)));cases e6;refine ⟨az,_,rfl,SqT.of (g7 _ _ haz),rfl,_,_,rfl,_,_,rfl,rfl,?_⟩;refine ⟨_,rfl,_,rfl,_,rfl,(O0:3≤sizeLine),fun q3 hq3=>⟨g7.trans (qe hq3 _),?_⟩⟩;rw [Bb,hj2,Ah];refine Trs.append (tv.same (qe hq3 _)) (.cons ⟨q3,xz,rfl,?_,rxz⟩ .nil);rw [upd_same,ep]
      ·obtain ⟨g7,tv⟩:=h;refine ⟨⟨ps,SqL.of (g7 _ _ hl6),⋯⟩,fun D hD=>?_⟩;rw [Bo] at tv;have hvl:=Cm tv;rw [Ab] at hvl;have hbl:=Cm trb;have hbb:=Tre.qab hfs;have hti:=B0 i lv;have gD:=qe hD (.lst vs);have g3D:=((g35.trans g6).trans g7).trans gD;refine ⟨B,D,bs,vs,rfl,rfl,g3D _ _ hB2,upd_same,A0 (show bs.length+vs.length≤100000 from ⋯) O0,?_⟩;have eb:Tre.vN (lv.take (i+1))=Tre.vN (lv.take i)++(Tre.zw p.1).map fun z=>(z.1,z.2,Tre.Jo p.1 p.2.2):=by
        unfold Tre.vN;rw [Bb,hqi,Ck];simp
       refine hn _ _ ⟨_,_,_,_,bs++vs,rfl,qE (g2.trans g3D) hB0 _,?_,upd_same,Trs.write (g3D _ _ hB2) (tr2.same g3D),?_,fun p' hp'=>?_⟩
       ·rw [qk nLB];exact g3D _ _ hL2
       ·rw [eb];exact Trs.append (Trs.write (g3D _ _ hB2) (trb.same g3D)) (Trs.write (g3D _ _ hB2) (tv.same gD))
       ·rw [Bb,hqi,Az] at hp';rcases hp' with hp' | hp'
        ·exact hfs p' hp'
        ·simp at hp';subst hp';exact hf
     ·have hf':=Bz.mpr hf;refine qX (show (!Tre.qI p.1 p.2.1 p.2.2)=true by rw [hf'];rfl) (hr' _ _ (qF ?_ _ (g2.trans g4)))
      rw [← hw];have:(List.all lv fun p=>Tre.qI p.1 p.2.1 p.2.2)=false:=by
       rw [List.all_eq_false];exact ⟨p,Ay hqi,hf⟩
      rw [this,Cz]
    ·obtain ⟨o5,o6,o7,o8,bs,rfl,g2,hL2,hB2,tr2,trb,hfs⟩:=h;rw [Bo] at trb hfs;have e1:(n:Int)+1=((n+1:Nat):Int):=⋯;have e2:(sz:Int)+((zs.length:Nat):Int)=((sz+lv.length:Nat):Int):=⋯;have hbb:=Tre.qab hfs;refine ⟨⟨zs,SqL.of hL2,⋯⟩,_,rfl,m,Dn m,B,bs,Tre.vN lv,n+1,sz+lv.length,some (.ref B),o5,o6,o7,o8,?_,g2,hB2,hB0,trb,⋯,?_,fun p hp=>?_,hs,⋯⟩
     ·show [some x,some (.ref B),some (.int ((n:Int)+1)),some (.int ((sz:Int)+((zs.length:Nat):Int))),some (.ref B),o5,o6,o7,o8]=_;rw [e1,e2]
     ·rw [← hw];have:(List.all lv fun p=>Tre.qI p.1 p.2.1 p.2.2)=true:=A8.mpr fun p hp=>hfs p hp;rw [this,Cv]
     ·obtain ⟨q',hq',hp2⟩:=Cj.mp hp;obtain ⟨z,hz,rfl⟩:=Bt.mp hp2;refine ⟨Tre.qel (hlv q' hq').1 hz,?_⟩;rcases Tre.Ye hz with e | e
      ·show (Tre.heads.lookup z.2).isSome=true;rw [e];decide+kernel
      ·show (Tre.heads.lookup z.2).isSome=true;rw [e];decide+kernel
   ·refine qX (show decide _=true from Al (by show (300:Int)<(sz:Int)+((zs.length:Nat):Int);omega)) (qF ?_ _ g)
    rw [← hw,As hs];rfl
inductive spInnerOf (K:Frag) (vs:List V) (H:Hp) (Q:VK) (E':XK):Prop
 | mk:∀ x d sh hands H0,(vs=[x])→(qv H0 H)→(Rep K H0 x d)→(Tre.qI d sh hands=true)→(∀ H' p zs,qv H H'→H p=none→H' p=some (.lst zs)→Reps K H0 zs (Tre.qL d)→Q (.ref p) H')→spInnerOf K vs H Q E'
theorem QH (F:Fun K "inner_of" "inner_of" vA f fd) (c:Cs K mg ad) (d_inner_with_shapes:Def P w K mg base 1 "inner_with_shapes" ["part"] (spInner K)):FnOk P w K mg base CX0 2 f fd ["part"] (spInnerOf K):=by
 refine F.ok Qt (fun vs H Q E h=>?_) (fun cdv A outer s H vs Q E hr h=>?_)
 ·obtain ⟨x,d,sh,hands,H0,rfl,_⟩:=h;rfl
 obtain ⟨x,d,sh,hands,H0,rfl,gH,hk,hf,q⟩:=h;refine ⟨_,(qi (qw (zX (sc:=ql vA) (NX:=["part"]) (N:=["inner","shape"]) (js:=[none,none]) (j5 (K:=K) rfl (pdf d_inner_with_shapes (qb (pv 0) qc))) (fun _ _ _ _ _=>(WN (K:=K) (n:=2) rfl rfl (zb (zh (i:=0) (show (["inner","shape"]:List Str).Nodup from ∅) rfl (Or.inl rfl)) (zb (zh (i:=1) (show (["inner","shape"]:List Str).Nodup from ∅) rfl (Or.inl rfl)) JZ)))) (fun _ _ _ _ _=>jp) (fun _ _ _ _ _=>(pv 0)) (Zp rfl rfl) ⟨∅,rfl,∅,∅,rfl,∅⟩))),?_⟩;show zV (jM (jD K (qG (spInner K) [] E0 (qf (qg 0) qp))) [none,none] (W7 K 2 (jb (qm 0) (jb (qm 1) Yl))) vQ (qg 0)) _ _ _;refine ⟨_,rfl,x,d,sh,hands,H0,rfl,gH,hk,hf,fun H6 p6 ps g6 hp6 hl6 prs=> .inl ⟨p6,rfl,⟨ps,SqL.of hl6⟩,?_⟩⟩;have hpl:=Cm prs;have hil:=Tre.wq hf;refine zD (Tre.zw d).length (fun j vs H'=>qv H6 H'∧Reps K H0 vs (((Tre.zw d).take j).map fun z=>z.1)) ⟨qv.refl _,.nil⟩ (fun j vs H' h=>?_) (A0 hil O0) (fun j vs H' hj h=>?_) (fun vs H' h=>?_)
 ·have:=Reps.length h.2;rw [this,Ab];exact B0 _ _
 ·obtain ⟨g7,tv⟩:=h;have hj2:(Tre.zw d)[j]?=some (Tre.zw d)[j]:=Af hj;generalize (Tre.zw d)[j]=z at hj2;obtain ⟨az,xz,hpz,haz,rxz⟩:=prs.get hj2;refine ⟨⟨ps,_,SqL.of (g7 _ _ hl6),hpz⟩,fun v H8 yl=>?_⟩;obtain ⟨rfl,hv⟩:=yl;have e6:=hpz.symm.trans (hv ps (SqL.of (g7 _ _ hl6)));cases e6;refine ⟨az,_,rfl,SqT.of (g7 _ _ haz),rfl,_,_,rfl,_,_,rfl,rfl,?_⟩;refine ⟨_,rfl,g7,?_⟩;rw [Bb,hj2,Ah];exact tv.append (.cons rxz .nil)
 ·obtain ⟨g7,tv⟩:=h;rw [Bo] at tv;refine ⟨⟨ps,SqL.of (g7 _ _ hl6),⋯⟩,fun D hD=>?_⟩;exact q _ D vs ((g6.trans g7).trans (qe hD _)) ((g6.trans g7).free hD) upd_same tv
inductive spCell (K:Frag) (vs:List V) (H:Hp) (Q:VK) (E':XK):Prop
 | mk:∀ (a:Addr) (ns:List Int) (k:Int),(vs=[.ref a,.int k])→(SqL K H a (ns.map V.int))→(0≤k)→(∀ i,Q (.int i) H)→spCell K vs H Q E'
theorem y8 (F:Fun K "_law_cell_at" "_law_cell_at" J6 f fd) (c:Cs K mg ad):FnOk P w K mg base CX0 1 f fd ["_law_script","_law_k"] (spCell K):=by
 refine F.ok yT (fun vs H Q E h=>?_) (fun cdv A outer s H vs Q E hr h=>?_)
 ·obtain ⟨a,ns,k,rfl,_⟩:=h;rfl
 obtain ⟨a,ns,k,rfl,hS,hk,q⟩:=h;refine ⟨_,(qd (qK (qr VM (pv 1) (qx (jY (K:=K) rfl) (by rfl) c.len_ z9 (qb (pv 0) qc)) (qz _)) (qi (qw (pix K (pv 0) (pv 1)))) qy)
   (qi (qw qh))),?_⟩
 refine ⟨_,rfl,_,rfl,_,_,rfl,.inl ⟨_,hS,rfl⟩,_,_,rfl,rfl,_,rfl,?_⟩;refine Vd (fun c1=>?_) (fun c1=>?_)
 ·have c1':k<(((ns.map V.int).length:Nat):Int):=A3 c1;rw [Ab] at c1';have hk2:k.toNat<ns.length:=⋯;have ek:k=((k.toNat:Nat):Int):=⋯;have hv:atI (ns.map V.int) ((k.toNat:Nat):Int)=some (.int ns[k.toNat]):=qo (by rw [Ar,Af hk2] <;> rfl)
  rw [← ek] at hv;exact ⟨_,rfl,_,rfl,.inl ⟨_,_,_,_,rfl,rfl,hS,hv,q _⟩⟩
 ·exact q 0
def stK (a:Addr) (k l:Int) (nm ev:Addr):List (Key×V):=[(Sum.inr "cells",.ref a),(Sum.inr "at",.int k),(Sum.inr "left",.int l),(Sum.inr "names",.ref nm),(Sum.inr "env",.ref ev)]
theorem kne {a b:Str} (h:¬ a=b):¬ (Sum.inr a:Key)=Sum.inr b:=fun e=>h (Ew e)
theorem qk1:¬ (Sum.inr ("cells":Str):Key)=Sum.inr ("at":Str):=kne ∅
theorem qk0:¬ (Sum.inr ("cells":Str):Key)=Sum.inr ("left":Str):=kne ∅
theorem qmo:¬ (Sum.inr ("cells":Str):Key)=Sum.inr ("names":Str):=kne ∅
theorem qk2:¬ (Sum.inr ("at":Str):Key)=Sum.inr ("left":Str):=kne ∅
theorem qmq:¬ (Sum.inr ("at":Str):Key)=Sum.inr ("names":Str):=kne ∅
theorem qmm:¬ (Sum.inr ("left":Str):Key)=Sum.inr ("names":Str):=kne ∅
theorem n_la:¬ (Sum.inr ("left":Str):Key)=Sum.inr ("at":Str):=kne ∅
theorem n_na:¬ (Sum.inr ("names":Str):Key)=Sum.inr ("at":Str):=kne ∅
theorem qmp:¬ (Sum.inr ("cells":Str):Key)=Sum.inr ("env":Str):=kne ∅
theorem qmr:¬ (Sum.inr ("at":Str):Key)=Sum.inr ("env":Str):=kne ∅
theorem qmn:¬ (Sum.inr ("left":Str):Key)=Sum.inr ("env":Str):=kne ∅
theorem qml:¬ (Sum.inr ("names":Str):Key)=Sum.inr ("env":Str):=kne ∅
theorem n_ea:¬ (Sum.inr ("env":Str):Key)=Sum.inr ("at":Str):=kne ∅
theorem n_el:¬ (Sum.inr ("env":Str):Key)=Sum.inr ("left":Str):=kne ∅
theorem n_nl:¬ (Sum.inr ("names":Str):Key)=Sum.inr ("left":Str):=kne ∅
section
variable (a:Addr) (k l:Int) (nm ev:Addr)
theorem qfs:vP (stK a k l nm ev) (Sum.inr "cells")=some (.ref a):=Jh rfl
theorem qft:vP (stK a k l nm ev) (Sum.inr "at")=some (.int k):=(zZ qk1).trans (Jh rfl)
theorem qch:vP (stK a k l nm ev) (Sum.inr "left")=some (.int l):=(zZ qk0).trans ((zZ qk2).trans (Jh rfl))
theorem qfr:vP (stK a k l nm ev) (Sum.inr "names")=some (.ref nm):=(zZ qmo).trans ((zZ qmq).trans ((zZ qmm).trans (Jh rfl)))
theorem qjz:vP (stK a k l nm ev) (Sum.inr "env")=some (.ref ev):=(zZ qmp).trans ((zZ qmr).trans ((zZ qmn).trans ((zZ qml).trans (Jh rfl))))
theorem qfq (j:Int):zG (stK a k l nm ev) (Sum.inr "at") (.int j)=stK a j l nm ev:=by
 unfold zG;rw [if_pos (by rw [vW,qft];rfl)]
 unfold stK;simp only [Ba,Ej];rw [if_neg qk1,if_pos trivial,if_neg n_la,if_neg n_na,if_neg n_ea]
theorem yQ (j:Int):zG (stK a k l nm ev) (Sum.inr "left") (.int j)=stK a k j nm ev:=by
 unfold zG;rw [if_pos (by rw [vW,qch];rfl)]
 unfold stK;simp only [Ba,Ej];rw [if_neg qk0,if_neg qk2,if_pos trivial,if_neg n_nl,if_neg n_el]
end
inductive spNext (K:Frag) (vs:List V) (H:Hp) (Q:VK) (E':XK):Prop
 | mk:∀ (d a nm ev:Addr) (ns:List Int) (k l:Int),(vs=[.ref d])→(H d=some (.dK (stK a k l nm ev)))→(SqL K H a (ns.map V.int))→(0≤k)→(k≤1000000)→(∀ (n:Int) (H':Hp),0≤n→n<268435456→H'=upd H d (.dK (stK a (k+1) l nm ev))→Q (.int n) H')→spNext K vs H Q E'
theorem QG (F:Fun K "_law_next" "_law_next" VX f fd) (c:Cs K mg ad) (d_law_cell_at:Def P w K mg base 1 "_law_cell_at" ["_law_script","_law_k"] (spCell K)):FnOk P w K mg base CX0 2 f fd ["_law_state"] (spNext K):=by
 refine F.ok vY (fun vs H Q E h=>?_) (fun cdv A outer s H vs Q E hr h=>?_)
 ·obtain ⟨d,a,nm,ev,ns,k,l,rfl,_⟩:=h;rfl
 obtain ⟨d,a,nm,ev,ns,k,l,rfl,hd,hS,hk0,hk1,q⟩:=h;have hu:=Ve hr;refine ⟨_,(qd (JX hu (pv 0) qq (qt zi (zS hu (pv 0) qq (fun _ _=>rfl)) qh) rfl)
   (qd (pst 1 vY.nd (zS hu (pv 0) qq (fun _ _=>rfl)))
   (qd (pst 2 vY.nd (pdf d_law_cell_at (qb (zS hu (pv 0) qq (fun _ _=>rfl)) (qb (qt zc (pv 1) (qx (qe4 rfl) (by rfl) c.max_ qln (qb qh (qb (qx (jY (K:=K) rfl) (by rfl) c.len_ z9 (qb (zS hu (pv 0) qq (fun _ _=>rfl)) qc)) qc)))) qc))))
   (qi (qw (qt zY (qt zc (qt zi (qt V2 (pv 2) qh) (qt V2 (qt V2 (pv 1) (pv 1)) qh)) qh) qh)))))),?_⟩
 clear hu;refine ⟨_,rfl,_,_,rfl,(by rw [← qft a k l nm ev];exact vL.k (k:=Sum.inr "at") hd),.inl ⟨_,_,rfl,rfl,?_⟩⟩
 refine ⟨_,rfl,d,upd H d (.dK (stK a (k+1) l nm ev)),rfl,(by rw [← qfq a k l nm ev (k+1)];exact yA.k (k:=Sum.inr "at") hd (Cf (show 5≤1000 from O0) O0)),?_⟩
 have hd':upd H d (.dK (stK a (k+1) l nm ev)) d=some (.dK (stK a (k+1) l nm ev)):=upd_same;have hS':SqL K (upd H d (.dK (stK a (k+1) l nm ev))) a (ns.map V.int):=(Stay.put hd).sqL hS;have gAt:vL (upd H d (.dK (stK a (k+1) l nm ev))) d (.str "at") (some (.int (k+1))):=by rw [← qft a (k+1) l nm ev];exact vL.k (k:=Sum.inr "at") hd'
 have gCe:vL (upd H d (.dK (stK a (k+1) l nm ev))) d (.str "cells") (some (.ref a)):=by rw [← qfs a (k+1) l nm ev];exact vL.k (k:=Sum.inr "cells") hd'
 have hm:0<(if (((ns.map V.int).length:Nat):Int)>1 then (((ns.map V.int).length:Nat):Int) else 1):=by split <;> omega
 refine ⟨_,rfl,d,_,rfl,gAt,_,rfl,d,_,rfl,gCe,_,rfl,_,rfl,d,_,rfl,gCe,_,_,rfl,.inl ⟨_,hS',rfl⟩,_,_,rfl,_,_,rfl,rfl,hm,a,ns,_,rfl,hS',Bj _ ⋯,fun i=>?_⟩;have b1:qhl (k+1) (k+1):= .inl ⟨⋯,⋯⟩;refine ⟨_,rfl,_,_,rfl,rfl,.inr ⟨O0,O0⟩,_,rfl,_,rfl,_,_,rfl,rfl,b1,_,_,rfl,rfl,.inr ⟨O0,O0⟩,.inl ⟨_,_,rfl,rfl,_,_,rfl,rfl,(show (0:Int)<2147483647 from O0),_,_,rfl,rfl,⟨O0,O0⟩,?_⟩⟩;refine q _ _ ?_ ?_ rfl
 ·exact Int.ediv_nonneg (Bj _ O0) O0
 ·have:=Bc (i*48271+(k+1)*(k+1)*69621) (show (0:Int)<2147483647 from O0);show (i*48271+(k+1)*(k+1)*69621) % 2147483647 / 8<268435456;omega
theorem qbo {i:Int} (h: -1000000000000≤i) (h':i≤1000000000000):Tre.V3 i=true:=by
 unfold Tre.V3;rw [Al h,Al h'];rfl
theorem vJ {xs:List V} {i:Int} {p:V→Prop} (h:∀ x∈xs,p x) (h0:0≤i) (h1:i<(xs.length:Int)):∃ v,atI xs i=some v∧p v:=by
 have hk:i.toNat<xs.length:=⋯;have ek:i=((i.toNat:Nat):Int):=⋯;have q:atI xs ((i.toNat:Nat):Int)=some xs[i.toNat]:=qo (Af hk);rw [← ek] at q;exact ⟨_,q,h _ (Cd hk)⟩
inductive spNumber (vs:List V) (H:Hp) (Q:VK) (E':XK):Prop
 | mk:∀ (m:Int),(vs=[.int m])→(0≤m)→(m<268435456)→(∀ (i:Int) (H':Hp),Tre.V3 i=true→qv H H'→Q (.int i) H')→spNumber vs H Q E'
theorem Y0 (F:Fun K "_law_number" "_law_number" vy f fd) (c:Cs K mg ad):FnOk P w K mg base CX0 1 f fd ["_law_more"] spNumber:=by
 refine F.ok VH (fun vs H Q E h=>?_) (fun cdv A outer s H vs Q E hr h=>?_)
 ·obtain ⟨m,rfl,_⟩:=h;rfl
 obtain ⟨m,rfl,hm0,hm1,q⟩:=h;refine ⟨_,(qd (pst 1 VH.nd (qt zp (qt zc (pv 0) (qt zi (qt V2 qh (qt Zq qh qh)) qh)) (qt Zq qh qh)))
   (qi (qw (pix K (zg (qb (qt zc (qt zY (pv 0) qh) qh) (qb (qt zp (qt zc (qt zY (pv 0) qh) qh) qh) (qb (pv 1) (qb (pix K (zg (qb (qt Zq qh qh) (qb (qt zp qh (qt Zq qh qh)) (qb qh qc)))) (qt zc (qt zY (pv 0) qh) qh)) qc))))) (qt zc (pv 0) qh))))),?_⟩
 have cp:qm3 10 12:=⟨O0,O0,O0⟩;have e12:(10:Int) ^ Int.toNat 12=1000000000000:=∅;refine ⟨_,rfl,_,_,rfl,rfl,cp,_,_,rfl,rfl,.inl ⟨O0,O0⟩,.inl ⟨_,_,rfl,rfl,_,_,rfl,rfl,(show (0:Int)<2*10 ^ Int.toNat 12+1 by rw [e12];decide),_,_,rfl,rfl,cp,_,_,rfl,rfl,?_⟩⟩
 have c8:qlx m 8:=⟨O0,O0⟩;refine ⟨_,rfl,_,_,rfl,rfl,c8,_,_,rfl,rfl,(show (0:Int)<10 from O0),_,rfl,_,_,rfl,rfl,c8,_,_,rfl,rfl,(show (0:Int)<2000 from O0),_,_,rfl,rfl,_,rfl,?_⟩;refine ⟨_,_,rfl,rfl,cp,_,_,rfl,rfl,cp,_,_,rfl,rfl,(O0:3≤sizeLine),fun p1 hp1=>?_⟩;rw [e12];have n1:Tre.V3 1000000000000=true:=O0;have n2:Tre.V3 (0 - 1000000000000)=true:=O0;have n3:Tre.V3 0=true:=O0;obtain ⟨v4,h4,i4,rfl,k4⟩:=vJ (xs:=[V.int 1000000000000,V.int (0 - 1000000000000),V.int 0]) (i:=m / 8 % 3) (p:=fun v=>∃ i,v= .int i∧Tre.V3 i=true) (by
  simp only [Ao,Bm,or_false];rintro x (rfl | rfl | rfl)
  ·exact ⟨_,rfl,n1⟩
  ·exact ⟨_,rfl,n2⟩
  ·exact ⟨_,rfl,n3⟩) (Bj _ O0) (Bc _ O0)
 refine ⟨_,rfl,_,_,rfl,rfl,c8,_,_,rfl,rfl,(show (0:Int)<3 from O0),.inl ⟨p1,_,_,_,rfl,rfl,SqL.of upd_same,h4,(O0:4≤sizeLine),fun p2 hp2=>?_⟩⟩;have a1:=Bj (m / 8) (show (10:Int)≠0 from O0);have a2:=Bc (m / 8) (show (0:Int)<10 from O0);have b1:=Bj (m / 8) (show (2000:Int)≠0 from O0);have b2:=Bc (m / 8) (show (0:Int)<2000 from O0);have d1:=Bj m (show (2*1000000000000+1:Int)≠0 from O0);have d2:=Bc m (show (0:Int)<2*1000000000000+1 from O0);obtain ⟨v,h,i,rfl,k⟩:=vJ (xs:=[V.int (m / 8 % 10),V.int (m / 8 % 2000 - 1000),V.int (m % (2*1000000000000+1) - 1000000000000),V.int i4]) (i:=m % 4) (p:=fun v=>∃ i,v= .int i∧Tre.V3 i=true) (by
  simp only [Ao,Bm,or_false];rintro x (rfl | rfl | rfl | rfl)
  ·exact ⟨_,rfl,qbo ⋯ ⋯⟩
  ·exact ⟨_,rfl,qbo ⋯ ⋯⟩
  ·exact ⟨_,rfl,qbo ⋯ ⋯⟩
  ·exact ⟨_,rfl,k4⟩) (Bj _ O0) (Bc _ O0)
 exact ⟨_,rfl,_,_,rfl,rfl,(show (0:Int)<4 from O0),.inl ⟨p2,_,_,_,rfl,rfl,SqL.of upd_same,h,q i _ k ((qe hp1 _).trans (qe hp2 _))⟩⟩
end
end Mine
namespace Mine
open PySem L2 Nam
section
variable {P:Program} {w:World} {K:Frag} {mg:Str→Option Value} {base:Heap} {f:Addr} {fd:FuncData} {ad:Ad}
theorem qgs {i:Int} (h0:0≤i) (h1:i<26):atI (Str.ofString "abcdefghijklmnopqrstuvwxyz").cps.toList i=some (97+i.toNat):=by
 have e:(Str.ofString "abcdefghijklmnopqrstuvwxyz").cps.toList=(List.range 26).map fun k=>97+k:=∅;have ek:i=((i.toNat:Nat):Int):=⋯;have hk:i.toNat<26:=⋯;rw [e];have q:atI ((List.range 26).map fun k=>97+k) ((i.toNat:Nat):Int)=some (97+i.toNat):=qo (by rw [Ar,List.getElem?_range hk];rfl)
 rw [← ek] at q;exact q
def cw (m:Int) (k:Nat):Nat:=97+((m / 64+5*(k:Int)) % 26).toNat
def gw (m:Int) (k:Nat):Nat:=97+((m / 2048+7*(k:Int)) % 26).toNat
theorem qlj (m:Int) (k:Nat):low (cw m k)=true:=by
 have e0:=Bj (m / 64+5*(k:Int)) (show (26:Int)≠0 from O0);have e1:=Bc (m / 64+5*(k:Int)) (show (0:Int)<26 from O0);unfold low cw;rw [Al ⋯,Al ⋯];rfl
theorem qle (m:Int) (k:Nat):low (gw m k)=true:=by
 have e0:=Bj (m / 2048+7*(k:Int)) (show (26:Int)≠0 from O0);have e1:=Bc (m / 2048+7*(k:Int)) (show (0:Int)<26 from O0);unfold low gw;rw [Al ⋯,Al ⋯];rfl
theorem qlf (m:Int) (a b:Nat) (ha:a<8) (hb:b<8) (h:gw m a=gw m b):a=b:=by
 unfold gw at h;omega
theorem Ys (xs:List V) (n:Int) (k:Nat) (h:n=(k:Int)):wv xs none (some n)=xs.take k:=by
 subst h;unfold wv;rw [HT.sIx_nat,HT.sIx_none,Nat.sub_zero,List.drop_zero,List.take_eq_take_iff];omega
structure Nms (l:List Str):Prop where
 len:l.length=8
 good:∀ x∈l,Tre.zn x=true
 nd:l.Nodup
inductive spNames (vs:List V) (H:Hp) (Q:VK) (E':XK):Prop
 | mk:∀ (m:Int),(vs=[.int m,.int 8])→(0≤m)→(m<2147483647)→(∀ (l:List Str) (p:Addr) (H':Hp),Nms l→qv H H'→H' p=some (.lst (l.map V.str))→Q (.ref p) H')→spNames vs H Q E'
inductive Iv_TreL_0 (c:Cs K mg ad) (m:Int) (H':Hp) (pw:Addr) (cs:List Nat) (pm:Addr) (j:Nat) (z:Nat) (i:Nat) (σ:St) (H2:Hp):Prop
 | mk:∀ (ws:List Nat) (o6:Option V),(σ=[some (.int m),some (.int 8),some (.str (Str.ofString "abcdefghijklmnopqrstuvwxyz")),some (.int (1+m % 8)),some (.ref pw),some (.ref pm),o6])→(qv H' H2)→(H2 pw=some (.lst (ws.map fun c=>V.str (one c))))→(H2 pm=some (.lst ((List.range i).map fun k=>V.str (wrd ((cs.set j (gw m k)).take z)))))→(ws.length=8)→(∀ x,ws.set j x=cs.set j x)→Iv_TreL_0 c m H' pw cs pm j z i σ H2
theorem Zw (F:Fun K "_law_names" "_law_names" Jk f fd) (c:Cs K mg ad):FnOk P w K mg base CX0 1 f fd ["_law_cell","_law_many"] spNames:=by
 refine F.ok jr (fun vs H Q E h=>?_) (fun cdv A outer s H vs Q E hr h=>?_)
 ·obtain ⟨m,rfl,_⟩:=h;rfl
 obtain ⟨m,rfl,hm0,hm1,q⟩:=h;refine ⟨_,(qd (pst 2 jr.nd qq)
   (qd (pst 3 jr.nd (qt zi qh (qt zc (pv 0) qh)))
   (qd (pst 4 jr.nd (zX (sc:=ql Jk) (NX:=["_law_cell","_law_many","_law_letters","_law_size","_law_word","_law_made","_law_k"]) (N:=["_law_k","_law_letters","_law_cell"]) (js:=[none,some 2,some 0]) (jG rfl c.range_ (qb qh qc)) (fun _ _ _ _ _=>(zh (i:=0) (show (["_law_k","_law_letters","_law_cell"]:List Str).Nodup from ∅) rfl (Or.inl rfl))) (fun _ _ _ _ _=>jp) (fun _ _ _ _ _=>(pix K (pv 1) (qt zc (qt zi (qt zY (pv 2) qh) (qt V2 qh (pv 0))) qh))) (zA rfl) ⟨∅,rfl,∅,∅,rfl,∅⟩))
   (qd (qK (qr zN (qt zc (qt zY (pv 0) qh) qh) qh (qz _)) (qi (qw (zX (sc:=ql Jk) (NX:=["_law_cell","_law_many","_law_letters","_law_size","_law_word","_law_made","_law_k"]) (N:=["_law_k","_law_word"]) (js:=[none,some 4]) (jG rfl c.range_ (qb (pv 1) qc)) (fun _ _ _ _ _=>(zh (i:=0) (show (["_law_k","_law_word"]:List Str).Nodup from ∅) rfl (Or.inl rfl))) (fun _ _ _ _ _=>jp) (fun _ _ _ _ _=>(Jn (K:=K) rfl PySem.F.plainAttrs_str PySem.F.slot_str_join PySem.F.type_str_join (qgv (K:=K) rfl) qq (qb (JM (qbb (K:=K) rfl) (pv 1) Vr (JY (qt zi (pv 0) qh))) qc))) (zA rfl) ⟨∅,rfl,∅,∅,rfl,∅⟩))) qy)
   (qd (pst 5 jr.nd (zg qc))
   (qd (zT Bh rfl (jG rfl c.range_ (qb (pv 1) qc)) (pgn 6 jr.nd) (qd (qgd (pix K (pv 2) (qt zc (qt zi (qt zY (pv 0) qh) (qt V2 qh (pv 6))) qh)) (qkk (pv 4) (qt zc (qt zY (pv 0) qh) (pv 3)) qfy))
   (qi (qT (Jn (K:=K) rfl Ax Bu Bs zC (pv 5) (qb (Jn (K:=K) rfl PySem.F.plainAttrs_str PySem.F.slot_str_join PySem.F.type_str_join (qgv (K:=K) rfl) qq (qb (JM (qbb (K:=K) rfl) (pv 4) Vr (JY (pv 3))) qc)) qc))))))
   (qi (qw (pv 5))))))))),?_⟩
 refine ⟨_,rfl,_,_,rfl,rfl,(show (0:Int)<8 from O0),.inl ⟨_,_,rfl,rfl,?_⟩⟩;have lone:∀ (l:List Nat),l.map (fun c=>V.str (one c))=(l.map one).map V.str:=fun l=>by rw [Bx];rfl
 refine ⟨_,rfl,O0,O0,zD 8 (fun i ys H'=>H'=H∧ys=(((List.range i).map (cw m)).map fun c=>V.str (one c))) ⟨rfl,rfl⟩ (fun i ys H' h=>?_) O0 (fun i ys H' hi h=>?_) (fun ys H' h=>?_)⟩
 ·rw [h.2,Ab,Ab,Eu];exact Ag _
 ·obtain ⟨rfl,rfl⟩:=h;refine ⟨hi,fun v H2 yl=>?_⟩;obtain ⟨rfl,rfl⟩:=yl;have e0:=Bj (m / 64+5*(0+(i:Int))) (show (26:Int)≠0 from O0);have e1:=Bc (m / 64+5*(0+(i:Int))) (show (0:Int)<26 from O0);refine ⟨_,rfl,_,rfl,_,_,rfl,rfl,⟨O0,O0⟩,_,rfl,_,_,rfl,rfl,.inl ⟨O0,O0⟩,.inl ⟨_,_,rfl,rfl,_,_,rfl,rfl,(show (0:Int)<26 from O0),.inr (.inr ⟨_,_,_,rfl,rfl,∅,qgs e0 e1,rfl,?_⟩)⟩⟩;rw [List.range_succ,Ah,Ah];have e2:cw m i=97+((m / 64+5*(0+(i:Int))) % 26).toNat:=by unfold cw;rw [E1]
  simp only [Ba,Ej,e2];rfl
 ·obtain ⟨rfl,rfl⟩:=h;refine ⟨Ag _,fun pw hpw=>?_⟩;have g0:=qe hpw (.lst ((((List.range 8).map (cw m)).map fun c=>V.str (one c))));have hw0:upd H' pw (.lst ((((List.range 8).map (cw m)).map fun c=>V.str (one c)))) pw=some (.lst ((((List.range 8).map (cw m)).map fun c=>V.str (one c)))):=upd_same;generalize upd H' pw (.lst ((((List.range 8).map (cw m)).map fun c=>V.str (one c))))=H1 at g0 hw0 ⊢;have hcl:((List.range 8).map (cw m)).length=8:=by rw [Ab,Eu]
  have hlow:((List.range 8).map (cw m)).all low=true:=by
   rw [C9];exact A8.mpr fun k _=>qlj m k
  generalize (List.range 8).map (cw m)=cs at hw0 hcl hlow ⊢;have z0:=Bj m (show (8:Int)≠0 from O0);have z1:=Bc m (show (0:Int)<8 from O0);refine ⟨_,rfl,_,_,rfl,rfl,⟨O0,O0⟩,_,_,rfl,rfl,(show (0:Int)<4 from O0),rfl,_,rfl,?_⟩;refine Vd (fun _=>?_) (fun _=>?_)
  ·refine ⟨_,rfl,8,rfl,O0,O0,zD 8 (fun i ys H'=>qv H1 H'∧ys=((List.range i).map fun k=>V.str (wrd (cs.take (k+1))))) ⟨qv.refl _,rfl⟩ (fun i ys H' h=>?_) O0 (fun i ys H2 hi h=>?_) (fun ys H2 h=>?_)⟩
   ·rw [h.2,Ab,Eu];exact Ag _
   ·obtain ⟨g2,rfl⟩:=h;refine ⟨hi,fun v H3 yl=>?_⟩;obtain ⟨rfl,rfl⟩:=yl;refine ⟨rfl,_,rfl,_,rfl,.inl ⟨_,_,rfl,rfl,_,rfl,.inl ⟨pw,_,rfl,SqL.of (g2 _ _ hw0),fun p hp=>⟨_,p,(cs.take (i+1)).map one,rfl,rfl,SqL.of ?_,?_,g2.trans (qe hp _),?_⟩⟩⟩⟩
    ·rw [upd_same,Ys _ _ (i+1) ⋯,← lone,List.map_take]
    ·rw [QC];have:=B0 (i+1) cs;have e:(Str.ofString "").length=0:=∅;rw [e,Nat.mul_zero];omega
    ·rw [QO,List.range_succ,Ah];rfl
   ·obtain ⟨g2,rfl⟩:=h;refine ⟨Ag _,fun D hD=>q ((List.range 8).map fun k=>wrd (cs.take (k+1))) D _ ⟨by simp,fun x hx=>?_,qlr cs hcl⟩ ((g0.trans g2).trans (qe hD _)) (by rw [upd_same,Bx];rfl)⟩
    obtain ⟨k,hk,rfl⟩:=Bt.mp hx;have hk':=Dc.mp hk;refine QL (by rw [Cu];omega) (by rw [Cu];omega) (A8.mpr fun c hc=>A8.mp hlow c (Ct hc))
  ·refine ⟨(O0:0≤sizeLine),fun pm hpm=>?_⟩;have gm:=qe hpm (.lst []);have nwm:pw≠pm:=qD hw0 hpm;have hpw0:H' pw=none:=hpw;refine ⟨_,rfl,8,rfl,O0,O0,?_⟩;have j0:=Bj (m / 8) (show (1+m % 8:Int)≠0 from ⋯);have j1:=Bc (m / 8) (show (0:Int)<1+m % 8 from ⋯);generalize hj:(m / 8 % (1+m % 8)).toNat=j;generalize hz:(1+m % 8).toNat=z;have hjz:j<z:=⋯;have hz8:z≤8:=⋯;refine qbz 8 (Iv_TreL_0 c m H' pw cs pm j z) ?_ (fun i σ H2 hi h=>?_) (fun σ H2 h=>?_)
   ·exact ⟨cs,none,rfl,g0.trans gm,gm _ _ hw0,upd_same,hcl,fun _=>rfl⟩
   ·obtain ⟨ws,o6,rfl,g2,hw2,hm2,hwl,hws⟩:=h;refine ⟨hi,fun v H3 yl=>?_⟩;obtain ⟨rfl,rfl⟩:=yl;have e0:=Bj (m / 2048+7*(0+(i:Int))) (show (26:Int)≠0 from O0);have e1:=Bc (m / 2048+7*(0+(i:Int))) (show (0:Int)<26 from O0);have eg:gw m i=97+((m / 2048+7*(0+(i:Int))) % 26).toNat:=by unfold gw;rw [E1]
    have hix:ixN (ws.map fun c=>V.str (one c)).length (m / 8 % (1+m % 8))=some j:=by
     unfold ixN;rw [Ab,hwl,if_pos j0,if_pos ⋯,hj]
    refine ⟨_,rfl,_,rfl,_,_,rfl,rfl,⟨O0,O0⟩,_,rfl,_,_,rfl,rfl,.inl ⟨O0,O0⟩,.inl ⟨_,_,rfl,rfl,_,_,rfl,rfl,(show (0:Int)<26 from O0),.inr (.inr ⟨_,_,_,rfl,rfl,∅,qgs e0 e1,?_⟩)⟩⟩;refine ⟨_,rfl,_,rfl,_,_,rfl,rfl,⟨O0,O0⟩,_,rfl,_,_,rfl,rfl,(show (0:Int)<1+m % 8 from ⋯),pw,_,_,j,rfl,rfl,hw2,hix,?_⟩;rw [← eg];have es:(ws.map fun c=>V.str (one c)).set j (.str (one (gw m i)))=(cs.set j (gw m i)).map fun c=>V.str (one c):=by rw [← hws,List.map_set]
    refine ⟨_,rfl,.inl ⟨rfl,_,SqL.of (by rw [qk (Ne.symm nwm)];exact hm2)⟩,rfl,_,rfl,_,rfl,_,rfl,.inl ⟨pw,(cs.set j (gw m i)).map (fun c=>V.str (one c)),rfl,SqL.of ?_,fun p hp=>?_⟩⟩
    ·rw [upd_same];exact congrArg (fun l=>some (HO.lst l)) es
    ·have gw2:=qE g2 hpw (.lst ((ws.map fun c=>V.str (one c)).set j (.str ⟨#[gw m i]⟩)));have hw3:upd H3 pw (.lst ((ws.map fun c=>V.str (one c)).set j (.str ⟨#[gw m i]⟩))) pw=some (.lst ((cs.set j (gw m i)).map fun c=>V.str (one c))):=by rw [upd_same];exact congrArg (fun l=>some (HO.lst l)) es
     have hm3:upd H3 pw (.lst ((ws.map fun c=>V.str (one c)).set j (.str ⟨#[gw m i]⟩))) pm=some (.lst ((List.range i).map fun k=>V.str (wrd ((cs.set j (gw m k)).take z)))):=by rw [qk (Ne.symm nwm)];exact hm2
     change upd H3 pw (.lst ((ws.map fun c=>V.str (one c)).set j (.str ⟨#[gw m i]⟩))) p=none at hp
     generalize upd H3 pw (.lst ((ws.map fun c=>V.str (one c)).set j (.str ⟨#[gw m i]⟩)))=H4 at hp gw2 hw3 hm3 ⊢;have gp:=qe hp (.lst (wv ((cs.set j (gw m i)).map fun c=>V.str (one c)) none (some (1+m % 8))));refine ⟨_,p,((cs.set j (gw m i)).take z).map one,rfl,rfl,SqL.of ?_,?_,pm,_,_,rfl,rfl,gp _ _ hm3,?_,?_⟩
     ·rw [upd_same,Ys _ _ z ⋯,← lone,List.map_take]
     ·rw [QC];have:=B0 z (cs.set j (gw m i));have e:(Str.ofString "").length=0:=∅;rw [e,Nat.mul_zero];omega
     ·rw [Ab,Eu];exact Nat.lt_trans hi O0
     ·refine ⟨cs.set j (gw m i),_,rfl,qE (gw2.trans gp) (g0.free hpm) _,?_,?_,by rw [Dv];exact hcl,fun x=>by rw [List.set_set]⟩
      ·rw [qk nwm];exact gp _ _ hw3
      ·rw [upd_same,QO,List.range_succ,Ah];rfl
   ·obtain ⟨ws,o6,rfl,g2,hw2,hm2,hwl,hws⟩:=h;refine ⟨Ag _,_,rfl,q ((List.range 8).map fun k=>wrd ((cs.set j (gw m k)).take z)) pm _ ⟨by simp,fun x hx=>?_,qm1 cs j z (gw m) hjz ⋯ fun a b ha hb h=>qlf m a b ha hb h⟩ g2 (by rw [hm2,Bx];rfl)⟩
    obtain ⟨k,hk,rfl⟩:=Bt.mp hx;refine QL (by rw [Cu,Dv];omega) (by rw [Cu,Dv];omega) (A8.mpr fun c hc=>?_)
    rcases List.mem_or_eq_of_mem_set (Ct hc) with hc | rfl
    ·exact A8.mp hlow c hc
    ·exact qle m k
end
end Mine
namespace Mine
open PySem L2
section
variable {P:Program} {w:World} {K:Frag} {mg:Str→Option Value} {base:Heap} {f:Addr} {fd:FuncData} {ad:Ad}
inductive spNeed (K:Frag) (vs:List V) (H:Hp) (Q:VK) (E':XK):Prop
 | mk:∀ x d,(vs=[x])→(Rep K H x d)→(Tre.fit d=true)→(Tre.j9 d=true)→(∀ H',qv H H'→Q .non H')→spNeed K vs H Q E'
theorem W0 (F:Fun K "need_program" "need_program" JI f fd) (c:Cs K mg ad) (d_is_program:Def P w K mg base 5 "is_program" ["thing"] (spD K Tre.j9)):FnOk P w K mg base CX0 6 f fd ["thing"] (spNeed K):=by
 refine F.ok WX (fun vs H Q E h=>?_) (fun cdv A outer s H vs Q E hr h=>?_)
 ·obtain ⟨x,d,rfl,_⟩:=h;rfl
 obtain ⟨x,d,rfl,hk,ft,hp,q⟩:=h;refine ⟨_,(qi (qK (jV (jg (pdf d_is_program (qb (pv 0) qc)))) (qi qgb) qy)),?_⟩;exact ⟨_,rfl,_,_,rfl,hk,ft,fun H1 g=>⟨_,rfl,qO (show (!Tre.j9 d)=false by rw [hp];rfl) (q H1 g)⟩⟩
end
end Mine
namespace Tre
open PySem
mutual
def inL (L:List Str):PyData→Bool
 | .str x=>L.contains x
 | .tuple xs=>ja L xs
 | .list _=>false
 | .dict _=>false
 | _=>true
def ja (L:List Str):List PyData→Bool
 | []=>true
 | x::r=>inL L x&&ja L r
end
def va:List Str:=["number","name","two","fun","loop","call","step","main","let","set","do","if","while","hand","back","fault","try","great","kind","any","unset","own","+","-","*","<","="]
structure Ft (names:List Str) (d:PyData):Prop where
 fit:Tre.fit d=true
 ins:inL (va++names) d=true
structure Fts (names:List Str) (ds:List PyData):Prop where
 fit:Tre.Jr ds=true
 ins:ja (va++names) ds=true
section
variable {names:List Str}
theorem Fts.nil:Fts names []:=⟨rfl,rfl⟩
theorem Fts.cons {d:PyData} {r:List PyData} (h:Ft names d) (hr:Fts names r):Fts names (d::r):=⟨by rw [Jr,h.fit,hr.fit];rfl,by rw [ja,h.ins,hr.ins];rfl⟩
theorem Fts.snoc:∀ {xs:List PyData} {x:PyData},Fts names xs→Ft names x→Fts names (xs++[x])
 | [],x,_,h=> .cons h .nil
 | y::r,x,h,h'=>by
  have a:=h.fit;have b:=h.ins;rw [Jr,Ae] at a;rw [ja,Ae] at b;exact .cons ⟨a.1,b.1⟩ (Fts.snoc ⟨a.2,b.2⟩ h')
theorem Fts.tup {l:List PyData} (h:Fts names l):Ft names (.tuple l):=⟨by rw [Tre.fit];exact h.fit,by rw [inL];exact h.ins⟩
theorem Fts.of:∀ {xs:List PyData},(∀ x∈xs,Ft names x)→Fts names xs
 | [],_=> .nil
 | y::r,h=> .cons (h y A5) (Fts.of fun x hx=>h x (A9 _ hx))
theorem Ft.int (i:Int):Ft names (.int i):=⟨rfl,rfl⟩
theorem Ft.word {x:Str} (h:(va.contains x&&decide (x.length≤1000000))=true):Ft names (.str x):=by
 rw [Ae] at h;refine ⟨h.2,?_⟩;rw [inL,B2];exact By _ (B2.mp h.1)
theorem Ft.name {x:Str} (h:zn x=true) (hx:x∈va++names):Ft names (.str x):=by
 unfold zn at h;rw [Ae,Ae] at h;have:=A3 h.1.2;refine ⟨Al ⋯,?_⟩;rw [inL,B2];exact hx
end
end Tre
namespace L2
open PySem PySem.Spec PyProof.Rows
section
variable {K:Frag} {H:Hp}
theorem Rd.put {p b:Addr} {zs:List V} {o o':HO} (hp:H p=some (.lst zs)) (hd:∀ l,o≠ .lst l) (h:Rd H b o):Rd (upd H p o') b o:=by
 rcases h with h | ⟨ob,h⟩
 ·refine .inl ?_;rw [qk fun z=>by rw [z,hp] at h;exact hd _ (Bg h).symm]
  exact h
 ·refine .inr ⟨ob,?_⟩;rw [qk fun z=>by rw [z,hp] at h;cases h]
  exact h
theorem SqT.put {p b:Addr} {zs xs:List V} {o':HO} (hp:H p=some (.lst zs)) (h:SqT K H b xs):SqT K (upd H p o') b xs:=by
 rcases h with h | h
 ·exact .inl (Rd.put hp (fun l z=>by cases z) h)
 ·exact .inr h
mutual
theorem Rep.tups {H':Hp} (g:∀ {a:Addr} {xs:List V},SqT K H a xs→SqT K H' a xs):∀ {x:V} {d:PyData},Rep K H x d→Tre.noL d=true→Rep K H' x d
 | _,_,.non,_=> .non
 | _,_,.bl b,_=> .bl b
 | _,_,.int i,_=> .int i
 | _,_,.str x,_=> .str x
 | _,_,.lst h r,n=>by cases n
 | _,_,.tup h r,n=> .tup (g h) (Reps.tups g r (by rw [Tre.noL] at n;exact n))
theorem Reps.tups {H':Hp} (g:∀ {a:Addr} {xs:List V},SqT K H a xs→SqT K H' a xs):∀ {xs:List V} {ds:List PyData},Reps K H xs ds→Tre.zH ds=true→Reps K H' xs ds
 | _,_,.nil,_=> .nil
 | _,_,.cons h t,n=>by
  rw [Tre.zH,Ae] at n;exact .cons (Rep.tups g h n.1) (Reps.tups g t n.2)
end
theorem Rep.put {p:Addr} {zs:List V} {o':HO} (hp:H p=some (.lst zs)) {x:V} {d:PyData} (h:Rep K H x d) (n:Tre.noL d=true):Rep K (upd H p o') x d:=h.tups (fun h=>h.put hp) n
theorem Reps.put {p:Addr} {zs:List V} {o':HO} (hp:H p=some (.lst zs)) {xs:List V} {ds:List PyData} (h:Reps K H xs ds) (n:Tre.zH ds=true):Reps K (upd H p o') xs ds:=h.tups (fun h=>h.put hp) n
end
section
variable {K:Frag} {H H':Hp}
def Tp (H H':Hp):Prop:=∀ b xs,Rd H b (.tup xs)→Rd H' b (.tup xs)
def qmk:HO→Bool
 | .tup _=>false
 | .frz _ _=>false
 | _=>true
theorem Tp.refl (H:Hp):Tp H H:=fun _ _ h=>h
theorem Tp.trans {H2:Hp} (a:Tp H H') (b:Tp H' H2):Tp H H2:=fun c o e=>b c o (a c o e)
theorem Tp.of (g:qv H H'):Tp H H':=fun b xs h=>by
 rcases h with h | ⟨o,h⟩
 ·exact .inl (g _ _ h)
 ·exact .inr ⟨o,g _ _ h⟩
theorem Tp.put {p:Addr} {o o':HO} (hp:H p=some o) (n:qmk o=true):Tp H (upd H p o'):=fun b xs h=>by
 have nb:b≠p:=fun z=>by
  subst z;rcases h with h | ⟨ob,h⟩
  ·rw [hp] at h;cases h;cases n
  ·rw [hp] at h;cases h;cases n
 unfold Rd;rw [qk nb];exact h
theorem Tp.new {p:Addr} {o':HO} (hp:H p=none):Tp H (upd H p o'):=fun b xs h=>by
 have nb:b≠p:=fun z=>by
  subst z;rcases h with h | ⟨ob,h⟩
  ·rw [hp] at h;cases h
  ·rw [hp] at h;cases h
 unfold Rd;rw [qk nb];exact h
theorem SqT.tp {b:Addr} {xs:List V} (g:Tp H H') (h:SqT K H b xs):SqT K H' b xs:=by
 rcases h with h | h
 ·exact .inl (g _ _ h)
 ·exact .inr h
theorem Rep.tp (g:Tp H H') {x:V} {d:PyData} (h:Rep K H x d) (n:Tre.noL d=true):Rep K H' x d:=h.tups (fun h=>h.tp g) n
theorem Reps.tp (g:Tp H H') {xs:List V} {ds:List PyData} (h:Reps K H xs ds) (n:Tre.zH ds=true):Reps K H' xs ds:=h.tups (fun h=>h.tp g) n
theorem vf {α:Type} [BEq α] [LawfulBEq α]:∀ (ks L:List α),ks.Nodup→(∀ x∈ks,x∈L)→ks.length≤L.length
 | [],_,_,_=>Bw _
 | k::r,L,hn,hs=>by
  rw [C7] at hn;have hk:=hs k A5;have q:=vf r (L.erase k) hn.2 fun x hx=>(List.mem_erase_of_ne (show x≠k from fun z=>hn.1 (z▸hx))).mpr (hs x (A9 _ hx));rw [List.length_erase_of_mem hk] at q;have:0<L.length:=List.length_pos_of_mem hk;rw [Ak];omega
def del (H:Hp) (p:Addr):Hp:=fun b=>if b=p then none else H b
theorem JQ {p b:Addr} (h:b≠p):del H p b=H b:=if_neg h
theorem Jm {p b:Addr} {o:HO} (h:del H p b=some o):b≠p∧H b=some o:=by
 unfold del at h;split at h
 ·cases h
 ·exact ⟨by assumption,h⟩
theorem qhc (H:Hp) (p:Addr):qv (del H p) H:=fun _ _ h=>(Jm h).2
theorem qv.del (g:qv H H') (p:Addr):qv (del H p) (del H' p):=fun b o h=>by
 obtain ⟨n,e⟩:=Jm h;rw [JQ n];exact g b o e
theorem qdd {p:Addr} {o:HO}:del (upd H p o) p=del H p:=by
 funext b;unfold L2.del;split
 ·rfl
 ·rename_i e;exact qk e
structure St2 (st p:Addr) (H H':Hp):Prop where
 sy:Stay st (del H p) (del H' p)
 p0:∃ xs,H p=some (.lst xs)
 p1:∃ xs,H' p=some (.lst xs)
section
variable {st p:Addr} {H2:Hp}
theorem St2.trans (a:St2 st p H H') (b:St2 st p H' H2):St2 st p H H2:=⟨a.sy.trans b.sy,a.p0,b.p1⟩
theorem St2.then (a:St2 st p H H') (g:qv H' H2):St2 st p H H2:=⟨a.sy.then (g.del p),a.p0,let ⟨xs,e⟩:=a.p1;⟨xs,g _ _ e⟩⟩
theorem Stay.del (a:Stay st H H') (n:st≠p):Stay st (del H p) (del H' p):=by
 obtain ⟨⟨k,e⟩,⟨k',e'⟩,r⟩:=a;refine ⟨⟨k,by rw [JQ n];exact e⟩,⟨k',by rw [JQ n];exact e'⟩,fun b o nb h=>?_⟩
 obtain ⟨m,h⟩:=Jm h;rw [JQ m];exact r b o nb h
theorem St2.of (a:Stay st H H') {xs:List V} (h:H p=some (.lst xs)):St2 st p H H':=by
 have n:st≠p:=fun z=>by
  obtain ⟨k,e⟩:=a.at0;rw [z,h] at e;cases e
 exact ⟨a.del n,⟨xs,h⟩,⟨xs,a.rest _ _ n.symm h⟩⟩
theorem St2.put {kvs:List (Key×V)} {xs ys:List V} (hs:del H p st=some (.dK kvs)) (h:H p=some (.lst xs)):St2 st p H (upd H p (.lst ys)):=⟨by rw [qdd];exact .of hs fun _ _ h=>h,⟨xs,h⟩,⟨ys,upd_same⟩⟩
theorem St2.rest (a:St2 st p H H') {b:Addr} {o:HO} (n:b≠st) (m:b≠p) (h:H b=some o):H' b=some o:=by
 have:=a.sy.rest b o n (by rw [JQ m];exact h)
 rw [JQ m] at this;exact this
theorem St2.tp (a:St2 st p H H'):Tp H H':=fun b xs h=>by
 have n:b≠st:=fun z=>by
  obtain ⟨k,e⟩:=a.sy.at0;have e2:=(Jm e).2;subst z;rcases h with h | ⟨ob,h⟩ <;> rw [e2] at h <;> cases h
 have m:b≠p:=fun z=>by
  obtain ⟨k,e⟩:=a.p0;subst z;rcases h with h | ⟨ob,h⟩ <;> rw [e] at h <;> cases h
 rcases h with h | ⟨ob,h⟩
 ·exact .inl (a.rest n m h)
 ·exact .inr ⟨ob,a.rest n m h⟩
end
end
end L2
namespace Mine
open PySem L2
theorem vC {ds:List PyData} {hands:Bool} {s t:Nat} (h:Tre.Ptl (ds.map fun x=>(x,("statement":Str))) hands s t):Tre.zH ds=true:=by
 have q:=h.tr;rw [Bx] at q;have e:((fun x:PyData×Str=>x.1) ∘ fun x:PyData=>(x,("statement":Str)))=id:=rfl;rw [e,Df] at q;exact (Tre.Vg q.gd).1
theorem ZB {d:PyData} {u:Str} {hands:Bool} {s t:Nat} (h:Tre.Pt d u hands s t):Tre.noL d=true:=(Tre.Tr.gd h.tr).nol
structure Dw where
 st:Addr
 a:Addr
 nm:Addr
 ev:Addr
 pe:Addr
 po:List Addr
 ns:List Int
 names:List Str
 oo:List (List Str)
abbrev Dw.V (w:Dw):List Str:=w.oo.flatten
structure DOut (K:Frag) (H:Hp) (w:Dw) (k l:Int):Prop where
 dict:H w.st=some (.dK (stK w.a k l w.nm w.ev))
 cells:SqL K H w.a (w.ns.map V.int)
 nms:SqL K H w.nm (w.names.map V.str)
 lst:H w.ev=some (.lst ((w.po++[w.pe]).map V.ref))
 outs:∀ (i:Nat) (p:Addr) (o:List Str),w.po[i]?=some p→w.oo[i]?=some o→H p=some (.lst (o.map V.str))
structure DIn (K:Frag) (H:Hp) (w:Dw) (own:List Str) (k l:Int):Prop where
 out:DOut K (del H w.pe) w k l
 here:H w.pe=some (.lst (own.map V.str))
 good:Nms w.names
 len:w.po.length=w.oo.length
 oks:∀ o∈w.oo,o.Nodup∧∀ x∈o,x∈w.names
 nd:own.Nodup
 sub:∀ x∈own,x∈w.names
section
variable {P:Program} {w:World} {K:Frag} {mg:Str→Option Value} {base:Heap} {f:Addr} {fd:FuncData} {ad:Ad}
section
variable {H H':Hp} {z:Dw} {own:List Str} {k l k' l':Int}
theorem DOut.same (h:DOut K H z k l) (g:qv H H'):DOut K H' z k l:=⟨g _ _ h.dict,g.seq h.cells,g.seq h.nms,g _ _ h.lst,fun i p o a b=>g _ _ (h.outs i p o a b)⟩
theorem DOut.stay (h:DOut K H z k l) (g:Stay z.st H H') (e:H' z.st=some (.dK (stK z.a k' l' z.nm z.ev))):DOut K H' z k' l':=
 ⟨e,g.sqL h.cells,g.sqL h.nms,g.rest _ _ (g.ne h.lst fun _ z=>by cases z) h.lst,fun i p o a b=>g.rest _ _ (g.ne (h.outs i p o a b) fun _ z=>by cases z) (h.outs i p o a b)⟩
theorem DIn.dict (h:DIn K H z own k l):H z.st=some (.dK (stK z.a k l z.nm z.ev)):=(Jm h.out.dict).2
theorem DIn.cells (h:DIn K H z own k l):SqL K H z.a (z.ns.map V.int):=(qhc H z.pe).seq h.out.cells
theorem DIn.nms (h:DIn K H z own k l):SqL K H z.nm (z.names.map V.str):=(qhc H z.pe).seq h.out.nms
theorem DIn.lst (h:DIn K H z own k l):H z.ev=some (.lst ((z.po++[z.pe]).map V.ref)):=(Jm h.out.lst).2
theorem DIn.stp (h:DIn K H z own k l):z.st≠z.pe:=(Jm h.out.dict).1
theorem DIn.same (h:DIn K H z own k l) (g:qv H H'):DIn K H' z own k l:=⟨h.out.same (g.del _),g _ _ h.here,h.good,h.len,h.oks,h.nd,h.sub⟩
theorem DIn.stay (h:DIn K H z own k l) (g:Stay z.st H H') (e:H' z.st=some (.dK (stK z.a k' l' z.nm z.ev))):DIn K H' z own k' l':=
 ⟨h.out.stay (g.del h.stp) (by rw [JQ h.stp];exact e),g.rest _ _ h.stp.symm h.here,h.good,h.len,h.oks,h.nd,h.sub⟩
theorem DIn.put (h:DIn K H z own k l):DIn K (upd H z.st (.dK (stK z.a k' l' z.nm z.ev))) z own k' l':=h.stay (Stay.put h.dict) upd_same
theorem DIn.more (h:DIn K H z own k l) {x:Str} (hx:x∈z.names) (hn:x∉own):DIn K (upd H z.pe (.lst ((own++[x]).map V.str))) z (own++[x]) k l:=
 ⟨by rw [qdd];exact h.out,upd_same,h.good,h.len,h.oks,by
  rw [D1];exact ⟨h.nd,by simp,fun a ha b hb e=>by cases Am.mp hb;subst e;exact hn ha⟩,fun y hy=>by
  rcases Az.mp hy with hy | hy
  ·exact h.sub y hy
  ·cases Am.mp hy;exact hx⟩
theorem DIn.few (h:DIn K H z own k l):own.length≤8:=by
 have:=vf own z.names h.nd h.sub;rw [h.good.len] at this;exact this
end
inductive spStm (K:Frag) (n:Nat) (vs:List V) (H:Hp) (Q:VK) (E':XK):Prop
 | mk:∀ (z:Dw) (own:List Str) (k l deep:Int) (may:Bool),(vs=[.ref z.st,.int deep,.bl may])→(DIn K H z own k l)→(z.po.length+n≤12)→(Bud.PS n deep k l)→(∀ H' x d (s t:Nat) k' l' m,St2 z.st z.pe H H'→DIn K H' z (own++m) k' l'→Rep K H' x d→Tre.Ft z.names d→Tre.Pt d "statement" may s t→Bud.BS n k l s t k' l'→Tre.Sm (z.V++(own++m)) d m→Q x H')→spStm K n vs H Q E'
inductive spTrm (K:Frag) (n:Nat) (vs:List V) (H:Hp) (Q:VK) (E':XK):Prop
 | mk:∀ (z:Dw) (own:List Str) (k l deep:Int),(vs=[.ref z.st,.int deep])→(DIn K H z own k l)→(z.po.length+n≤12)→(Bud.PT n deep k l)→(∀ H' x d (s t:Nat) k' l',Stay z.st H H'→DIn K H' z own k' l'→Rep K H' x d→Tre.Ft z.names d→(∀ hands,Tre.Pt d "term" hands s t)→Bud.BT n deep k l s t k' l'→Tre.Sc (z.V++own) d→Q x H')→spTrm K n vs H Q E'
inductive spBdy (K:Frag) (n:Nat) (vs:List V) (H:Hp) (Q:VK) (E':XK):Prop
 | mk:∀ (z:Dw) (own:List Str) (k l deep:Int) (may:Bool),(vs=[.ref z.st,.int deep,.bl may])→(DIn K H z own k l)→(z.po.length+n≤12)→(Bud.PB n deep k l)→(∀ H' x ds (s t:Nat) k' l' m,St2 z.st z.pe H H'→DIn K H' z (own++m) k' l'→Rep K H' x (.tuple ds)→Tre.Fts z.names ds→Tre.Bd ds may s t→Bud.BB n k l s t k' l'→Tre.Sb (z.V++(own++m)) ds m→Q x H')→spBdy K n vs H Q E'
section
variable {n i j v:Nat} {σ:St} {H:Hp} {Q:VK} {z:Dw} {own:List Str} {k l deep:Int} {may:Bool}
theorem qm0 (di:DIn K H z own k l) (hl:z.po.length+n≤12) (p:Bud.PT n deep k l) (h:∀ H' x d (s t:Nat) k' l',Stay z.st H H'→DIn K H' z own k' l'→Rep K H' x d→Tre.Ft z.names d→(∀ hands,Tre.Pt d "term" hands s t)→Bud.BT n deep k l s t k' l'→Tre.Sc (z.V++own) d→Q x H'):spTrm K n [.ref z.st,.int deep] H Q E0:=⟨z,own,k,l,_,rfl,di,hl,p,h⟩
theorem jC (hi:σ[i]?=some (some (.ref z.st))) (hj:σ[j]?=some (some (.int deep))) (di:DIn K H z own k l) (hl:z.po.length+n≤12) (p:Bud.PT n (deep - 1) k l) (h:∀ H' x d (s t:Nat) k' l',Stay z.st H H'→DIn K H' z own k' l'→Rep K H' x d→Tre.Ft z.names d→(∀ hands,Tre.Pt d "term" hands s t)→Bud.BT n (deep - 1) k l s t k' l'→Tre.Sc (z.V++own) d→Q x H'):
  qG (spTrm K n) [] E0 (qf (qg i) (qf (tOp (rI0 fun i j=>V.int (i - j)) (qg j) (tC (V.int 1))) qp)) σ H Q:=⟨_,hi,_,hj,_,_,rfl,rfl,qm0 di hl p h⟩
theorem qjv (di:DIn K H z own k l) (hl:z.po.length+n≤12) (p:Bud.PB n deep k l) (h:∀ H' x ds (s t:Nat) k' l' m,St2 z.st z.pe H H'→DIn K H' z (own++m) k' l'→Rep K H' x (.tuple ds)→Tre.Fts z.names ds→Tre.Bd ds may s t→Bud.BB n k l s t k' l'→Tre.Sb (z.V++(own++m)) ds m→Q x H'):spBdy K n [.ref z.st,.int deep,.bl may] H Q E0:=⟨z,own,k,l,_,may,rfl,di,hl,p,h⟩
theorem Vy (hi:σ[i]?=some (some (.ref z.st))) (hj:σ[j]?=some (some (.int deep))) (hv:σ[v]?=some (some (.bl may))) (di:DIn K H z own k l) (hl:z.po.length+n≤12) (p:Bud.PB n (deep - 1) k l) (h:∀ H' x ds (s t:Nat) k' l' m,St2 z.st z.pe H H'→DIn K H' z (own++m) k' l'→Rep K H' x (.tuple ds)→Tre.Fts z.names ds→Tre.Bd ds may s t→Bud.BB n k l s t k' l'→Tre.Sb (z.V++(own++m)) ds m→Q x H'):
  qG (spBdy K n) [] E0 (qf (qg i) (qf (tOp (rI0 fun i j=>V.int (i - j)) (qg j) (tC (V.int 1))) (qf (qg v) qp))) σ H Q:=⟨_,hi,_,hj,_,_,rfl,rfl,_,hv,qjv di hl p h⟩
theorem qju (di:DIn K H z own k l) (hl:z.po.length+n≤12) (p:Bud.PS n deep k l) (h:∀ H' x d (s t:Nat) k' l' m,St2 z.st z.pe H H'→DIn K H' z (own++m) k' l'→Rep K H' x d→Tre.Ft z.names d→Tre.Pt d "statement" may s t→Bud.BS n k l s t k' l'→Tre.Sm (z.V++(own++m)) d m→Q x H'):spStm K n [.ref z.st,.int deep,.bl may] H Q E0:=⟨z,own,k,l,_,may,rfl,di,hl,p,h⟩
end
theorem qmw {V own m m':List Str}:∀ x∈V++(own++m),x∈V++(own++(m++m')):=fun x hx=>by
 rcases Az.mp hx with h | h
 ·exact By _ h
 ·refine A7 _ ?_;rw [← Bi];exact By _ h
inductive Iv_TreN8_0 (K:W.Frag) (n:Nat) (H:Hp) (z:Dw) (own:List Str) (k:Int) (l:Int) (may:Bool) (i:Nat) (ys:List V) (H':Hp):Prop
 | mk:∀ (ds:List PyData) (k' l':Int) (s t:Nat) (m:List Str),(St2 z.st z.pe H H')→(DIn K H' z (own++m) k' l')→(Reps K H' ys ds)→(ds.length=i)→(Tre.Fts z.names ds)→(Tre.Ptl (ds.map fun x=>(x,("statement":Str))) may s t)→(Bud.BI n k l i s t k' l')→(Tre.Sb (z.V++(own++m)) ds m)→Iv_TreN8_0 K n H z own k l may i ys H'
theorem WP (F:Fun K "_law_body" "_law_body" JK f fd) (c:Cs K mg ad) (n:Nat) (d_law_next:Def P w K mg base 2 "_law_next" ["_law_state"] (spNext K)) (d_law_statement:Def P w K mg base (5*n+6) "_law_statement" ["_law_state","_law_deep","_law_may_hand"] (spStm K n)):FnOk P w K mg base CX0 (5*n+7) f fd ["_law_state","_law_deep","_law_may_hand"] (spBdy K n):=by
 refine F.ok (k:=5*n+6) Qs (fun vs H Q E h=>?_) (fun cdv A outer s H vs Q E hr h=>?_)
 ·obtain ⟨z,own,k,l,deep,may,rfl,_⟩:=h;rfl
 obtain ⟨z,own,k,l,deep,may,rfl,di,hl,pp,q⟩:=h;refine ⟨_,(qi (qw (qW (jL (K:=K) rfl) (by rfl) c.tuple_ zx (qb (zX (sc:=ql JK) (NX:=["_law_state","_law_deep","_law_may_hand"]) (N:=["_law_turn","_law_state","_law_deep","_law_may_hand"]) (js:=[none,some 0,some 1,some 2]) (jG rfl c.range_ (qb (qt zc (pdf d_law_next (qb (pv 0) qc)) qh) qc)) (fun _ _ _ _ _=>(zh (i:=0) (show (["_law_turn","_law_state","_law_deep","_law_may_hand"]:List Str).Nodup from ∅) rfl (Or.inl rfl))) (fun _ _ _ _ _=>jp) (fun _ _ _ _ _=>(pdf d_law_statement (qb (pv 1) (qb (pv 2) (qb (pv 3) qc))))) (zA rfl) ⟨∅,rfl,∅,∅,rfl,∅⟩) qc)))),?_⟩
 show zV (tCB (fun xs H Q=>∃ p ys,xs=[V.ref p]∧((SqL K H p ys∧∀ (l:Addr),H l=none→Q (V.ref l) (upd H l (HO.tup ys)))∨SqT K H p ys∧Q (V.ref p) H)) (qf (jM (QY (qf (tOp (rI (fun x j=>0<j) fun i j=>V.int (i % j)) (qG (spNext K) [] E0 (qf (qg 0) qp)) (tC (V.int 4))) qp)) [none,some 0,some 1,some 2] (qm 0) vQ (qG (spStm K n) [] E0 (qf (qg 1) (qf (qg 2) (qf (qg 3) qp))))) qp)) _ _ _;refine ⟨_,rfl,z.st,z.a,z.nm,z.ev,z.ns,k,l,rfl,di.dict,di.cells,pp.2.1,(by have:=pp.2.2;omega),fun y H1 hz0 hz1 e1=>?_⟩
 have z0:=Bj y (show (4:Int)≠0 from O0);have z1:=Bc y (show (0:Int)<4 from O0);have di1:DIn K H1 z own (k+1) l:=e1▸di.put;have st1:St2 z.st z.pe H H1:= .of (e1▸Stay.put di.dict) di.here;refine ⟨_,_,rfl,rfl,(show (0:Int)<4 from O0),_,rfl,⋯,⋯,?_⟩;generalize hc:(y % 4).toNat=cnt;have hc3:cnt≤3:=⋯;refine zD cnt (Iv_TreN8_0 K n H z own k l may) ?_ (fun i ys H' h=>?_) (A0 hc3 O0) (fun i ys H' hi h=>?_) (fun ys H' h=>?_)
 ·exact ⟨[],k+1,l,0,0,[],st1,by rw [An];exact di1,.nil,rfl,.nil,.nil,.nil,.nil⟩
 ·obtain ⟨ds,k',l',s,t,m,_,_,rs,hl,_⟩:=h;have:=rs.length;omega
 ·obtain ⟨ds,k',l',s,t,m,sy,di2,rs,hn,hf,pt,b,sb⟩:=h;refine ⟨hi,fun v H3 yl=>?_⟩;obtain ⟨rfl,rfl⟩:=yl;refine ⟨_,rfl,_,rfl,_,rfl,qju di2 hl (b.pre pp ⋯) fun H4 x d s2 t2 k2 l2 m2 sy4 di4 rx fx px b2 sm=>?_⟩;rw [Bi] at di4 sm;refine ⟨ds++[d],k2,l2,s+s2,max t t2,m++m2,sy.trans sy4,di4,(rs.tp sy4.tp (vC pt)).append (.cons rx .nil),by rw [Ac,hn];rfl,hf.snoc fx,?_,b.snoc b2,sb.snoc qmw sm⟩
  rw [Ah];exact pt.append (Tre.jW px)
 ·obtain ⟨ds,k',l',s,t,m,sy,di2,rs,hn,hf,pt,b,sb⟩:=h;refine ⟨Ag _,fun D hD=>?_⟩;refine ⟨D,ys,rfl,.inl ⟨SqL.of upd_same,fun p hp=>?_⟩⟩;have g:=(qe hD (.lst ys)).trans (qe hp (.tup ys));exact q _ _ ds s t k' l' m (sy.then g) (di2.same g) (.tup (SqT.of upd_same) (rs.same g)) hf ⟨⋯,pt⟩ (b.out hc3) sb
theorem qjp (h:Str) (l:List Str):inV (.str h) (l.map V.str)=l.contains h:=by
 induction l with
 | nil=>rfl
 | cons x r ih=>
  show (eqV (.str x) (.str h)||inV (.str h) (r.map V.str))=_;rw [ih,List.contains_cons]
  congr 1
  show (x==h)=(h==x);rw [Ca,A4,A4];exact eq_comm
theorem qc7 (l:List Str):(l.map V.str).all Vi=true:=by
 rw [C9];exact A8.mpr fun x _=>rfl
theorem qev {names:List Str} (g:Nms names) {lo hi:Int} (h0:0≤lo) (h1:lo≤hi∧hi≤lo+3):∃ cut:List Str,wv (names.map V.str) (some lo) (some hi)=cut.map V.str∧Tre.areNames (.tuple (cut.map PyData.str))=true∧∀ x∈cut,Tre.zn x=true∧x∈names:=by
 obtain ⟨i,rfl⟩:∃ i:Nat,lo=(i:Int):=⟨lo.toNat,⋯⟩;obtain ⟨j,rfl⟩:∃ j:Nat,hi=(j:Int):=⟨hi.toNat,⋯⟩;refine ⟨(names.drop (min i names.length)).take (min j names.length - min i names.length),?_,?_,fun x hx=>⟨g.good x (List.mem_of_mem_drop (Ct hx)),List.mem_of_mem_drop (Ct hx)⟩⟩
 ·unfold wv;rw [HT.sIx_nat,HT.sIx_nat,Ab,List.map_take,List.map_drop]
 ·have hl:((names.drop (min i names.length)).take (min j names.length - min i names.length)).length≤4:=by
   have:=B0 (min j names.length - min i names.length) (names.drop (min i names.length));omega
  have hsub:∀ x∈(names.drop (min i names.length)).take (min j names.length - min i names.length),Tre.zn x=true:=fun x hx=>g.good x (List.mem_of_mem_drop (Ct hx));have hnd:((names.drop (min i names.length)).take (min j names.length - min i names.length)).Nodup:=(List.Pairwise.drop g.nd).take;generalize (names.drop (min i names.length)).take (min j names.length - min i names.length)=cut at hl hsub hnd;simp only [Tre.areNames];rw [Ab,Al hl,Cv,Bx,Ae];refine ⟨?_,Al ?_⟩
  ·rw [C9];exact A8.mpr fun x hx=>hsub x hx
  ·have e:(Tre.txt ∘ PyData.str)=id:=rfl;rw [e,Df];exact hnd
theorem qc8 {l:List Str} {x:Str} (h:l.contains x=true):([x].filter fun x=>!l.contains x)=[]:=List.filter_cons_of_neg (by rw [h];exact Ai)
theorem Q4 {l:List Str} {x:Str} (h:¬ l.contains x=true):([x].filter fun x=>!l.contains x)=[x]:=List.filter_cons_of_pos (by rw [Bz.mpr h];rfl)
def Dw.os (z:Dw) (own:List Str):List (List Str):=z.oo++[own]
section
variable {H H':Hp} {z:Dw} {own:List Str} {k l:Int}
theorem DIn.gE (h:DIn K H z own k l):vL H z.st (.str "env") (some (.ref z.ev)):=by rw [← qjz z.a k l z.nm z.ev];exact vL.k (k:=Sum.inr "env") h.dict
theorem DIn.gL (h:DIn K H z own k l):vL H z.st (.str "left") (some (.int l)):=by rw [← qch z.a k l z.nm z.ev];exact vL.k (k:=Sum.inr "left") h.dict
theorem DIn.gN (h:DIn K H z own k l):vL H z.st (.str "names") (some (.ref z.nm)):=by rw [← qfr z.a k l z.nm z.ev];exact vL.k (k:=Sum.inr "names") h.dict
theorem DIn.at_ (h:DIn K H z own k l) {i:Nat} (hi:i<z.po.length+1):∃ p o,((z.po++[z.pe]).map V.ref)[i]?=some (.ref p)∧(z.os own)[i]?=some o∧H p=some (.lst (o.map V.str))∧o.Nodup∧∀ x∈o,x∈z.names:=by
 have hl:=h.len;rw [Ar];unfold Dw.os
 by_cases hc:i<z.po.length
 ·have e1:z.po[i]?=some z.po[i]:=Af hc;have e2:z.oo[i]?=some (z.oo[i]'⋯):=Af ⋯;refine ⟨_,_,by rw [Bp hc,e1];rfl,by rw [Bp ⋯];exact e2,(Jm (h.out.outs i _ _ e1 e2)).2,h.oks _ (Ay e2)⟩
 ·obtain rfl:i=z.po.length:=⋯;exact ⟨z.pe,own,by rw [Bl (Ag _),Da];rfl,by rw [hl,Bl (Ag _),Da];rfl,h.here,h.nd,h.sub⟩
end
structure Seen (names:List Str) (os:List (List Str)) (found:List Str):Prop where
 nd:found.Nodup
 all:∀ x∈found,x∈os.flatten∧x∈names
 some:found=[]→os.flatten=[]
theorem Seen.few {names:List Str} (g:Nms names) {os:List (List Str)} {found:List Str} (h:Seen names os found):found.length≤8:=by
 have:=vf found names h.nd fun x hx=>(h.all x hx).2;rw [g.len] at this;exact this
theorem Seen.more {names:List Str} {os:List (List Str)} {found o:List Str} (h:Seen names os found) (hn:o.Nodup) (hs:∀ x∈o,x∈names):Seen names (os++[o]) (found++o.filter fun x=>!found.contains x):=by
 have ef:(os++[o]).flatten=os.flatten++o:=by rw [Eo];simp
 refine ⟨?_,fun x hx=>?_,fun e=>?_⟩
 ·rw [D1];refine ⟨h.nd,hn.filter _,fun a ha b hb e=>?_⟩;subst e;have:=(Dx.mp hb).2;rw [B2.mpr ha] at this;cases this
 ·rw [ef];rcases Az.mp hx with h1 | h1
  ·exact ⟨By _ (h.all x h1).1,(h.all x h1).2⟩
  ·exact ⟨A7 _ (Dx.mp h1).1,hs x (Dx.mp h1).1⟩
 ·obtain ⟨e1,e2⟩:=Dq.mp e;subst e1;rw [ef,h.some rfl,Bv];cases o with
  | nil=>rfl
  | cons x r=>cases e2
inductive spVis (K:Frag) (vs:List V) (H:Hp) (Q:VK) (E':XK):Prop
 | mk:∀ (z:Dw) (own:List Str) (k l:Int),(vs=[.ref z.st])→(DIn K H z own k l)→(z.po.length≤12)→(∀ H' p seen,qv H H'→H' p=some (.lst (seen.map V.str))→Seen z.names (z.os own) seen→Q (.ref p) H')→spVis K vs H Q E'
inductive Iv_TreO8_0 (H:Hp) (z:Dw) (own:List Str) (i:Nat) (σ:St) (H':Hp):Prop
 | mk:∀ (p:Addr) (found:List Str) (o2:Option V),(σ=[some (.ref z.st),some (.ref p),o2])→(qv H H')→(H' p=some (.lst (found.map V.str)))→(Seen z.names ((z.os own).take i) found)→Iv_TreO8_0 H z own i σ H'
def yc (K:Frag):TS:=qP (tOp jh (qg 1) (jM (jD K (qg 2)) [none,some 1] (qm 0) (qJ (tOp (rIn K true) (qg 0) (qg 1))) (qg 0))) (qm 1)
def W9 (K:Frag):TS:=qB (Jv (jD K (VD (qg 0) (tC (V.str "env")))) (qm 2) (yc K)) (zV (qg 1))
theorem y0 (F:Fun K "_law_visible" "_law_visible" Jd f fd) (c:Cs K mg ad):FnOk P w K mg base CX0 1 f fd ["_law_state"] (spVis K):=by
 refine F.ok jO (fun vs H Q E h=>?_) (fun cdv A outer s H vs Q E hr h=>?_)
 ·obtain ⟨z,own,k,l,rfl,_⟩:=h;rfl
 obtain ⟨z,own,k,l,rfl,di,hl,q⟩:=h;have hu:=Ve hr;refine ⟨_,(qd (pst 1 jO.nd (zg qc))
   (qd (zT Bh rfl (j5 (K:=K) rfl (zS hu (pv 0) qq (fun _ _=>rfl))) (pgn 2 jO.nd) (qi (pst 1 jO.nd (qt zi (pv 1) (zX (sc:=ql Jd) (NX:=["_law_state","_law_found","_law_own"]) (N:=["_law_name","_law_found"]) (js:=[none,some 1]) (j5 (K:=K) rfl (pv 2)) (fun _ _ _ _ _=>(zh (i:=0) (show (["_law_name","_law_found"]:List Str).Nodup from ∅) rfl (Or.inl rfl))) (fun _ _ _ _ _=>(qbh (qr (Ya (K:=K) rfl) (pv 0) (pv 1) rfl))) (fun _ _ _ _ _=>(pv 0)) (zA rfl) ⟨∅,rfl,∅,∅,rfl,∅⟩)))))
   (qi (qw (pv 1))))),?_⟩
 show qB (qP (Ju qp) (qm 1)) (W9 K) _ _ _;clear hu;refine ⟨(O0:0≤sizeLine),fun p0 hp0=>?_⟩;have g0:=qe hp0 (.lst []);refine ⟨_,rfl,z.st,_,rfl,(di.same g0).gE,.inl ⟨z.ev,rfl,⟨_,SqL.of (di.same g0).lst⟩,?_⟩⟩;refine jZ (z.po.length+1) (Iv_TreO8_0 H z own) ⟨p0,[],none,rfl,g0,upd_same,⟨Ei,fun x hx=>(by cases hx),fun _=>rfl⟩⟩ (fun i σ H1 hi h=>?_) (fun σ H1 h=>?_)
 ·obtain ⟨p,found,o2,rfl,g1,hp,sn⟩:=h;have di1:=di.same g1;obtain ⟨pi,o,e1,e2,hpi,nd,sb⟩:=di1.at_ hi;refine ⟨⟨_,_,SqL.of di1.lst,e1⟩,fun v H2 yl D' hn hr'=>?_⟩;obtain ⟨rfl,hv⟩:=yl;cases e1.symm.trans (hv _ (SqL.of di1.lst));refine ⟨_,rfl,_,rfl,.inl ⟨pi,rfl,⟨_,SqL.of hpi⟩,?_⟩⟩;have ol:o.length≤8:=by
   have:=vf o z.names nd sb;rw [di.good.len] at this;exact this
  refine zD o.length (fun j ys H'=>H'=H2∧ys=((o.take j).filter fun x=>!found.contains x).map V.str) ⟨rfl,rfl⟩ (fun j ys H' h=>?_) (qU ⋯) (fun j ys H3 hj h=>?_) (fun ys H3 h=>?_)
  ·rw [h.2,Ab];exact A0 (List.length_filter_le _ _) (B0 _ _)
  ·obtain ⟨rfl,rfl⟩:=h;obtain ⟨x,ei⟩:=Vf (l:=o) (i:=j) hj;have hxi:(o.map V.str)[j]?=some (.str x):=by rw [Ar,ei];rfl
   refine ⟨⟨_,_,SqL.of hpi,hxi⟩,fun v H4 yl=>?_⟩;obtain ⟨rfl,hv4⟩:=yl;cases hxi.symm.trans (hv4 _ (SqL.of hpi));have htk:o.take (j+1)=o.take j++[x]:=by rw [Bb,ei];rfl
   refine ⟨_,rfl,_,rfl,p,_,rfl,.inl (SqL.of hp),rfl,qc7 _,_,rfl,?_⟩;rw [if_pos rfl,qjp,htk,List.filter_append]
   by_cases hc:found.contains x=true
   ·rw [hc];exact qO rfl ⟨rfl,by rw [qc8 hc,An]⟩
   ·rw [Bz.mpr hc];exact qX rfl ⟨_,rfl,rfl,by rw [Q4 hc,Ah];rfl⟩
  ·obtain ⟨rfl,rfl⟩:=h;rw [Bo];refine ⟨⟨_,SqL.of hpi,by rw [Ab];exact Ag _⟩,fun pc hpc=>?_⟩
   have g3:=qe hpc (.lst ((o.filter fun x=>!found.contains x).map V.str));have lf:=List.length_filter_le (fun x=>!found.contains x) o;have ln:=sn.few di.good;refine .inr (.inr ⟨p,pc,_,_,rfl,rfl,g3 _ _ hp,upd_same,qU (by simp only [Ab,Ac];omega),fun pd hpd=>?_⟩)
   rw [← Ah];refine hn _ _ ⟨pd,found++o.filter fun x=>!found.contains x,_,rfl,(g1.trans g3).trans (qe hpd _),upd_same,?_⟩;rw [Bb,e2];exact sn.more nd sb
 ·obtain ⟨p,found,o2,rfl,g1,hp,sn⟩:=h;have di1:=di.same g1;refine ⟨⟨_,SqL.of di1.lst,by simp⟩,_,rfl,q H1 p found g1 hp ?_⟩
  have hlen:(z.os own).length=z.po.length+1:=by unfold Dw.os;rw [Ac,di.len];rfl
  rw [← hlen,Bo] at sn;exact sn
theorem qdl {α:Type} (xs:List α) (x:α):atI (xs++[x]) (-1)=some x:=by
 unfold atI ixN;rw [if_neg O0,if_pos (by rw [Ac,Av];omega)]
 show (xs++[x])[_]?=some x;have e:(-1+((xs++[x]).length:Nat):Int).toNat=xs.length:=by rw [Ac,Av];omega
 rw [e,Bl (Ag _),Da];rfl
theorem DIn.at1 {H:Hp} {z:Dw} {own:List Str} {k l:Int} (_:DIn K H z own k l):atI ((z.po++[z.pe]).map V.ref) (-1)=some (.ref z.pe):=by rw [Ah];exact qdl _ _
inductive spNew (K:Frag) (vs:List V) (H:Hp) (Q:VK) (E':XK):Prop
 | mk:∀ (z:Dw) (own:List Str) (k l more:Int),(vs=[.ref z.st,.int more])→(DIn K H z own k l)→((∀ H',qv H H'→(∀ x∈z.names,x∈own)→Q .non H'))→((∀ H' x,St2 z.st z.pe H H'→DIn K H' z (own++[x]) k l→x∈z.names→Q (.str x) H'))→spNew K vs H Q E'
def Wf (K:Frag):TS:=zV (tOp (rIx K) (tOp (rIx K) (VD (qg 0) (tC (V.str "env"))) (tUn (rU fun i=>V.int (-i)) (tC (V.int 1)))) (tUn (rU fun i=>V.int (-i)) (tC (V.int 1))))
def We (K:Frag):TS:=qB (zz (tBM K "list" zM (tOp (rIx K) (VD (qg 0) (tC (V.str "env"))) (tUn (rU fun i=>V.int (-i)) (tC (V.int 1)))) (qf (tOp (rIx K) (qg 2) (tOp (rI (fun x j=>0<j) fun i j=>V.int (i % j)) (qg 1) (tCB (fun xs H Q=>∃ x n,xs=[x]∧Vo K x H n∧Q (V.int ↑n) H) (qf (qg 2) qp)))) qp))) (Wf K)
def Wd (K:Frag):TS:=qB (zJ (qJ (tOp (qf5 K) (qg 2) (Ju qp))) (zV (tC V.non)) zu) (We K)
theorem W1 (F:Fun K "_law_new_name" "_law_new_name" jQ f fd) (c:Cs K mg ad):FnOk P w K mg base CX0 1 f fd ["_law_state","_law_more"] (spNew K):=by
 refine F.ok vM (fun vs H Q E h=>?_) (fun cdv A outer s H vs Q E hr h=>?_)
 ·obtain ⟨z,own,k,l,more,rfl,_⟩:=h;rfl
 obtain ⟨z,own,k,l,more,rfl,di,q1,q2⟩:=h;have hu:=Ve hr;have hu64:=hr.units;refine ⟨_,(qd (yB (i:=2) vM.nd rfl (by first | exact Or.inl rfl | exact Or.inr rfl) (sc:=ql jQ) (NX:=["_law_state","_law_more","_law_left"]) (N:=["_law_name","_law_state"]) (js:=[none,some 0]) (j5 (K:=K) rfl (zS hu (pv 0) qq (fun _ _=>rfl))) (fun _ _ _ _ _=>(zh (i:=0) (show (["_law_name","_law_state"]:List Str).Nodup from ∅) rfl (Or.inl rfl))) (fun _ _ _ _ _=>(qbh (qr (Ya (K:=K) rfl) (pv 0) (pix K (zS hu (pv 1) qq (fun _ _=>rfl)) (Qv yL qh)) rfl))) (fun _ _ _ _ _=>(pv 0)) (zA rfl) ⟨∅,rfl,∅,∅,rfl,∅⟩)
   (qd (qK (qr (ZN (K:=K) rfl (Cf (Nat.le_add_right _ _) hu64)) (pv 2) (zg qc) (qz _)) (qi (qw JN)) qy)
   (qd (qT (Jn (K:=K) rfl Ax Bu Bs zC (pix K (zS hu (pv 0) qq (fun _ _=>rfl)) (Qv yL qh)) (qb (pix K (pv 2) (qt zc (pv 1) (qx (jY (K:=K) rfl) (by rfl) c.len_ z9 (qb (pv 2) qc)))) qc)))
   (qi (qw (pix K (pix K (zS hu (pv 0) qq (fun _ _=>rfl)) (Qv yL qh)) (Qv yL qh))))))),?_⟩
 show qB (qP (jM (jD K (VD (qg 0) (tC (V.str "names")))) [none,some 0] (qm 0) (qJ (tOp (rIn K true) (qg 0) (tOp (rIx K) (VD (qg 1) (tC (V.str "env"))) (tUn (rU fun i=>V.int (-i)) (tC (V.int 1)))))) (qg 0)) (qm 2)) (Wd K) _ _ _;clear hu hu64;have hl8:=di.good.len;refine ⟨_,rfl,z.st,_,rfl,di.gN,.inl ⟨z.nm,rfl,⟨_,di.nms⟩,?_⟩⟩;refine zD z.names.length (fun j ys H'=>H'=H∧ys=((z.names.take j).filter fun x=>!own.contains x).map V.str) ⟨rfl,rfl⟩ (fun j ys H' h=>?_) (qU ⋯) (fun j ys H3 hj h=>?_) (fun ys H3 h=>?_)
 ·rw [h.2,Ab];exact A0 (List.length_filter_le _ _) (B0 _ _)
 ·obtain ⟨rfl,rfl⟩:=h;obtain ⟨x,ei⟩:=Vf (l:=z.names) (i:=j) hj;have hxi:(z.names.map V.str)[j]?=some (.str x):=by rw [Ar,ei];rfl
  refine ⟨⟨_,_,di.nms,hxi⟩,fun v H4 yl=>?_⟩;obtain ⟨rfl,hv4⟩:=yl;cases hxi.symm.trans (hv4 _ di.nms);have htk:z.names.take (j+1)=z.names.take j++[x]:=by rw [Bb,ei];rfl
  refine ⟨_,rfl,_,rfl,z.st,_,rfl,di.gE,_,rfl,.inl ⟨z.ev,_,_,_,rfl,rfl,SqL.of di.lst,di.at1,z.pe,_,rfl,.inl (SqL.of di.here),rfl,qc7 _,_,rfl,?_⟩⟩;rw [if_pos rfl,qjp,htk,List.filter_append]
  by_cases hc:own.contains x=true
  ·rw [hc];exact qO rfl ⟨rfl,by rw [qc8 hc,An]⟩
  ·rw [Bz.mpr hc];exact qX rfl ⟨_,rfl,rfl,by rw [Q4 hc,Ah];rfl⟩
 obtain ⟨rfl,rfl⟩:=h;rw [Bo];refine ⟨⟨_,di.nms,by rw [Ab];exact Ag _⟩,fun pl hpl=>?_⟩
 have g1:=qe hpl (.lst ((z.names.filter fun x=>!own.contains x).map V.str));have hl1:upd H3 pl (.lst ((z.names.filter fun x=>!own.contains x).map V.str)) pl=some (.lst ((z.names.filter fun x=>!own.contains x).map V.str)):=upd_same;dsimp only;generalize upd H3 pl (.lst ((z.names.filter fun x=>!own.contains x).map V.str))=H1 at g1 hl1 ⊢;refine ⟨_,rfl,(O0:0≤sizeLine),fun p2 hp2=>?_⟩;have g2:=qe hp2 (.lst []);refine ⟨pl,p2,_,rfl,rfl,SqL.of (g2 _ _ hl1),SqL.of upd_same,_,rfl,?_⟩;have g12:=g1.trans g2;have hl2:=g2 _ _ hl1;generalize upd H1 p2 (.lst [])=H2 at g12 hl2 ⊢;have di2:=di.same g12;cases el:z.names.filter fun x=>!own.contains x with
 | nil=>
  refine qX rfl (q1 _ g12 fun x hx=>?_);have:=List.filter_eq_nil_iff.mp el x hx;simpa using this
 | cons y r=>
  rw [el] at hl2;refine qO rfl ?_;obtain ⟨v,hv,x,rfl,hx,hxo⟩:=vJ (xs:=(y::r).map V.str) (i:=more % ((((y::r).map V.str).length:Nat):Int)) (p:=fun v=>∃ x,v= .str x∧x∈z.names∧x∉own) (fun v hv=>by
   obtain ⟨x,hx,rfl⟩:=Bt.mp hv;rw [← el] at hx;have:=Dx.mp hx;exact ⟨x,rfl,this.1,by simpa using this.2⟩) (Bj _ (by rw [Ab,Ak];omega)) (Bc _ (by rw [Ab,Ak];omega))
  have few:=di.few;refine ⟨_,rfl,z.st,_,rfl,di2.gE,_,rfl,.inl ⟨z.ev,_,_,_,rfl,rfl,SqL.of di2.lst,di2.at1,.inl ⟨rfl,_,SqL.of di2.here⟩,?_⟩⟩;refine ⟨_,rfl,_,rfl,_,rfl,_,_,rfl,.inl ⟨_,SqL.of hl2,rfl⟩,_,_,rfl,rfl,(by rw [Ab,Ak];omega),.inl ⟨pl,_,_,_,rfl,rfl,SqL.of hl2,hv,?_⟩⟩
  refine ⟨z.pe,_,_,rfl,rfl,di2.here,qU (by rw [Ab];omega),?_⟩
  have e:own.map V.str++[V.str x]=(own++[x]).map V.str:=by rw [Ah];rfl
  rw [e];have di3:=di2.more hx hxo;have s3:St2 z.st z.pe H3 (upd H2 z.pe (.lst ((own++[x]).map V.str))):=(St2.of (Stay.of di.dict g12) di.here).trans (St2.put di2.out.dict di2.here);generalize upd H2 z.pe (.lst ((own++[x]).map V.str))=H4 at di3 s3 ⊢;refine ⟨_,rfl,z.st,_,rfl,di3.gE,_,rfl,.inl ⟨z.ev,_,_,_,rfl,rfl,SqL.of di3.lst,di3.at1,_,rfl,.inl ⟨z.pe,_,_,_,rfl,rfl,SqL.of di3.here,by rw [Ah];exact qdl _ _,q2 _ x s3 di3 hx⟩⟩⟩
theorem qhb {H:Hp} {p ev:Addr} {o o2:HO} (hp:H p=none) (n:ev≠p):del (upd (upd H p o) ev o2) p=upd H ev o2:=by
 funext b;unfold del
 by_cases e:b=p
 ·rw [if_pos e,e,qk (Ne.symm n),hp]
 ·rw [if_neg e]
  by_cases e2:b=ev
  ·rw [e2,upd_same,upd_same]
  ·rw [qk e2,qk e2,qk e]
theorem qci {H:Hp} {a e:Addr} {xs ys:List V} {o:HO} (h:SqL K H a xs) (he:H e=some (.lst ys)) (n:xs≠ys):SqL K (upd H e o) a xs:=by
 rcases h with h | h
 ·refine .inl ?_;have na:a≠e:=fun z=>by
   subst z;rcases h with h | ⟨ob,h⟩
   ·rw [he] at h;cases h;exact n rfl
   ·rw [he] at h;cases h
  unfold Rd;rw [qk na];exact h
 ·exact .inr h
theorem yD {α:Type} {f:α→V} (hf:∀ x a,f x≠ .ref a) (l:List α) (q:List Addr) (a:Addr):l.map f≠(q++[a]).map V.ref:=fun e=>by
 have:V.ref a∈l.map f:=by rw [e];exact Bt.mpr ⟨a,A7 _ A5,rfl⟩
 obtain ⟨x,_,h⟩:=Bt.mp this;exact hf x a h
def Dw.push (z:Dw) (p:Addr) (own:List Str):Dw:={z with pe:=p,po:=z.po++[z.pe],oo:=z.oo++[own]}
theorem DIn.push {H:Hp} {z:Dw} {own cut:List Str} {k l:Int} {p:Addr} (h:DIn K H z own k l) (hp:H p=none) (hn:cut.Nodup) (hs:∀ x∈cut,x∈z.names):
  DIn K (upd (upd H p (.lst (cut.map V.str))) z.ev (.lst ((z.po++[z.pe]).map V.ref++[.ref p]))) (z.push p own) cut k l:=by
 have ne:z.ev≠p:=fun e=>by
  have:=h.lst;rw [e,hp] at this;cases this
 have ns:z.st≠z.ev:=fun e=>by
  have:=h.lst;rw [← e,h.dict] at this;cases this
 refine ⟨?_,by show upd _ z.ev _ p=_;rw [qk (Ne.symm ne)];exact upd_same,h.good,?_,fun o ho=>?_,hn,hs⟩
 ·show DOut K (del _ p) _ k l;rw [qhb hp ne];refine ⟨by show upd _ z.ev _ z.st=_;rw [qk ns];exact h.dict,qci h.cells h.lst (yD (fun _ _ e=>by cases e) _ _ _),qci h.nms h.lst (yD (fun _ _ e=>by cases e) _ _ _),?_,fun i b o hb ho=>?_⟩
  ·show upd _ z.ev _ z.ev=some (.lst ((z.po++[z.pe]++[p]).map V.ref));rw [upd_same,Ah (l₁:=z.po++[z.pe])];rfl
  ·have hi:i<z.po.length+1:=by
    have:=(Be.mp hb).1;rw [show (z.push p own).po=z.po++[z.pe] from rfl,Ac] at this;exact this
   obtain ⟨b',o',e1,e2,e3,_⟩:=h.at_ hi;have eb:b=b':=by
    rw [Ar,show (z.po++[z.pe])[i]?=some b from hb] at e1;cases e1;rfl
   have eo:o=o':=Bg (ho.symm.trans e2);subst eb;subst eo;have nb:b≠z.ev:=fun e=>by
    have l2:=h.lst;rw [← e,e3] at l2;exact yD (fun _ _ e=>by cases e) _ _ _ (HO.lst.inj (Bg l2))
   rw [qk nb];exact e3
 ·show (z.po++[z.pe]).length=(z.oo++[own]).length;rw [Ac,Ac,h.len];rfl
 ·rcases Az.mp ho with ho | ho
  ·exact h.oks o ho
  ·cases Am.mp ho;exact ⟨h.nd,h.sub⟩
theorem DIn.pop {H H5:Hp} {z:Dw} {own cut m:List Str} {k l k' l':Int} {p:Addr} (h:DIn K H z own k l) (hp:H p=none) (sy:St2 z.st p (upd (upd H p (.lst (cut.map V.str))) z.ev (.lst ((z.po++[z.pe]).map V.ref++[.ref p]))) H5) (d5:DIn K H5 (z.push p own) m k' l'):
  Stay z.st H (upd H5 z.ev (.lst ((z.po++[z.pe]).map V.ref)))∧DIn K (upd H5 z.ev (.lst ((z.po++[z.pe]).map V.ref))) z own k' l':=by
 have ns:z.st≠z.ev:=fun e=>by
  have:=h.lst;rw [← e,h.dict] at this;cases this
 have e5:upd H5 z.ev (.lst ((z.po++[z.pe]).map V.ref)) z.st=some (.dK (stK z.a k' l' z.nm z.ev)):=by
  rw [qk ns];exact d5.dict
 have s:Stay z.st H (upd H5 z.ev (.lst ((z.po++[z.pe]).map V.ref))):=by
  refine ⟨⟨_,h.dict⟩,⟨_,e5⟩,fun b o nb hb=>?_⟩;have np:b≠p:=fun e=>by rw [e,hp] at hb;cases hb
  by_cases e:b=z.ev
  ·subst e;rw [upd_same,← hb,h.lst]
  ·rw [qk e];refine sy.rest nb np ?_;rw [qk e,qk np];exact hb
 exact ⟨s,h.stay s e5⟩
inductive spFnc (K:Frag) (n:Nat) (vs:List V) (H:Hp) (Q:VK) (E':XK):Prop
 | mk:∀ (z:Dw) (own:List Str) (k l deep:Int) (kd:Str),(vs=[.ref z.st,.int deep,.str kd])→((kd="fun"∨kd="loop"))→(DIn K H z own k l)→(z.po.length+1+n≤12)→(0≤k)→(Bud.PB n (deep - 1) (k+1) l)→(∀ H' x d (s t:Nat) k' l',Stay z.st H H'→DIn K H' z own k' l'→Rep K H' x d→Tre.Ft z.names d→(∀ hands,Tre.Pt d "term" hands (s+1) (t+1))→Bud.BB n (k+1) l s t k' l'→Tre.Sc (z.V++own) d→Q x H')→spFnc K n vs H Q E'
def Wu (K:Frag):TS:=zV (Ji (qf (qg 2) (qf (tCB (fun xs H Q=>∃ p ys,xs=[V.ref p]∧((SqL K H p ys∧∀ (l:Addr),H l=none→Q (V.ref l) (upd H l (HO.tup ys)))∨SqT K H p ys∧Q (V.ref p) H)) (qf (qg 5) qp)) (qf (qg 6) qp))))
def Wt (K:Frag):TS:=qB (zz (qfk K "list" qh3 (VD (qg 0) (tC (V.str "env"))))) (Wu K)
def Ws (K:Frag) (n:Nat):TS:=qB (qP (qG (spBdy K n) [] E0 (qf (qg 0) (qf (tOp (rI0 fun i j=>V.int (i - j)) (qg 1) (tC (V.int 1))) (qf (tOp rNe (qg 2) (tC (V.str "fun"))) qp)))) (qm 6)) (Wt K)
def Wr (K:Frag) (n:Nat):TS:=qB (zz (tBM K "list" zM (VD (qg 0) (tC (V.str "env"))) (qf (tCB (fun xs H_1 Q=>∃ p ys,xs=[V.ref p]∧(SqL K H_1 p ys∨SqT K H_1 p ys)∧∀ (l:Addr),H_1 l=none→Q (V.ref l) (upd H_1 l (HO.lst ys))) (qf (qg 5) qp)) qp))) (Ws K n)
def Wq (K:Frag) (n:Nat):TS:=qB (qP (tSl (qbf K) (qg 3) (yO (tOp (rI (fun x j=>0<j) fun i j=>V.int (i % j)) (qg 4) (tC (V.int 5)))) (yO (tOp jh (tOp (rI (fun x j=>0<j) fun i j=>V.int (i % j)) (qg 4) (tC (V.int 5))) (tOp (rI (fun x j=>0<j) fun i j=>V.int (i % j)) (tOp (rI qlx fun i j=>V.int (i / j)) (qg 4) (tC (V.int 5))) (tC (V.int 4)))))) (qm 5)) (Wr K n)
def Wp (K:Frag) (n:Nat):TS:=qB (qP (qG (spNext K) [] E0 (qf (qg 0) qp)) (qm 4)) (Wq K n)
theorem W3 (F:Fun K "_law_function" "_law_function" jS f fd) (c:Cs K mg ad) (n:Nat) (d_law_next:Def P w K mg base 2 "_law_next" ["_law_state"] (spNext K)) (d_law_body:Def P w K mg base (5*n+7) "_law_body" ["_law_state","_law_deep","_law_may_hand"] (spBdy K n)):FnOk P w K mg base CX0 (5*n+8) f fd ["_law_state","_law_deep","_law_kind"] (spFnc K n):=by
 refine F.ok (k:=5*n+7) je (fun vs H Q E h=>?_) (fun cdv A outer s H vs Q E hr h=>?_)
 ·obtain ⟨z,own,k,l,deep,kd,rfl,_⟩:=h;rfl
 obtain ⟨z,own,k,l,deep,kd,rfl,hkd,di,hl,hk0,pp,q⟩:=h;have hu:=Ve hr;refine ⟨_,(qd (pst 3 je.nd (zS hu (pv 0) qq (fun _ _=>rfl)))
   (qd (pst 4 je.nd (pdf d_law_next (qb (pv 0) qc)))
   (qd (pst 5 je.nd (JM (qbb (K:=K) rfl) (pv 3) (JY (qt zc (pv 4) qh)) (JY (qt zi (qt zc (pv 4) qh) (qt zc (qt zY (pv 4) qh) qh)))))
   (qd (qT (Jn (K:=K) rfl Ax Bu Bs zC (zS hu (pv 0) qq (fun _ _=>rfl)) (qb (qW j4 (by rfl) c.list_ vI (qb (pv 5) qc)) qc)))
   (qd (pst 6 je.nd (pdf d_law_body (qb (pv 0) (qb (qt zp (pv 1) qh) (qb (Jf XL (pv 2) qq (qz _)) qc)))))
   (qd (qT (qhj (K:=K) rfl Ax PySem.F.slot_list_pop PySem.F.type_list_pop qbp (zS hu (pv 0) qq (fun _ _=>rfl))))
   (qi (qw (qQ (qb (pv 2) (qb (qW (jL (K:=K) rfl) (by rfl) c.tuple_ zx (qb (pv 5) qc)) (qb (pv 6) qc)))))))))))),?_⟩
 show qB (qP (VD (qg 0) (tC (V.str "names"))) (qm 3)) (Wp K n) _ _ _;clear hu;refine ⟨_,rfl,z.st,_,rfl,di.gN,?_⟩;refine ⟨_,rfl,z.st,z.a,z.nm,z.ev,z.ns,k,l,rfl,di.dict,di.cells,hk0,(by have:=pp.2.2;omega),fun y H1 hz0 hz1 e1=>?_⟩
 have di1:DIn K H1 z own (k+1) l:=e1▸di.put;have sy1:Stay z.st H H1:=e1▸Stay.put di.dict;clear e1;obtain ⟨cut,ecut,hcut,hgood⟩:=qev di1.good (lo:=y % 5) (hi:=y % 5+y / 5 % 4) ⋯ ⋯;have hnd:cut.Nodup:=by
  simp only [Tre.areNames,Ae] at hcut;have e:=A3 hcut.2;rw [Bx,show (Tre.txt ∘ PyData.str)=id from rfl,Df] at e;exact e
 refine ⟨_,rfl,_,rfl,_,_,rfl,rfl,(show (0:Int)<5 from O0),_,rfl,_,rfl,_,_,rfl,rfl,(show (0:Int)<5 from O0),_,rfl,_,_,rfl,rfl,⟨O0,O0⟩,_,_,rfl,rfl,(show (0:Int)<4 from O0),.inl ⟨_,_,rfl,rfl,_,rfl,.inl ⟨z.nm,_,rfl,di1.nms,fun p2 hp2=>?_⟩⟩⟩;dsimp only;rw [ecut];have g2:=qe hp2 (.lst (cut.map V.str));have h2:upd H1 p2 (.lst (cut.map V.str)) p2=some (.lst (cut.map V.str)):=upd_same;have di2:=di1.same g2;have sy2:=sy1.then g2;generalize upd H1 p2 (.lst (cut.map V.str))=H2 at h2 di2 sy2 ⊢;refine ⟨_,rfl,z.st,_,rfl,di2.gE,.inl ⟨rfl,_,SqL.of di2.lst⟩,_,rfl,p2,_,rfl,.inl (SqL.of h2),fun p3 hp3=>⟨z.ev,_,_,rfl,rfl,qe hp3 _ _ _ di2.lst,qU (by rw [Ab,Ac,Av];omega),?_⟩⟩
 have di4:=di2.push hp3 hnd fun x hx=>(hgood x hx).2;have np:p2≠p3:=fun e=>by rw [← e,h2] at hp3;cases hp3
 have ne2:p2≠z.ev:=fun e=>by
  have l2:=di2.lst;rw [← e,h2] at l2;exact yD (fun _ _ e=>by cases e) _ _ _ (HO.lst.inj (Bg l2))
 have n2:p2≠z.st:=fun e=>by
  have l2:=di2.dict;rw [← e,h2] at l2;cases l2
 have h4:upd (upd H2 p3 (.lst (cut.map V.str))) z.ev (.lst ((z.po++[z.pe]).map V.ref++[.ref p3])) p2=some (.lst (cut.map V.str)):=by rw [qk ne2,qk np];exact h2
 refine ⟨_,rfl,_,rfl,_,_,rfl,rfl,_,rfl,rfl,?_⟩;refine qjv (z:=z.push p3 own) (may:=!decide (V.str kd=V.str "fun")) di4 (show (z.po++[z.pe]).length+n≤12 by rw [Ac];exact hl) pp fun H5 x5 ds s5 t5 k5 l5 m sy5 di5 r5 f5 bd5 b5 sb=>?_
 obtain ⟨sy6,di6⟩:=di2.pop hp3 sy5 di5;have h5:H5 p2=some (.lst (cut.map V.str)):=sy5.rest n2 np h4;have le5:H5 z.ev=some (.lst ((z.po++[z.pe]++[p3]).map V.ref)):=di5.lst;refine ⟨_,rfl,z.st,_,rfl,di5.gE,.inl ⟨rfl,_,SqL.of le5⟩,z.ev,_,.ref p3,rfl,rfl,le5,?_,?_⟩
 ·rw [Ah,Ac,Bl (by simp)]
  simp
 have ed:((z.po++[z.pe]++[p3]).map V.ref).dropLast=(z.po++[z.pe]).map V.ref:=by rw [Ah (l₁:=z.po++[z.pe])];exact List.dropLast_concat
 rw [ed];have h6:upd H5 z.ev (.lst ((z.po++[z.pe]).map V.ref)) p2=some (.lst (cut.map V.str)):=by rw [qk ne2];exact h5
 have r6:=Rep.put (o':= .lst ((z.po++[z.pe]).map V.ref)) le5 r5 (by rw [Tre.noL];exact vC bd5.all)
 generalize upd H5 z.ev (.lst ((z.po++[z.pe]).map V.ref))=H6 at sy6 di6 h6 r6 ⊢;refine ⟨_,rfl,_,rfl,p2,_,rfl,.inl ⟨SqL.of h6,fun p7 hp7=>⟨_,rfl,(O0:3≤sizeLine),fun p8 hp8=>?_⟩⟩⟩;have g7:=qe hp7 (.tup (cut.map V.str));have g8:=qe hp8 (.tup [.str kd,.ref p7,x5]);have g78:=g7.trans g8;have fcut:Tre.Fts z.names (cut.map PyData.str):= .of fun d hd=>by
  obtain ⟨x,hx,rfl⟩:=Bt.mp hd;exact .name (hgood x hx).1 (A7 _ (hgood x hx).2)
 refine q _ _ (.tuple [.str kd,.tuple (cut.map PyData.str),.tuple ds]) s5 t5 k5 l5 ((sy2.trans sy6).then g78) (di6.same g78) (.tup (SqT.of upd_same) (.cons (.str _) (.cons (.tup (g8.sqT (SqT.of upd_same)) (Reps.strs cut)) (.cons (r6.same g78) .nil)))) ?_ (fun hands=>?_) b5 ?_
 ·exact Tre.Fts.tup (.cons (.word (by rcases hkd with rfl | rfl <;> decide+kernel)) (.cons fcut.tup (.cons f5.tup .nil)))
 ·rcases hkd with rfl | rfl
  ·exact Tre.qke hcut bd5
  ·exact Tre.qia hcut bd5
 ·refine Tre.ql5 hkd (own:=cut++m) (List.Perm.append_left _ sb.br) di5.nd fun e he=>(sb.sc e he).mono fun x hx=>?_;rw [show (z.push p3 own).V=z.V++own by unfold Dw.V;rw [show (z.push p3 own).oo=z.oo++[own] from rfl,Eo];simp] at hx
  exact hx
theorem wp {s r:TS} {D:Ends} {σ:St} {H:Hp} (M:St→Hp→Prop) (h1:∀ R:St→Hp→Prop,(∀ σ' H',M σ' H'→R σ' H')→s {D with nx:=R} σ H) (h2:∀ σ' H',M σ' H'→r D σ' H'):qB s r D σ H:=h1 _ h2
theorem qcr {kd:Int} (h:¬ (kd=1∨kd=8∨kd=9)):inV (.int kd) [.int 1,.int 8,.int 9]=false:=by
 have e:∀ a:Int,¬ kd=a→eqV (.int a) (.int kd)=false:=fun a n=>Bk.mpr fun z=>n z.symm;have n1:¬ kd=1:=fun z=>h (.inl z);have n8:¬ kd=8:=fun z=>h (.inr (.inl z));have n9:¬ kd=9:=fun z=>h (.inr (.inr z));show (eqV (.int 1) (.int kd)||(eqV (.int 8) (.int kd)||(eqV (.int 9) (.int kd)||false)))=false;rw [e 1 n1,e 8 n8,e 9 n9];rfl
theorem qhs {i:Int} (h0:0≤i) (h1:i<5):∃ c,atI (Str.ofString "+-*<=").cps.toList i=some c∧(Tre.VF.any fun y=>y==(⟨#[c]⟩:Str))=true∧(Tre.va.contains (⟨#[c]⟩:Str)&&decide ((⟨#[c]⟩:Str).length≤1000000))=true:=by
 have e:(Str.ofString "+-*<=").cps.toList=[43,45,42,60,61]:=∅;rw [e];have h:i=0∨i=1∨i=2∨i=3∨i=4:=⋯;rcases h with rfl | rfl | rfl | rfl | rfl
 ·exact ⟨43,rfl,∅,∅⟩
 ·exact ⟨45,rfl,∅,∅⟩
 ·exact ⟨42,rfl,∅,∅⟩
 ·exact ⟨60,rfl,∅,∅⟩
 ·exact ⟨61,rfl,∅,∅⟩
theorem qiv {i:Nat} {m kd:Int} {A B:TS} {D:Ends} {σ:St} {H:Hp} (h:σ[i]?=some (some (.int kd))) (hA:kd=m→A D σ H) (hB:¬ kd=m→B D σ H):zJ (qJ (tOp rEq (qg i) (tC (V.int m)))) A B D σ H:=by
 refine ⟨_,h,rfl,_,rfl,?_⟩
 by_cases e:kd=m
 ·exact qX (show decide _=true from Al (congrArg V.int e)) (hA e)
 ·exact qO (show decide _=false from As fun z=>e (V.int.inj z)) (hB e)
theorem qiu {i:Nat} {m kd:Int} {A B:TS} {D:Ends} {σ:St} {H:Hp} (h:σ[i]?=some (some (.int kd))) (hA:kd<m→A D σ H) (hB:¬ kd<m→B D σ H):zJ (qJ (tOp (rI0 fun i j=>V.bl (decide (i<j))) (qg i) (tC (V.int m)))) A B D σ H:=by
 refine ⟨_,h,_,_,rfl,rfl,_,rfl,?_⟩
 by_cases e:kd<m
 ·exact qX (show decide _=true from Al e) (hA e)
 ·exact qO (show decide _=false from As e) (hB e)
inductive Iv_TreT8_0 (K:W.Frag) (H:Hp) (z:Dw) (own:List Str) (k:Int) (l:Int) (n':Nat) (x1:V) (d1:PyData) (s1:Nat) (i:Nat) (ys:List V) (H':Hp):Prop
 | mk:∀ (ds:List PyData) (k' l':Int) (s t:Nat),(Stay z.st H H')→(DIn K H' z own k' l')→(Reps K H' ys ds)→(Rep K H' x1 d1)→(ds.length=i)→(Tre.Fts z.names ds)→((∀ hands,Tre.Ptl (ds.map fun x=>(x,("term":Str))) hands s t))→(Bud.CI n' k l s1 i s t k' l')→(∀ d∈ds,Tre.Sc (z.V++own) d)→Iv_TreT8_0 K H z own k l n' x1 d1 s1 i ys H'
theorem WO (F:Fun K "_law_term" "_law_term" JJ f fd) (c:Cs K mg ad) (n:Nat) (T B:Sp) (hT:0<n→T=spTrm K (n - 1)) (hB:0<n→B=spFnc K (n - 1)) (d_law_next:Def P w K mg base 2 "_law_next" ["_law_state"] (spNext K)) (d_law_visible:Def P w K mg base 1 "_law_visible" ["_law_state"] (spVis K)) (d_law_number:Def P w K mg base 1 "_law_number" ["_law_more"] spNumber)
  (d_law_term:Def P w K mg base (5*n+3) "_law_term" ["_law_state","_law_deep"] T) (d_law_function:Def P w K mg base (5*n+3) "_law_function" ["_law_state","_law_deep","_law_kind"] B):FnOk P w K mg base CX0 (5*n+4) f fd ["_law_state","_law_deep"] (spTrm K n):=by
 refine F.ok (k:=5*n+3) jm (fun vs H Q E h=>?_) (fun cdv A outer s H vs Q E hr h=>?_)
 ·obtain ⟨z,own,k,l,deep,rfl,_⟩:=h;rfl
 obtain ⟨z,own,k,l,deep,rfl,di,hl,pp,q⟩:=h;have hu:=Ve hr;have hu64:=hr.units;refine ⟨_,(qd (pst 2 jm.nd (pdf d_law_next (qb (pv 0) qc)))
   (qd (JX hu (pv 0) qq (qt zp (zS hu (pv 0) qq (fun _ _=>rfl)) qh) rfl)
   (qd (pst 3 jm.nd (qt zc (pv 2) qh))
   (qd (pst 4 jm.nd (qt zY (pv 2) qh))
   (qd (pst 5 jm.nd (pdf d_law_visible (qb (pv 0) qc)))
   (qd (qK (PW.pt (JW (qr VM (pv 1) qh (qz _)) (Jq (qr VM (zS hu (pv 0) qq (fun _ _=>rfl)) qh (qz _))))) (qi (pst 3 jm.nd (qt zc (pv 3) qh))) qy)
   (qd (qK (PW.pt (JW (qr zN (pv 3) qh (qz _)) (Jq (PW.pt (J8 (qr (Yh (K:=K) rfl) (pv 3) (qQ (qb qh (qb qh (qb qh qc)))) rfl) (JA (qr (ZN (K:=K) rfl (Cf (Nat.le_add_right _ _) hu64)) (pv 5) (zg qc) (qz _)))))))) (qi (qw (qQ (qb qq (qb (pdf d_law_number (qb (pv 4) qc)) qc))))) qy)
   (qd (qK (qr (Yh (K:=K) rfl) (pv 3) (qQ (qb qh (qb qh (qb qh qc)))) rfl) (qi (qw (qQ (qb qq (qb (pix K (pv 5) (qt zc (pv 4) (qx (jY (K:=K) rfl) (by rfl) c.len_ z9 (qb (pv 5) qc)))) qc))))) qy)
   (qd (qK (qr VM (pv 3) qh (qz _)) (qi (qw (qQ (qb qq (qb (pix K qq (qt zc (pv 4) qh)) (qb (pdf d_law_term (qb (pv 0) (qb (qt zp (pv 1) qh) qc))) (qb (pdf d_law_term (qb (pv 0) (qb (qt zp (pv 1) qh) qc))) qc))))))) qy)
   (qd (qK (qr VM (pv 3) qh (qz _)) (qi (qw (pdf d_law_function (qb (pv 0) (qb (pv 1) (qb (pix K (zg (qb qq (qb qq qc))) (qt zp (pv 3) qh)) qc)))))) qy)
   (qd (qK (qr zN (pv 3) qh (qz _)) (qd (pst 6 jm.nd (pdf d_law_term (qb (pv 0) (qb (qt zp (pv 1) qh) qc))))
   (qi (qw (qQ (qb qq (qb (pv 6) (qb (qW (jL (K:=K) rfl) (by rfl) c.tuple_ zx (qb (zX (sc:=ql JJ) (NX:=["_law_state","_law_deep","_law_number_here","_law_kind","_law_more","_law_seen","_law_maker"]) (N:=["_law_turn","_law_state","_law_deep"]) (js:=[none,some 0,some 1]) (jG rfl c.range_ (qb (qt zc (pv 4) qh) qc)) (fun _ _ _ _ _=>(zh (i:=0) (show (["_law_turn","_law_state","_law_deep"]:List Str).Nodup from ∅) rfl (Or.inl rfl))) (fun _ _ _ _ _=>jp) (fun _ _ _ _ _=>(pdf d_law_term (qb (pv 1) (qb (qt zp (pv 2) qh) qc)))) (zA rfl) ⟨∅,rfl,∅,∅,rfl,∅⟩) qc)) qc))))))) qy)
   (qi (qw (qQ (qb qq (qb (pdf d_law_term (qb (pv 0) (qb (qt zp (pv 1) qh) qc))) (qb (pdf d_law_term (qb (pv 0) (qb (qt zp (pv 1) qh) qc))) qc))))))))))))))))),?_⟩
 clear hu hu64;refine ⟨_,rfl,z.st,z.a,z.nm,z.ev,z.ns,k,l,rfl,di.dict,di.cells,pp.2.1,(by have:=pp.2.2;omega),fun y H1 hz0 hz1 e1=>?_⟩
 have di1:DIn K H1 z own (k+1) l:=e1▸di.put;have sy1:Stay z.st H H1:=e1▸Stay.put di.dict;clear e1;refine ⟨_,rfl,_,_,rfl,di1.gL,_,_,rfl,rfl,?_⟩;refine ⟨_,rfl,z.st,upd H1 z.st (.dK (stK z.a (k+1) (l - 1) z.nm z.ev)),rfl,(by rw [← yQ z.a (k+1) l z.nm z.ev (l - 1)];exact yA.k (k:=Sum.inr "left") di1.dict (Cf (show 5≤1000 from O0) O0)),?_⟩
 have di2:DIn K (upd H1 z.st (.dK (stK z.a (k+1) (l - 1) z.nm z.ev))) z own (k+1) (l - 1):=di1.put;have sy2:Stay z.st H (upd H1 z.st (.dK (stK z.a (k+1) (l - 1) z.nm z.ev))):=sy1.trans (Stay.put di1.dict);generalize upd H1 z.st (.dK (stK z.a (k+1) (l - 1) z.nm z.ev))=H2 at di2 sy2 ⊢;refine ⟨_,rfl,_,_,rfl,rfl,(show (0:Int)<10 from O0),_,rfl,_,_,rfl,rfl,⟨O0,O0⟩,?_⟩;have m0:0≤y / 10:=⋯;have m1:y / 10<268435456:=⋯;refine ⟨_,rfl,z,own,_,_,rfl,di2,⋯,fun H3 ps seen g3 hs3 sn=>?_⟩;have di3:=di2.same g3;have sy3:=sy2.then g3;have kz0:=Bj y (show (10:Int)≠0 from O0);have kz1:=Bc y (show (0:Int)<10 from O0);have km0:=Bj (y % 10) (show (2:Int)≠0 from O0);have km1:=Bc (y % 10) (show (0:Int)<2 from O0);dsimp only [qm];generalize y / 10=mo at m0 m1 ⊢;refine wp (s:=zJ _ _ _) (fun σ' H'=>∃ kd:Int,σ'=[some (.ref z.st),some (.int deep),some (.int y),some (.int kd),some (.int mo),some (.ref ps),none]∧H3=H'∧0≤kd∧kd<10∧(deep<1∨l - 1<0→kd<2)) (fun R hR=>?_) ?_
 ·refine ⟨_,rfl,_,_,rfl,rfl,_,rfl,?_⟩;refine Vd (fun c1=>vF ⟨_,rfl,_,_,rfl,rfl,(show (0:Int)<2 from O0),hR _ _ ⟨y % 10 % 2,rfl,rfl,km0,⋯,fun _=>km1⟩⟩) (fun c1=>⟨_,rfl,z.st,_,rfl,di3.gL,_,_,rfl,rfl,_,rfl,Vd (fun c2=>⟨_,rfl,_,_,rfl,rfl,(show (0:Int)<2 from O0),hR _ _ ⟨y % 10 % 2,rfl,rfl,km0,⋯,fun _=>km1⟩⟩) (fun c2=>?_)⟩);have c1':¬ deep<1:=by simpa using c1
  have c2':¬ l - 1<0:=by simpa using c2
  exact hR _ _ ⟨y % 10,rfl,rfl,kz0,kz1,fun h=>⋯⟩
 clear kz0 kz1 km0 km1 hz0 hz1 di1 sy1 di2 sy2 g3;rintro σ' H' ⟨kd,rfl,e',kd0,kd1,kd2⟩;subst e';have fin1:∀ (H':Hp) (x:V) (d:PyData),qv H3 H'→Rep K H' x d→Tre.Ft z.names d→(∀ hands,Tre.Pt d "term" hands 1 1)→Tre.Sc (z.V++own) d→Q x H':=fun H' x d g r ff pt sc=>
  q H' x d 1 1 (k+1) (l - 1) (sy3.then g) (di3.same g) r ff pt .one sc
 by_cases e0:kd=0
 ·refine ⟨_,rfl,rfl,_,rfl,qX (show decide _=true from Al (congrArg V.int e0)) (vF ?_)⟩;refine ⟨_,rfl,_,rfl,m0,m1,fun i H4 hi g=>⟨(O0:2≤sizeLine),fun p hp=>?_⟩⟩;exact fin1 _ _ (.tuple [.str "number",.int i]) (g.trans (qe hp _)) (.tup (SqT.of upd_same) (.cons (.str _) (.cons (.int _) .nil))) (Tre.Fts.tup (.cons (.word ∅) (.cons (.int _) .nil))) (fun hands=>Tre.XJ hi) (Tre.XH _)
 refine ⟨_,rfl,rfl,_,rfl,qO (show decide _=false from As fun z=>e0 (V.int.inj z)) ?_⟩;refine ⟨_,rfl,(O0:3≤sizeLine),fun p1 hp1=>⟨p1,_,rfl,.inr (SqT.of upd_same),rfl,rfl,_,rfl,?_⟩⟩;have gp1:=qe hp1 (.tup [.int 1,.int 8,.int 9]);generalize upd H3 p1 (.tup [.int 1,.int 8,.int 9])=H4 at gp1 ⊢;have hs4:=gp1 _ _ hs3
 by_cases e1:kd=1∨kd=8∨kd=9
 ·refine qX (show inV _ _=true by rcases e1 with rfl | rfl | rfl <;> decide+kernel) ?_
  refine ⟨_,rfl,(O0:0≤sizeLine),fun p2 hp2=>⟨ps,p2,_,rfl,rfl,SqL.of (qe hp2 _ _ _ hs4),SqL.of upd_same,_,rfl,?_⟩⟩;have gp2:=qe hp2 (.lst []);generalize upd H4 p2 (.lst [])=H5 at gp2 ⊢;have g35:=gp1.trans gp2;cases seen with
  | nil=>
   refine qX rfl ?_;refine ⟨_,rfl,_,rfl,m0,m1,fun i H6 hi g=>⟨(O0:2≤sizeLine),fun p hp=>?_⟩⟩;exact fin1 _ _ (.tuple [.str "number",.int i]) ((g35.trans g).trans (qe hp _)) (.tup (SqT.of upd_same) (.cons (.str _) (.cons (.int _) .nil))) (Tre.Fts.tup (.cons (.word ∅) (.cons (.int _) .nil))) (fun hands=>Tre.XJ hi) (Tre.XH _)
  | cons x0 r0=>
   refine qO rfl ?_;refine ⟨_,rfl,(O0:3≤sizeLine),fun p3 hp3=>⟨p3,_,rfl,.inr (SqT.of upd_same),rfl,rfl,_,rfl,qX (show inV _ _=true by rcases e1 with rfl | rfl | rfl <;> decide+kernel) ?_⟩⟩
   have gp3:=qe hp3 (.tup [.int 1,.int 8,.int 9]);generalize upd H5 p3 (.tup [.int 1,.int 8,.int 9])=H6 at gp3 ⊢;have hs6:=gp3 _ _ (gp2 _ _ hs4);have eos:(z.os own).flatten=z.V++own:=by unfold Dw.os Dw.V;rw [Eo];simp
   obtain ⟨v,hv,x,rfl,hx,hxs,hxn⟩:=vJ (xs:=(x0::r0).map V.str) (i:=mo % ((((x0::r0).map V.str).length:Nat):Int)) (p:=fun v=>∃ x,v= .str x∧Tre.zn x=true∧x∈z.V++own∧x∈z.names) (fun v hv=>by
    obtain ⟨x,hx,rfl⟩:=Bt.mp hv;have a:=sn.all x hx;rw [eos] at a;exact ⟨x,rfl,di3.good.good x a.2,a⟩) (Bj _ (by rw [Ab,Ak];omega)) (Bc _ (by rw [Ab,Ak];omega))
   refine ⟨_,rfl,_,rfl,_,rfl,_,_,rfl,.inl ⟨_,SqL.of hs6,rfl⟩,_,_,rfl,rfl,(by rw [Ab,Ak];omega),.inl ⟨_,_,_,_,rfl,rfl,SqL.of hs6,hv,(O0:2≤sizeLine),fun p hp=>?_⟩⟩
   exact fin1 _ _ (.tuple [.str "name",.str x]) ((g35.trans gp3).trans (qe hp _)) (.tup (SqT.of upd_same) (.cons (.str _) (.cons (.str _) .nil))) (Tre.Fts.tup (.cons (.word ∅) (.cons (.name hx (A7 _ hxn)) .nil))) (fun hands=>Tre.qh8 hx) (Tre.qhz hxs)
 refine qO (show inV _ _=false from qcr e1) ?_;refine ⟨_,rfl,(O0:3≤sizeLine),fun p3 hp3=>⟨p3,_,rfl,.inr (SqT.of upd_same),rfl,rfl,_,rfl,qO (show inV _ _=false from qcr e1) ?_⟩⟩;have gp3:=gp1.trans (qe hp3 (.tup [.int 1,.int 8,.int 9]));generalize upd H4 p3 (.tup [.int 1,.int 8,.int 9])=H5 at gp3 ⊢;have di5:=di3.same gp3;have sy5:=sy3.then gp3;have hn1:0<n:=by have:=pp.1;omega
 have hl1:0≤l - 1:=⋯;have hd1:1≤deep:=⋯;clear e0 e1 m0 m1 fin1 sn hs3 hs4 gp1 gp3 di3 sy3;obtain ⟨n',rfl⟩:∃ n',n=n'+1:=⟨n - 1,⋯⟩;have eT:T=spTrm K n':=hT hn1;have eB:B=spFnc K n':=hB hn1;have hS:=pp.many hl1 hd1;have hk0:=pp.2.1;have hl':z.po.length+n'≤12:=⋯;clear hT hB hn1 pp hl1 hd1 d_law_next d_law_visible d_law_number d_law_term d_law_function;subst eT;subst eB;refine qiu rfl (fun e4=>?_) (fun e4=>?_)
 ·skip
  obtain ⟨ch,hch,hsg,hsw⟩:=qhs (i:=mo % 5) (Bj _ O0) (Bc _ O0);refine ⟨_,rfl,_,_,rfl,rfl,(show (0:Int)<5 from O0),.inr (.inr ⟨_,_,_,rfl,rfl,∅,hch,?_⟩)⟩;refine jC rfl rfl di5 hl' hS.pt fun H6 x1 d1 s1 t1 k1 l1 sy6 di6 r1 f1 p1 b1 c1=>?_;refine jC rfl rfl di6 hl' (hS.pt1 b1) fun H7 x2 d2 s2 t2 k2 l2 sy7 di7 r2 f2 p2 b2 c2=>⟨(O0:4≤sizeLine),fun p hp=>?_⟩;have g:=qe hp (.tup [.str "two",.str ⟨#[ch]⟩,x1,x2]);refine q _ _ (.tuple [.str "two",.str ⟨#[ch]⟩,d1,d2]) (s1+s2+1) (max t1 t2+1) k2 l2 (((sy5.trans sy6).trans sy7).then g) (di7.same g) (.tup (SqT.of upd_same) (.cons (.str _) (.cons (.str _) (.cons ((r1.stay sy7).same g) (.cons (r2.same g) .nil))))) ?_ (fun hands=>Tre.qkb hsg (p1 hands) (p2 hands)) (hS.two b1 b2) (Tre.qj6 c1 c2);exact Tre.Fts.tup (.cons (.word ∅) (.cons (.word hsw) (.cons f1 (.cons f2 .nil))))
 refine qiu rfl (fun e6=>?_) (fun e6=>?_)
 ·skip
  obtain ⟨hh,hat,hwd⟩:∃ hh:Str,atI [V.str "fun",V.str "loop"] (kd - 4)=some (.str hh)∧(hh="fun"∨hh="loop"):=by
   have h45:kd=4∨kd=5:=⋯;rcases h45 with rfl | rfl
   ·exact ⟨"fun",qo (j:=0) rfl,.inl rfl⟩
   ·exact ⟨"loop",qo (j:=1) rfl,.inr rfl⟩
  refine ⟨_,rfl,_,rfl,(O0:2≤sizeLine),fun p4 hp4=>?_⟩;have g4:=qe hp4 (.lst [.str "fun",.str "loop"]);refine ⟨_,rfl,_,_,rfl,rfl,.inl ⟨p4,_,_,_,rfl,rfl,SqL.of upd_same,hat,?_⟩⟩;exact ⟨z,own,k+1,l - 1,deep,hh,rfl,hwd,di5.same g4,⋯,⋯,hS.pbf,fun H' x d s t k' l' sy di' r ff pt b sc=>q H' x d (s+1) (t+1) k' l' ((sy5.then g4).trans sy) di' r ff pt (hS.fnf b) sc⟩
 refine qiv rfl (fun e7=>?_) (fun e7=>?_)
 ·skip
  refine jC rfl rfl di5 hl' hS.pt fun H6 x1 d1 s1 t1 k1 l1 sy6 di6 r1 f1 p1 b1 c1=>?_;have mo0:=Bj mo (show (4:Int)≠0 from O0);have mo1:=Bc mo (show (0:Int)<4 from O0);refine ⟨_,rfl,_,rfl,_,_,rfl,rfl,(show (0:Int)<4 from O0),_,rfl,⋯,⋯,?_⟩;generalize hcn:(mo % 4).toNat=cnt;have hc4:cnt≤4:=⋯;refine zD cnt (Iv_TreT8_0 K H z own k l n' x1 d1 s1) ?_ (fun i ys H' h=>?_) (A0 hc4 O0) (fun i ys H' hi h=>?_) (fun ys H' h=>?_)
  ·exact ⟨[],k1,l1,0,0,sy5.trans sy6,di6,.nil,r1,rfl,.nil,fun _=> .nil,.nil hS b1,fun d hd=>by cases hd⟩
  ·obtain ⟨ds,k',l',s,t,_,_,rs,_,hl,_⟩:=h;have:=rs.length;omega
  ·obtain ⟨ds,k',l',s,t,sy,di7,rs,r1',hln,hf,pt,ci,sc⟩:=h;refine ⟨hi,fun v H7 yl=>?_⟩;obtain ⟨rfl,rfl⟩:=yl;refine jC rfl rfl di7 hl' (ci.pre hS ⋯) fun H8 x d s2 t2 k2 l2 sy8 di8 rx fx px b2 c2=>?_;refine ⟨ds++[d],k2,l2,s+s2,max t t2,sy.trans sy8,di8,(rs.stay sy8).append (.cons rx .nil),r1'.stay sy8,by rw [Ac,hln];rfl,hf.snoc fx,fun hands=>?_,ci.snoc b2,fun e he=>?_⟩
   ·rw [Ah];exact (pt hands).append (Tre.jW (px hands))
   ·rcases Az.mp he with he | he
    ·exact sc e he
    ·cases Am.mp he;exact c2
  ·obtain ⟨ds,k',l',s,t,sy,di7,rs,r1',hln,hf,pt,ci,sc⟩:=h;refine ⟨Ag _,fun D hD=>?_⟩;refine ⟨D,ys,rfl,.inl ⟨SqL.of upd_same,fun p2 hp2=>⟨(O0:3≤sizeLine),fun p3 hp3=>?_⟩⟩⟩;have ga:=(qe hD (.lst ys)).trans (qe hp2 (.tup ys));have gb:=qe hp3 (.tup [.str "call",x1,.ref p2]);have g:=ga.trans gb;refine q _ _ (.tuple [.str "call",d1,.tuple ds]) (s1+s+1) (max t1 t+1) k' l' (sy.then g) (di7.same g) (.tup (SqT.of upd_same) (.cons (.str _) (.cons (r1'.same g) (.cons (.tup (gb.sqT (SqT.of upd_same)) (rs.same g)) .nil)))) ?_ (fun hands=>Tre.qib (p1 hands) ⋯ (pt hands)) (ci.out hS b1 hc4) (Tre.qh0 c1 sc);exact Tre.Fts.tup (.cons (.word ∅) (.cons f1 (.cons hf.tup .nil)))
 refine jC rfl rfl di5 hl' hS.pt fun H6 x1 d1 s1 t1 k1 l1 sy6 di6 r1 f1 p1 b1 c1=>?_;refine jC rfl rfl di6 hl' (hS.pt1 b1) fun H7 x2 d2 s2 t2 k2 l2 sy7 di7 r2 f2 p2 b2 c2=>⟨(O0:3≤sizeLine),fun p hp=>?_⟩;have g:=qe hp (.tup [.str "step",x1,x2]);refine q _ _ (.tuple [.str "step",d1,d2]) (s1+s2+1) (max t1 t2+1) k2 l2 (((sy5.trans sy6).trans sy7).then g) (di7.same g) (.tup (SqT.of upd_same) (.cons (.str _) (.cons ((r1.stay sy7).same g) (.cons (r2.same g) .nil)))) ?_ (fun hands=>Tre.qh7 (p1 hands) (p2 hands)) (hS.two b1 b2) (Tre.qf0 c1 c2);exact Tre.Fts.tup (.cons (.word ∅) (.cons f1 (.cons f2 .nil)))
theorem qmu {c:Bool} {A B:Prop} (hA:c=true→B→A) (hB:B):if c=true then A else B:=by
 cases c with
 | true=>exact qX rfl (hA rfl hB)
 | false=>exact qO rfl hB
theorem ql3 {v:V} {i:Nat} {r:TS} {D:Ends} {σ:St} {H:Hp} (h:r D (σ.set i (some v)) H):qB (qP (tC v) (qm i)) r D σ H:=h
theorem Dw.flat (z:Dw) (own:List Str):(z.os own).flatten=z.V++own:=by
 unfold Dw.os Dw.V;rw [Eo];simp
inductive spBri (K:Frag) (m:Nat) (vs:List V) (H:Hp) (Q:VK) (E':XK):Prop
 | mk:∀ (z:Dw) (own:List Str) (k l deep more:Int),(vs=[.ref z.st,.int deep,.int more])→(DIn K H z own k l)→(z.po.length+m≤12)→(Bud.PT m (deep - 1) k l)→(∀ H' x d (s t:Nat) k' l' m',St2 z.st z.pe H H'→DIn K H' z (own++m') k' l'→Rep K H' x d→Tre.Ft z.names d→(∀ may,Tre.Pt d "statement" may (s+1) (t+1))→Bud.BT m (deep - 1) k l s t k' l'→Tre.Sm (z.V++(own++m')) d m'→Q x H')→spBri K m vs H Q E'
theorem VN (F:Fun K "_law_brings" "_law_brings" Jx f fd) (c:Cs K mg ad) (m lv:Nat) (hlv:1≤lv) (d_law_term:Def P w K mg base lv "_law_term" ["_law_state","_law_deep"] (spTrm K m)) (d_law_visible:Def P w K mg base 1 "_law_visible" ["_law_state"] (spVis K)) (d_law_new_name:Def P w K mg base 1 "_law_new_name" ["_law_state","_law_more"] (spNew K)):FnOk P w K mg base CX0 (lv+1) f fd ["_law_state","_law_deep","_law_more"] (spBri K m):=by
 refine F.ok (k:=lv) jv (fun vs H Q E h=>?_) (fun cdv A outer s H vs Q E hr h=>?_)
 ·obtain ⟨z,own,k,l,deep,more,rfl,_⟩:=h;rfl
 obtain ⟨z,own,k,l,deep,more,rfl,di,hl,pp,q⟩:=h;have hu64:=hr.units;refine ⟨_,(qd (pst 3 jv.nd (pdf d_law_term (qb (pv 0) (qb (qt zp (pv 1) qh) qc))))
   (qd (pst 4 jv.nd (pdf d_law_visible (qb (pv 0) qc)))
   (qd (pst 5 jv.nd JN)
   (qd (qK (PW.pt (JW (qr QB (qt zc (pv 2) qh) qh (qz _)) (Jq (qr (ZN (K:=K) rfl (Cf (Nat.le_add_right _ _) hu64)) (pv 4) (zg qc) (qz _))))) (qi (pst 5 jv.nd (pdf d_law_new_name (qb (pv 0) (qb (qt zY (pv 2) qh) qc))))) qy)
   (qd (qK (qr Zr (pv 5) JN (qz _)) (qi (qw (qQ (qb qq (qb (pv 5) (qb (pv 3) qc)))))) qy)
   (qi (qw (qQ (qb qq (qb (pix K (pv 4) (qt zc (qt zY (pv 2) qh) (qx (jY (K:=K) rfl) (by rfl) c.len_ z9 (qb (pv 4) qc)))) (qb (pv 3) qc))))))))))),?_⟩
 clear hu64;refine jC rfl rfl di hl pp fun H1 x1 d1 s1 t1 k1 l1 sy1 di1 r1 f1 p1 b1 c1=>?_;refine ⟨_,rfl,z,own,_,_,rfl,di1,⋯,fun H2 ps seen g2 hs2 sn=>?_⟩;have di2:=di1.same g2;have sy2:=sy1.then g2;have r2:=r1.same g2;have nl:=ZB (p1 true);have s2:St2 z.st z.pe H H2:= .of sy2 di.here;dsimp only [qm];refine ql3 ?_;refine wp (s:=zJ _ _ _) (fun σ' H'=>∃ o:V,σ'=[some (.ref z.st),some (.int deep),some (.int more),some x1,some (.ref ps),some o]∧((o= .non∧qv H2 H'∧seen≠[])∨(∃ x,o= .str x∧St2 z.st z.pe H2 H'∧DIn K H' z (own++[x]) k1 l1∧x∈z.names))) (fun R hR=>?_) ?_
 ·have ask:∀ H3,qv H2 H3→spNew K [.ref z.st,.int (more / 3)] H3 (fun v H'=>R [some (.ref z.st),some (.int deep),some (.int more),some x1,some (.ref ps),some v] H') E0:=fun H3 g3=>by
   refine ⟨z,own,k1,l1,_,rfl,di2.same g3,fun H4 g4 all=>hR _ _ ⟨_,rfl,.inl ⟨rfl,g3.trans g4,fun e=>?_⟩⟩,fun H4 x s4 d4 hx=>hR _ _ ⟨_,rfl,.inr ⟨x,rfl,(St2.of (Stay.of di2.dict g3) di2.here).trans s4,d4,hx⟩⟩⟩;have e2:=sn.some e;rw [z.flat,Dq] at e2;have e8:=di2.good.len;cases en:z.names with
   | nil=>rw [en] at e8;cases e8
   | cons y r=>
    have:=all y (by rw [en];exact A5)
    rw [e2.2] at this;cases this
  refine ⟨_,rfl,_,_,rfl,rfl,(show (0:Int)<3 from O0),_,_,rfl,rfl,_,rfl,?_⟩;refine Vd (fun c1=>vF ⟨_,rfl,_,rfl,_,_,rfl,rfl,⟨O0,O0⟩,ask _ (qv.refl _)⟩) (fun c1=>?_);refine ⟨_,rfl,(O0:0≤sizeLine),fun p2 hp2=>⟨ps,p2,_,rfl,rfl,SqL.of (qe hp2 _ _ _ hs2),SqL.of upd_same,_,rfl,?_⟩⟩;have g3:=qe hp2 (.lst []);cases seen with
  | nil=>exact qX rfl ⟨_,rfl,_,rfl,_,_,rfl,rfl,⟨O0,O0⟩,ask _ g3⟩
  | cons y r=>exact qO rfl (hR _ _ ⟨_,rfl,.inl ⟨rfl,g3,fun e=>by cases e⟩⟩)
 rintro σ' H3 ⟨o,rfl,⟨rfl,g3,ne⟩ | ⟨x,rfl,s3,di3,hx⟩⟩
 ·have di3:=di2.same g3;have hs3:=g3 _ _ hs2;refine ⟨_,rfl,rfl,_,rfl,qO rfl ?_⟩;cases seen with
  | nil=>exact absurd rfl ne
  | cons x0 r0=>
   obtain ⟨v,hv,x,rfl,hx,hxs,hxn⟩:=vJ (xs:=(x0::r0).map V.str) (i:=more / 3 % ((((x0::r0).map V.str).length:Nat):Int)) (p:=fun v=>∃ x,v= .str x∧Tre.zn x=true∧x∈z.V++own∧x∈z.names) (fun v hv=>by
    obtain ⟨x,hx,rfl⟩:=Bt.mp hv;have a:=sn.all x hx;rw [z.flat] at a;exact ⟨x,rfl,di3.good.good x a.2,a⟩) (Bj _ (by rw [Ab,Ak];omega)) (Bc _ (by rw [Ab,Ak];omega))
   refine ⟨_,rfl,_,rfl,_,_,rfl,rfl,⟨O0,O0⟩,_,rfl,_,_,rfl,.inl ⟨_,SqL.of hs3,rfl⟩,_,_,rfl,rfl,(by rw [Ab,Ak];omega),.inl ⟨_,_,_,_,rfl,rfl,SqL.of hs3,hv,_,rfl,(O0:3≤sizeLine),fun p hp=>?_⟩⟩
   have g:=g3.trans (qe hp (.tup [.str "set",.str x,x1]));refine q _ _ (.tuple [.str "set",.str x,d1]) s1 t1 k1 l1 [] (s2.then g) (by rw [An];exact di2.same g) (.tup (SqT.of upd_same) (.cons (.str _) (.cons (.str _) (.cons (r2.same g) .nil)))) (Tre.Fts.tup (.cons (.word ∅) (.cons (.name hx (A7 _ hxn)) (.cons f1 .nil)))) (fun may=>Tre.qf8 (.inr rfl) hx (p1 may)) b1 ?_
   rw [An];exact Tre.qj1 hxs c1
 ·refine ⟨_,rfl,rfl,_,rfl,qX rfl ⟨_,rfl,_,rfl,(O0:3≤sizeLine),fun p hp=>?_⟩⟩;have g:=qe hp (.tup [.str "let",.str x,x1]);have hx1:=di2.good.good x hx;refine q _ _ (.tuple [.str "let",.str x,d1]) s1 t1 k1 l1 [x] ((s2.trans s3).then g) (di3.same g) (.tup (SqT.of upd_same) (.cons (.str _) (.cons (.str _) (.cons ((r2.tp s3.tp nl).same g) .nil)))) (Tre.Fts.tup (.cons (.word ∅) (.cons (.name hx1 (A7 _ hx)) (.cons f1 .nil)))) (fun may=>Tre.qf8 (.inl rfl) hx1 (p1 may)) b1 ?_;exact Tre.qj2 (c1.mono fun y hy=>by
   rcases Az.mp hy with h | h
   ·exact By _ h
   ·exact A7 _ (By _ h))
inductive spTri (K:Frag) (m:Nat) (vs:List V) (H:Hp) (Q:VK) (E':XK):Prop
 | mk:∀ (z:Dw) (own:List Str) (k l deep more:Int) (may:Bool),(vs=[.ref z.st,.int deep,.int more,.bl may])→(DIn K H z own (k+1) (l - 1))→(z.po.length+m≤12)→(1≤m)→(Bud.S m deep k l)→(∀ H' x d (s t:Nat) k' l' m',St2 z.st z.pe H H'→DIn K H' z (own++m') k' l'→Rep K H' x d→Tre.Ft z.names d→Tre.Pt d "statement" may s t→Bud.BS (m+1) k l s t k' l'→Tre.Sm (z.V++(own++m')) d m'→Q x H')→spTri K m vs H Q E'
theorem Zv (F:Fun K "_law_tried" "_law_tried" JT f fd) (c:Cs K mg ad) (m lv:Nat) (hlv:1≤lv) (d_law_term:Def P w K mg base lv "_law_term" ["_law_state","_law_deep"] (spTrm K m)) (d_law_body:Def P w K mg base lv "_law_body" ["_law_state","_law_deep","_law_may_hand"] (spBdy K m)) (d_law_new_name:Def P w K mg base 1 "_law_new_name" ["_law_state","_law_more"] (spNew K)):FnOk P w K mg base CX0 (lv+1) f fd ["_law_state","_law_deep","_law_more","_law_may_hand"] (spTri K m):=by
 refine F.ok (k:=lv) Jw (fun vs H Q E h=>?_) (fun cdv A outer s H vs Q E hr h=>?_)
 ·obtain ⟨z,own,k,l,deep,more,may,rfl,_⟩:=h;rfl
 obtain ⟨z,own,k,l,deep,more,may,rfl,di,hl,hm1,hS,q⟩:=h;refine ⟨_,(qd (pst 4 Jw.nd (pdf d_law_new_name (qb (pv 0) (qb (pv 2) qc))))
   (qd (qK (qr qgk (pv 4) JN (qz _)) (qi (qw (qQ (qb qq (qb (pdf d_law_term (qb (pv 0) (qb (qt zp (pv 1) qh) qc))) qc))))) qy)
   (qd (pst 5 Jw.nd (pdf d_law_body (qb (pv 0) (qb (qt zp (pv 1) qh) (qb (pv 3) qc)))))
   (qd (pst 6 Jw.nd (pix K (zg (qb qq (qb qq (qb qq (qb qq (qb qq qc)))))) (qt zc (qt zY (pv 2) qh) qh)))
   (qi (qw (qQ (qb qq (qb (pv 5) (qb (pv 6) (qb (pv 4) (qb (pdf d_law_body (qb (pv 0) (qb (qt zp (pv 1) qh) (qb (pv 3) qc)))) (qb (pdf d_law_body (qb (pv 0) (qb (qt zp (pv 1) qh) (qb (pv 3) qc)))) qc))))))))))))),?_⟩
 refine ⟨_,rfl,_,rfl,z,own,_,_,_,rfl,di,fun H1 g1 _=>?_,fun H1 x sx di1 hx=>?_⟩
 ·refine ⟨_,rfl,rfl,_,rfl,qX rfl ?_⟩;refine jC rfl rfl (di.same g1) hl hS.pt fun H2 x1 d1 s1 t1 k1 l1 sy2 di2 r1 f1 p1 b1 c1=>⟨(O0:2≤sizeLine),fun p hp=>?_⟩;have g:=qe hp (.tup [.str "do",x1]);refine q _ _ (.tuple [.str "do",d1]) (s1+1) (t1+1) k1 l1 [] ((St2.of ((Stay.of di.dict g1).trans sy2) di.here).then g) (by rw [An];exact di2.same g) (.tup (SqT.of upd_same) (.cons (.str _) (.cons (r1.same g) .nil))) (Tre.Fts.tup (.cons (.word ∅) (.cons f1 .nil))) (Tre.qjn (.inl rfl) (p1 may)) (hS.one b1) ?_
  rw [An];exact Tre.qjk (.inl rfl) c1
 refine ⟨_,rfl,rfl,_,rfl,qO rfl ?_⟩;have ti0:=Bud.TI.nil hS hm1;refine Vy rfl rfl rfl di1 hl (ti0.pre hS O0) fun H2 x1 ds1 s1 t1 k1 l1 m1 sy2 di2 r1 f1 bd1 b1 c1=>?_;have ti1:=ti0.snoc b1;obtain ⟨v,hv2,wd,rfl,hw,hww⟩:=vJ (xs:=[V.str "great",V.str "kind",V.str "any",V.str "unset",V.str "own"]) (i:=more / 100 % 5) (p:=fun v=>∃ x,v= .str x∧Tre.zn x=true∧(Tre.va.contains x&&decide (x.length≤1000000))=true) (fun y hy=>by
  simp only [Ao,Bm,or_false] at hy;rcases hy with rfl | rfl | rfl | rfl | rfl <;> exact ⟨_,rfl,∅,∅⟩) (Bj _ O0) (Bc _ O0)
 refine ⟨(O0:5≤sizeLine),fun p0 hp0=>⟨_,rfl,_,_,rfl,rfl,⟨O0,O0⟩,_,_,rfl,rfl,(show (0:Int)<5 from O0),.inl ⟨p0,_,_,_,rfl,rfl,SqL.of upd_same,hv2,?_⟩⟩⟩;have g0:=qe hp0 (.lst [V.str "great",V.str "kind",V.str "any",V.str "unset",V.str "own"]);have di3:=di2.same g0;have r13:=r1.same g0;have sy3:=(sx.trans sy2).then g0;dsimp only;generalize upd H2 p0 (.lst [V.str "great",V.str "kind",V.str "any",V.str "unset",V.str "own"])=H3 at di3 r13 sy3 ⊢;refine ⟨_,rfl,_,rfl,_,rfl,?_⟩;refine Vy rfl rfl rfl di3 hl (ti1.pre hS O0) fun H4 x2 ds2 s2 t2 k2 l2 m2 sy4 di4 r2 f2 bd2 b2 c2=>?_;have ti2:=ti1.snoc b2;refine Vy rfl rfl rfl di4 hl (ti2.pre hS O0) fun H5 x3 ds3 s3 t3 k3 l3 m3 sy5 di5 r3 f3 bd3 b3 c3=>⟨(O0:6≤sizeLine),fun p hp=>?_⟩;have ti3:=ti2.snoc b3;have n1:Tre.noL (.tuple ds1)=true:=by rw [Tre.noL];exact vC bd1.all
 have n2:Tre.noL (.tuple ds2)=true:=by rw [Tre.noL];exact vC bd2.all
 have g:=qe hp (.tup [.str "try",x1,.str wd,.str x,x2,x3]);have hx1:=di1.good.good x hx;have ea:own++[x]++m1++m2++m3=own++(x::(m1++(m2++m3))):=by simp
 have di6:=di5.same g;rw [ea] at di6;refine q _ _ (.tuple [.str "try",.tuple ds1,.str wd,.str x,.tuple ds2,.tuple ds3]) (s1+(s2+s3)+1) (max t1 (max t2 t3)+1) k3 l3 (x::(m1++(m2++m3))) (((sy3.trans sy4).trans sy5).then g) di6 (.tup (SqT.of upd_same) (.cons (.str _) (.cons (((r13.tp sy4.tp n1).tp sy5.tp n1).same g) (.cons (.str _) (.cons (.str _) (.cons ((r2.tp sy5.tp n2).same g) (.cons (r3.same g) .nil)))))))
  (Tre.Fts.tup (.cons (.word ∅) (.cons f1.tup (.cons (.word hww) (.cons (.name hx1 (A7 _ hx)) (.cons f2.tup (.cons f3.tup .nil))))))) (Tre.qkc hw hx1 bd1 bd2 bd3) (ti3.out hS ⋯ b1.2.1 b2.2.1 b3.2.1) ?_
 rw [Bi,Bi] at c3;rw [Bi] at c2;refine Tre.qj0 (c1.mono fun y hy=>?_) (c2.mono fun y hy=>?_) (c3.mono fun y hy=>?_)
 all_goals
  simp only [Az,Ao,Bm,or_false] at hy ⊢
  grind
theorem ve (F:Fun K "_law_statement" "_law_statement" jA f fd) (c:Cs K mg ad) (n m:Nat) (hm:Bud.Near n m) (B R:Sp) (hB:0<n→B=spBdy K m) (hR:0<n→R=spTri K m) (d_law_next:Def P w K mg base 2 "_law_next" ["_law_state"] (spNext K)) (d_law_term:Def P w K mg base (5*n+5) "_law_term" ["_law_state","_law_deep"] (spTrm K m)) (d_law_body:Def P w K mg base (5*n+5) "_law_body" ["_law_state","_law_deep","_law_may_hand"] B)
  (d_law_brings:Def P w K mg base (5*n+5) "_law_brings" ["_law_state","_law_deep","_law_more"] (spBri K m)) (d_law_tried:Def P w K mg base (5*n+5) "_law_tried" ["_law_state","_law_deep","_law_more","_law_may_hand"] R):FnOk P w K mg base CX0 (5*n+6) f fd ["_law_state","_law_deep","_law_may_hand"] (spStm K n):=by
 refine F.ok (k:=5*n+5) zK (fun vs H Q E h=>?_) (fun cdv A outer s H vs Q E hr h=>?_)
 ·obtain ⟨z,own,k,l,deep,may,rfl,_⟩:=h;rfl
 obtain ⟨z,own,k,l,deep,may,rfl,di,hl,pp,q⟩:=h;have hu:=Ve hr;refine ⟨_,(qd (pst 3 zK.nd (pdf d_law_next (qb (pv 0) qc)))
   (qd (JX hu (pv 0) qq (qt zp (zS hu (pv 0) qq (fun _ _=>rfl)) qh) rfl)
   (qd (pst 4 zK.nd (qt zc (pv 3) qh))
   (qd (qK (PW.pt (JW (qr VM (pv 1) qh (qz _)) (Jq (qr VM (zS hu (pv 0) qq (fun _ _=>rfl)) qh (qz _))))) (qi (pst 4 zK.nd (qt zc (pv 4) qh))) qy)
   (qd (qK (PW.pt (J8 (qr zN (pv 4) qh (qz _)) (JA (jV (jg (pv 2)))))) (qi (pst 4 zK.nd qh)) qy)
   (qd (qK (qr VM (pv 4) qh (qz _)) (qi (qw (pdf d_law_brings (qb (pv 0) (qb (pv 1) (qb (qt zY (pv 3) qh) qc)))))) qy)
   (qd (qK (qr VM (pv 4) qh (qz _)) (qi (qw (qQ (qb (pix K (zg (qb qq (qb qq (qb qq qc)))) (qt zp (pv 4) qh)) (qb (pdf d_law_term (qb (pv 0) (qb (qt zp (pv 1) qh) qc))) qc))))) qy)
   (qd (qK (qr zN (pv 4) qh (qz _)) (qi (qw (qQ (qb qq (qb (pix K (zg (qb qq (qb qq (qb qq qc)))) (qt zc (qt zY (pv 3) qh) qh)) (qb (pdf d_law_term (qb (pv 0) (qb (qt zp (pv 1) qh) qc))) qc)))))) qy)
   (qd (qK (qr zN (pv 4) qh (qz _)) (qi (qw (qQ (qb qq (qb (pdf d_law_term (qb (pv 0) (qb (qt zp (pv 1) qh) qc))) (qb (pdf d_law_body (qb (pv 0) (qb (qt zp (pv 1) qh) (qb (pv 2) qc)))) qc)))))) qy)
   (qd (qK (qr zN (pv 4) qh (qz _)) (qd (pst 5 zK.nd (pdf d_law_term (qb (pv 0) (qb (qt zp (pv 1) qh) qc))))
   (qi (qw (qQ (qb qq (qb (pv 5) (qb (pdf d_law_body (qb (pv 0) (qb (qt zp (pv 1) qh) (qb (pv 2) qc)))) (qb (pdf d_law_body (qb (pv 0) (qb (qt zp (pv 1) qh) (qb (pv 2) qc)))) qc)))))))) qy)
   (qi (qw (pdf d_law_tried (qb (pv 0) (qb (pv 1) (qb (qt zY (pv 3) qh) (qb (pv 2) qc))))))))))))))))),?_⟩
 clear hu;refine ⟨_,rfl,z.st,z.a,z.nm,z.ev,z.ns,k,l,rfl,di.dict,di.cells,pp.2.1,(by have:=pp.2.2;omega),fun y H1 hz0 hz1 e1=>?_⟩
 have di1:DIn K H1 z own (k+1) l:=e1▸di.put;have sy1:Stay z.st H H1:=e1▸Stay.put di.dict;clear e1;refine ⟨_,rfl,_,_,rfl,di1.gL,_,_,rfl,rfl,?_⟩;refine ⟨_,rfl,z.st,upd H1 z.st (.dK (stK z.a (k+1) (l - 1) z.nm z.ev)),rfl,(by rw [← yQ z.a (k+1) l z.nm z.ev (l - 1)];exact yA.k (k:=Sum.inr "left") di1.dict (Cf (show 5≤1000 from O0) O0)),?_⟩
 have di2:DIn K (upd H1 z.st (.dK (stK z.a (k+1) (l - 1) z.nm z.ev))) z own (k+1) (l - 1):=di1.put;have sy2:Stay z.st H (upd H1 z.st (.dK (stK z.a (k+1) (l - 1) z.nm z.ev))):=sy1.trans (Stay.put di1.dict);generalize upd H1 z.st (.dK (stK z.a (k+1) (l - 1) z.nm z.ev))=H2 at di2 sy2 ⊢;refine ⟨_,rfl,_,_,rfl,rfl,(show (0:Int)<10 from O0),?_⟩;have kz0:=Bj y (show (10:Int)≠0 from O0);have kz1:=Bc y (show (0:Int)<10 from O0);have km0:=Bj (y % 10) (show (5:Int)≠0 from O0);have km1:=Bc (y % 10) (show (0:Int)<5 from O0);dsimp only [qm];refine wp (s:=zJ _ _ _) (fun σ' H'=>H2=H'∧∃ kd:Int,σ'=[some (.ref z.st),some (.int deep),some (.bl may),some (.int y),some (.int kd),none]∧0≤kd∧kd<10∧(deep<2∨l - 1<0→kd<5)) (fun R' hR'=>?_) ?_
 ·refine ⟨_,rfl,_,_,rfl,rfl,_,rfl,?_⟩;refine Vd (fun c1=>vF ⟨_,rfl,_,_,rfl,rfl,(show (0:Int)<5 from O0),hR' _ _ ⟨rfl,y % 10 % 5,rfl,km0,⋯,fun _=>km1⟩⟩) (fun c1=>⟨_,rfl,z.st,_,rfl,di2.gL,_,_,rfl,rfl,_,rfl,Vd (fun c2=>⟨_,rfl,_,_,rfl,rfl,(show (0:Int)<5 from O0),hR' _ _ ⟨rfl,y % 10 % 5,rfl,km0,⋯,fun _=>km1⟩⟩) (fun c2=>?_)⟩);have c1':¬ deep<2:=by simpa using c1
  have c2':¬ l - 1<0:=by simpa using c2
  exact hR' _ _ ⟨rfl,y % 10,rfl,kz0,kz1,fun h=>⋯⟩
 rintro σ' H' ⟨e',kd',rfl,ka,kb,kc⟩;subst e';refine wp (s:=zJ _ _ _) (fun σ' H3=>H2=H3∧∃ kd:Int,σ'=[some (.ref z.st),some (.int deep),some (.bl may),some (.int y),some (.int kd),none]∧(kd=2→may=true)∧0≤kd∧kd<10∧(deep<2∨l - 1<0→kd<5)) (fun R' hR'=>?_) ?_
 ·refine ⟨_,rfl,rfl,_,rfl,?_⟩
  by_cases e3:kd'=2∧may=false
  ·obtain ⟨rfl,rfl⟩:=e3;exact qX (show decide _=true from Al rfl) ⟨_,rfl,_,rfl,qX (show (!false)=true from rfl) (hR' _ _ ⟨rfl,3,rfl,fun z=>absurd z O0,O0,O0,fun _=>O0⟩)⟩
  have e3':kd'=2→may=true:=fun e=>by
   cases may with
   | true=>rfl
   | false=>exact absurd ⟨e,rfl⟩ e3
  have fin:=hR' _ _ ⟨rfl,kd',rfl,e3',ka,kb,kc⟩;exact qmu (fun hc hB=>⟨_,rfl,_,rfl,qO (show (!may)=false by rw [e3' (V.int.inj (A3 hc))];rfl) hB⟩) fin
 clear ka kb kc kz0 kz1 km0 km1 hz0 hz1 di1 sy1;rintro σ' H3 ⟨e',kd,rfl,e3',kd0,kd1,kd2⟩;subst e';have s2:St2 z.st z.pe H H2:= .of sy2 di.here;have pt:=pp.pt hm;have hlm:z.po.length+m≤12:=by have:=hm.1;omega
 refine qiu rfl (fun e2=>?_) (fun e2=>?_)
 ·exact ⟨_,rfl,_,rfl,_,rfl,_,_,rfl,rfl,⟨O0,O0⟩,z,own,_,_,_,_,rfl,di2,hlm,pt,fun H4 x d s t k' l' m' s4 di4 r ff p b sm=>q H4 x d (s+1) (t+1) k' l' m' (s2.trans s4) di4 r ff (p may) (pp.one hm b) sm⟩
 have fin1:∀ (H4 H5:Hp) (x:V) (d:PyData) (s t:Nat) (k' l':Int),Stay z.st H2 H4→DIn K H4 z own k' l'→qv H4 H5→Rep K H5 x d→Tre.Ft z.names d→Tre.Pt d "statement" may s t→Bud.BS n k l s t k' l'→Tre.Sm (z.V++own) d []→Q x H5:=fun H4 H5 x d s t k' l' s4 di4 g r ff p b sm=>
  q H5 x d s t k' l' [] ((s2.trans (.of s4 di2.here)).then g) (by rw [An];exact di4.same g) r ff p b (by rw [An];exact sm)
 refine qiu rfl (fun e5=>?_) (fun e5=>?_)
 ·refine ⟨(O0:3≤sizeLine),fun p1 hp1=>?_⟩;have gp1:=qe hp1 (.lst [.str "hand",.str "do",.str "back"]);have di4:=di2.same gp1;obtain ⟨hh,hat,hhl⟩:∃ hh:Str,atI [V.str "hand",V.str "do",V.str "back"] (kd - 2)=some (.str hh)∧(hh="do"∨hh="back"∨(hh="hand"∧may=true)):=by
   have:kd=2∨kd=3∨kd=4:=⋯;rcases this with rfl | rfl | rfl
   ·exact ⟨"hand",qo (j:=0) rfl,.inr (.inr ⟨rfl,e3' rfl⟩)⟩
   ·exact ⟨"do",qo (j:=1) rfl,.inl rfl⟩
   ·exact ⟨"back",qo (j:=2) rfl,.inr (.inl rfl)⟩
  refine ⟨_,rfl,_,_,rfl,rfl,.inl ⟨p1,_,_,_,rfl,rfl,SqL.of upd_same,hat,?_⟩⟩;refine jC rfl rfl di4 hlm pt fun H5 x1 d1 s1 t1 k1 l1 sy5 di5 r1 f1 q1 b1 c1=>⟨(O0:2≤sizeLine),fun p hp=>?_⟩;have g:=qe hp (.tup [.str hh,x1]);exact fin1 H5 _ _ (.tuple [.str hh,d1]) (s1+1) (t1+1) k1 l1 ((Stay.of di2.dict gp1).trans sy5) di5 g (.tup (SqT.of upd_same) (.cons (.str _) (.cons (r1.same g) .nil))) (Tre.Fts.tup (.cons (.word (by rcases hhl with rfl | rfl | ⟨rfl,_⟩ <;> decide+kernel)) (.cons f1 .nil))) (Tre.qjn hhl (q1 may)) (pp.one hm b1) (Tre.qjk (by rcases hhl with h | h | h;exact .inl h;exact .inr (.inl h);exact .inr (.inr h.1)) c1)
 have hl1:0≤l - 1:=⋯;have hd1:2≤deep:=⋯;have hnm:n=m+1:=by have:=pp.1;have:=hm.2;omega
 subst hnm;have hm1:1≤m:=by have:=pp.1;omega
 have eB:B=spBdy K m:=hB ⋯;have eR:R=spTri K m:=hR ⋯;have hS:=pp.many hl1 ⋯;clear kd2 kd0 e3' e2 hB hR hl1 hd1 d_law_next d_law_term d_law_body d_law_brings d_law_tried;subst eB;subst eR;refine qiv rfl (fun e6=>?_) (fun e6=>?_)
 ·obtain ⟨v,hat,x,rfl,hy,hyw⟩:=vJ (xs:=[V.str "own",V.str "kind",V.str "great"]) (i:=y / 10 % 3) (p:=fun v=>∃ x,v= .str x∧(Tre.zn x&&x !="any")=true∧(Tre.va.contains x&&decide (x.length≤1000000))=true) (fun y hy=>by
   simp only [Ao,Bm,or_false] at hy;rcases hy with rfl | rfl | rfl <;> exact ⟨_,rfl,∅,∅⟩) (Bj _ O0) (Bc _ O0)
  refine ⟨(O0:3≤sizeLine),fun p1 hp1=>?_⟩;have gp1:=qe hp1 (.lst [.str "own",.str "kind",.str "great"]);have di4:=di2.same gp1;refine ⟨_,rfl,_,_,rfl,rfl,⟨O0,O0⟩,_,_,rfl,rfl,(show (0:Int)<3 from O0),.inl ⟨p1,_,_,_,rfl,rfl,SqL.of upd_same,hat,?_⟩⟩;refine jC rfl rfl di4 hlm pt fun H5 x1 d1 s1 t1 k1 l1 sy5 di5 r1 f1 q1 b1 c1=>⟨(O0:3≤sizeLine),fun p hp=>?_⟩;have g:=qe hp (.tup [.str "fault",.str x,x1]);exact fin1 H5 _ _ (.tuple [.str "fault",.str x,d1]) (s1+1) (t1+1) k1 l1 ((Stay.of di2.dict gp1).trans sy5) di5 g (.tup (SqT.of upd_same) (.cons (.str _) (.cons (.str _) (.cons (r1.same g) .nil)))) (Tre.Fts.tup (.cons (.word ∅) (.cons (.word hyw) (.cons f1 .nil)))) (Tre.qf9 hy (q1 may)) (pp.one hm b1) (Tre.qfv c1)
 refine qiv rfl (fun e7=>?_) (fun e7=>?_)
 ·refine jC rfl rfl di2 hlm pt fun H4 x1 d1 s1 t1 k1 l1 sy4 di4 r1 f1 q1 b1 c1=>?_;refine Vy rfl rfl rfl di4 hlm (hS.pb1 b1) fun H5 x2 ds2 s3 t3 k3 l3 m3 sy5 di5 r2 f2 bd2 b2 c2=>⟨(O0:3≤sizeLine),fun p hp=>?_⟩;have g:=qe hp (.tup [.str "while",x1,x2]);exact q _ _ (.tuple [.str "while",d1,.tuple ds2]) (s1+s3+1) (max t1 t3+1) k3 l3 m3 (((s2.trans (.of sy4 di2.here)).trans sy5).then g) (di5.same g) (.tup (SqT.of upd_same) (.cons (.str _) (.cons ((r1.tp sy5.tp (ZB (q1 may))).same g) (.cons (r2.same g) .nil)))) (Tre.Fts.tup (.cons (.word ∅) (.cons f1 (.cons f2.tup .nil)))) (Tre.qf6 (q1 may) bd2) (hS.wh b1 b2) (Tre.qfu (c1.mono fun y hy=>by
   rcases Az.mp hy with h | h
   ·exact By _ h
   ·exact A7 _ (By _ h)) c2)
 refine qiv rfl (fun e8=>?_) (fun e8=>?_)
 ·refine jC rfl rfl di2 hlm pt fun H4 x1 d1 s1 t1 k1 l1 sy4 di4 r1 f1 q1 b1 c1=>?_;refine ⟨_,rfl,?_⟩;refine Vy rfl rfl rfl di4 hlm (hS.pb1 b1) fun H5 x2 ds2 s3 t3 k3 l3 m3 sy5 di5 r2 f2 bd2 b2 c2=>?_;refine Vy rfl rfl rfl di5 hlm (hS.pb2 b1 b2) fun H6 x3 ds3 s4 t4 k4 l4 m4 sy6 di6 r3 f3 bd3 b3 c3=>⟨(O0:4≤sizeLine),fun p hp=>?_⟩;have g:=qe hp (.tup [.str "if",x1,x2,x3]);have n1:=ZB (q1 may);have n2:Tre.noL (.tuple ds2)=true:=by rw [Tre.noL];exact vC bd2.all
  rw [Bi] at di6 c3;exact q _ _ (.tuple [.str "if",d1,.tuple ds2,.tuple ds3]) (s1+(s3+s4)+1) (max t1 (max t3 t4)+1) k4 l4 (m3++m4) ((((s2.trans (.of sy4 di2.here)).trans sy5).trans sy6).then g) (di6.same g) (.tup (SqT.of upd_same) (.cons (.str _) (.cons (((r1.tp sy5.tp n1).tp sy6.tp n1).same g) (.cons ((r2.tp sy6.tp n2).same g) (.cons (r3.same g) .nil))))) (Tre.Fts.tup (.cons (.word ∅) (.cons f1 (.cons f2.tup (.cons f3.tup .nil))))) (Tre.qmf (q1 may) bd2 bd3) (hS.if_ b1 b2 b3) (Tre.ql2 (c1.mono fun y hy=>by
   rcases Az.mp hy with h | h
   ·exact By _ h
   ·exact A7 _ (By _ h)) (c2.mono qmw) c3)
 exact ⟨_,rfl,_,rfl,_,rfl,_,_,rfl,rfl,⟨O0,O0⟩,_,rfl,z,own,k,l,deep,_,may,rfl,di2,hlm,hm1,hS,fun H4 x d s t k' l' m' s4 di4 r ff p b sm=>q H4 x d s t k' l' m' (s2.trans s4) di4 r ff p b sm⟩
structure Known (K:Frag) (mg:Str→Option Value) (x:Str) (ps:List Str) (f:Addr) (fd:FuncData):Prop where
 binds:vO K fd ps []
 keep:PySem.W.keepIn K (.ref f)=true
 name:mg x=some (.ref f)
theorem Known.out {x:Str} {ps:List Str} {lv:Nat} {sp:Sp} (k:Known K mg x ps f fd) (F:FnOk P w K mg base CX0 lv f fd ps sp):Def P w K mg base lv x ps sp:=⟨f,fd,F,k.binds,k.keep,k.name⟩
theorem yC {ps:List Str} {lv:Nat}:FnOk P w K mg base CX0 lv f fd ps (fun _ _ _ _=>False):=⟨fun _ _ _ _ h=>h.elim,fun _ _ _ _ _ _ _ _ _ _ _ _ _ h=>h.elim⟩
theorem Def.up {x:Str} {ps:List Str} {sp:Sp} {j k:Nat} (d:Def P w K mg base j x ps sp) (h:j≤k):Def P w K mg base k x ps sp:=by
 obtain ⟨f,fd,F,r⟩:=d.ex;exact ⟨f,fd,F.mono h,r⟩
theorem drawn {fT fS fB fF fG fR:Addr} {dT dS dB dF dG dR:FuncData} (FT:Fun K "_law_term" "_law_term" JJ fT dT) (FS:Fun K "_law_statement" "_law_statement" jA fS dS) (FB:Fun K "_law_body" "_law_body" JK fB dB) (FF:Fun K "_law_function" "_law_function" jS fF dF) (FG:Fun K "_law_brings" "_law_brings" Jx fG dG) (FR:Fun K "_law_tried" "_law_tried" JT fR dR)
  (kT:Known K mg "_law_term" ["_law_state","_law_deep"] fT dT) (kS:Known K mg "_law_statement" ["_law_state","_law_deep","_law_may_hand"] fS dS) (kB:Known K mg "_law_body" ["_law_state","_law_deep","_law_may_hand"] fB dB) (kF:Known K mg "_law_function" ["_law_state","_law_deep","_law_kind"] fF dF) (kG:Known K mg "_law_brings" ["_law_state","_law_deep","_law_more"] fG dG) (kR:Known K mg "_law_tried" ["_law_state","_law_deep","_law_more","_law_may_hand"] fR dR)
  (c:Cs K mg ad) (d_law_next:Def P w K mg base 2 "_law_next" ["_law_state"] (spNext K)) (d_law_number:Def P w K mg base 1 "_law_number" ["_law_more"] spNumber) (d_law_visible:Def P w K mg base 1 "_law_visible" ["_law_state"] (spVis K)) (d_law_new_name:Def P w K mg base 1 "_law_new_name" ["_law_state","_law_more"] (spNew K)):
  ∀ n:Nat,Def P w K mg base (5*n+4) "_law_term" ["_law_state","_law_deep"] (spTrm K n)∧Def P w K mg base (5*n+6) "_law_statement" ["_law_state","_law_deep","_law_may_hand"] (spStm K n)∧Def P w K mg base (5*n+7) "_law_body" ["_law_state","_law_deep","_law_may_hand"] (spBdy K n)
 | 0=>by
  have t:=kT.out (WO FT c 0 _ _ (fun h=>absurd h O0) (fun h=>absurd h O0) d_law_next d_law_visible d_law_number (kT.out yC) (kF.out yC));have g:=kG.out (VN FG c 0 4 O0 t d_law_visible d_law_new_name);have s:=kS.out (ve FS c 0 0 ⟨Ag _,.inl rfl⟩ _ _ (fun h=>absurd h O0) (fun h=>absurd h O0) d_law_next (Def.up t O0) (kB.out yC) (Def.up g O0) (kR.out yC));exact ⟨t,s,kB.out (WP FB c 0 d_law_next s)⟩
 | n+1=>by
  obtain ⟨t0,s0,b0⟩:=drawn FT FS FB FF FG FR kT kS kB kF kG kR c d_law_next d_law_number d_law_visible d_law_new_name n;have fn:=kF.out (W3 FF c n d_law_next b0);have t:=kT.out (WO FT c (n+1) _ _ (fun _=>rfl) (fun _=>rfl) d_law_next d_law_visible d_law_number (Def.up t0 ⋯) (Def.up fn ⋯));have g:=kG.out (VN FG c n (5*n+4) ⋯ t0 d_law_visible d_law_new_name);have r:=kR.out (Zv FR c n (5*n+7) ⋯ (Def.up t0 ⋯) b0 d_law_new_name);have s:=kS.out (ve FS c (n+1) n ⟨⋯,.inr rfl⟩ _ _ (fun _=>rfl) (fun _=>rfl) d_law_next (Def.up t0 ⋯) (Def.up b0 ⋯) (Def.up g ⋯) (Def.up r ⋯));exact ⟨t,s,kB.out (WP FB c (n+1) d_law_next s)⟩
theorem qgo (a:Addr) (k l:Int) (nm ev:Addr):V5 [] (stK a k l nm ev)=stK a k l nm ev:=by
 have new:∀ (kvs:List (Key×V)) (x:Key) (v:V),(∀ kv∈kvs,¬ kv.1=x)→zG kvs x v=kvs++[(x,v)]:=fun kvs x v h=>by
  unfold zG;rw [if_neg];intro z;obtain ⟨kv,hkv,e⟩:=Db.mp z;exact h kv hkv (A3 e)
 unfold V5 stK;rw [B4,B4,B4,B4,B4,List.foldl_nil];have e1:zG ([]:List (Key×V)) (Sum.inr "cells") (V.ref a)=[((Sum.inr "cells":Key),V.ref a)]:=new [] (Sum.inr "cells") (V.ref a) fun kv h=>nomatch h;have e2:zG [((Sum.inr "cells":Key),V.ref a)] (Sum.inr "at") (V.int k)=[((Sum.inr "cells":Key),V.ref a),((Sum.inr "at":Key),V.int k)]:=new [((Sum.inr "cells":Key),V.ref a)] (Sum.inr "at") (V.int k) fun kv h=>by
  cases Am.mp h;exact qk1
 have e3:zG [((Sum.inr "cells":Key),V.ref a),((Sum.inr "at":Key),V.int k)] (Sum.inr "left") (V.int l)=[((Sum.inr "cells":Key),V.ref a),((Sum.inr "at":Key),V.int k),((Sum.inr "left":Key),V.int l)]:=new [((Sum.inr "cells":Key),V.ref a),((Sum.inr "at":Key),V.int k)] (Sum.inr "left") (V.int l) fun kv h=>by
  simp only [Ao,Bm,or_false] at h;rcases h with rfl | rfl
  ·exact qk0
  ·exact qk2
 have e4:zG [((Sum.inr "cells":Key),V.ref a),((Sum.inr "at":Key),V.int k),((Sum.inr "left":Key),V.int l)] (Sum.inr "names") (V.ref nm)=[((Sum.inr "cells":Key),V.ref a),((Sum.inr "at":Key),V.int k),((Sum.inr "left":Key),V.int l),((Sum.inr "names":Key),V.ref nm)]:=new [((Sum.inr "cells":Key),V.ref a),((Sum.inr "at":Key),V.int k),((Sum.inr "left":Key),V.int l)] (Sum.inr "names") (V.ref nm) fun kv h=>by
  simp only [Ao,Bm,or_false] at h;rcases h with rfl | rfl | rfl
  ·exact qmo
  ·exact qmq
  ·exact qmm
 have e5:zG [((Sum.inr "cells":Key),V.ref a),((Sum.inr "at":Key),V.int k),((Sum.inr "left":Key),V.int l),((Sum.inr "names":Key),V.ref nm)] (Sum.inr "env") (V.ref ev)=[((Sum.inr "cells":Key),V.ref a),((Sum.inr "at":Key),V.int k),((Sum.inr "left":Key),V.int l),((Sum.inr "names":Key),V.ref nm),((Sum.inr "env":Key),V.ref ev)]:=new [((Sum.inr "cells":Key),V.ref a),((Sum.inr "at":Key),V.int k),((Sum.inr "left":Key),V.int l),((Sum.inr "names":Key),V.ref nm)] (Sum.inr "env") (V.ref ev) fun kv h=>by
  simp only [Ao,Bm,or_false] at h;rcases h with rfl | rfl | rfl | rfl
  ·exact qmp
  ·exact qmr
  ·exact qmn
  ·exact qml
 rw [e1,e2,e3,e4,e5]
theorem qil {A B:Prop} (h:if false=true then A else B):B:=by simpa using h
theorem qeu {names:List Str} (g:Nms names) {hi:Int} (h0:0≤hi) (h1:hi≤4):∃ cut:List Str,wv (names.map V.str) none (some hi)=cut.map V.str∧Tre.areNames (.tuple (cut.map PyData.str))=true∧∀ x∈cut,Tre.zn x=true∧x∈names:=by
 refine ⟨names.take hi.toNat,?_,?_,fun x hx=>⟨g.good x (Ct hx),Ct hx⟩⟩
 ·rw [Ys _ _ hi.toNat ⋯,List.map_take]
 ·have hl:(names.take hi.toNat).length≤4:=by
   have:=B0 hi.toNat names;omega
  have hsub:∀ x∈names.take hi.toNat,Tre.zn x=true:=fun x hx=>g.good x (Ct hx);have hnd:(names.take hi.toNat).Nodup:=g.nd.take;generalize names.take hi.toNat=cut at hl hsub hnd;simp only [Tre.areNames];rw [Ab,Al hl,Cv,Bx,Ae];refine ⟨?_,Al ?_⟩
  ·rw [C9];exact A8.mpr fun x hx=>hsub x hx
  ·have e:(Tre.txt ∘ PyData.str)=id:=rfl;rw [e,Df];exact hnd
inductive spProg (K:Frag) (vs:List V) (H:Hp) (Q:VK) (E':XK):Prop
 | mk:∀ (a:Addr) (ns:List Int) (l0:Int),(0≤l0)→(l0≤40)→(vs=[.ref a,.int l0])→(SqL K H a (ns.map V.int))→(∀ H' x d s t (names:List Str),qv H H'→Rep K H' x d→names.length=8→(∀ x∈names,Tre.zn x=true)→Tre.Ft names d→Tre.Pt d "program" false s t→s≤300→t≤12→Tre.ScP d→Q x H')→spProg K vs H Q E'
inductive Iv_TreR8_0 (K:W.Frag) (H:Hp) (a:Addr) (l0:Int) (names:List Str) (nm:Addr) (pp:Addr) (cut:List Str) (st:Addr) (z:Dw) (pb:Addr) (m:Nat) (σ:St) (H':Hp):Prop
 | mk:(H' nm=some (.lst (names.map V.str)))→(H' pp=some (.lst (cut.map V.str)))→∀ ys ds k' l' s t br,(σ=[some (.ref a),some (.int l0),some (.ref nm),some (.ref pp),some (.ref st),some (.ref pb)])→(qv H H')→(DIn K H' z (cut++br) k' l')→(H' pb=some (.lst ys))→(Reps K H' ys ds)→(Tre.Fts names ds)→(Tre.Ptl (ds.map fun x=>(x,("statement":Str))) true s t)→(Bud.WI l0 ds.length m s t k' l')→(Tre.Sb (cut++br) ds br)→Iv_TreR8_0 K H a l0 names nm pp cut st z pb m σ H'
def yk (K:Frag):TS:=zz (tBM K "list" zM (qg 5) (qf (qG (spStm K 7) [] E0 (qf (qg 4) (qf (tOp jh (tC (V.int 2)) (tOp (rI (fun x j=>0<j) fun i j=>V.int (i % j)) (qG (spNext K) [] E0 (qf (qg 4) qp)) (tC (V.int 6)))) (qf (tC (V.bl true)) qp)))) qp))
def yh (K:Frag):TS:=zV (Ji (qf (tC (V.str "main")) (qf (tCB (fun xs H Q=>∃ p ys,xs=[V.ref p]∧((SqL K H p ys∧∀ (l:Addr),H l=none→Q (V.ref l) (upd H l (HO.tup ys)))∨SqT K H p ys∧Q (V.ref p) H)) (qf (qg 3) qp)) (qf (tCB (fun xs H Q=>∃ p ys,xs=[V.ref p]∧((SqL K H p ys∧∀ (l:Addr),H l=none→Q (V.ref l) (upd H l (HO.tup ys)))∨SqT K H p ys∧Q (V.ref p) H)) (qf (qg 5) qp)) qp))))
def yg (K:Frag):TS:=qB (vk (wF (qJ (tOp (rI0 fun i j=>V.bl (decide (j<i))) (VD (qg 4) (tC (V.str "left"))) (tC (V.int 0)))) (qJ (tOp (rI0 fun i j=>V.bl (decide (i<j))) (tCB (fun xs H Q=>∃ x n,xs=[x]∧Vo K x H n∧Q (V.int ↑n) H) (qf (qg 5) qp)) (tOp jh (tC (V.int 1)) (tOp (rI (fun x j=>0<j) fun i j=>V.int (i % j)) (qG (spCell K) [] E0 (qf (qg 0) (qf (tC (V.int 1)) qp))) (tC (V.int 6))))))) (yk K)) (yh K)
def yf (K:Frag):TS:=qB (qP (Ju qp) (qm 5)) (yg K)
def ye (K:Frag):TS:=qB (qP (qjh [(tC (V.str "cells"),qg 0),(tC (V.str "at"),tC (V.int 0)),(tC (V.str "left"),qg 1),(tC (V.str "names"),qg 2),(tC (V.str "env"),Ju (qf (tCB (fun xs H_1 Q=>∃ p ys,xs=[V.ref p]∧(SqL K H_1 p ys∨SqT K H_1 p ys)∧∀ (l:Addr),H_1 l=none→Q (V.ref l) (upd H_1 l (HO.lst ys))) (qf (qg 3) qp)) qp))]) (qm 4)) (yf K)
def yd (K:Frag):TS:=qB (qP (tSl (qbf K) (qg 2) wb (yO (tOp (rI (fun x j=>0<j) fun i j=>V.int (i % j)) (qG (spCell K) [] E0 (qf (qg 0) (qf (tC (V.int 2)) qp))) (tC (V.int 5))))) (qm 3)) (ye K)
theorem y6 (F:Fun K "_law_program" "_law_program" J5 f fd) (c:Cs K mg ad) (d_law_cell_at:Def P w K mg base 1 "_law_cell_at" ["_law_script","_law_k"] (spCell K)) (d_law_names:Def P w K mg base 1 "_law_names" ["_law_cell","_law_many"] spNames) (d_law_next:Def P w K mg base 2 "_law_next" ["_law_state"] (spNext K))
  (d_law_statement:Def P w K mg base 41 "_law_statement" ["_law_state","_law_deep","_law_may_hand"] (spStm K 7)):FnOk P w K mg base CX0 42 f fd ["_law_script","_law_most"] (spProg K):=by
 refine F.ok jn (fun vs H Q E h=>?_) (fun cdv A outer s H vs Q E hr h=>?_)
 ·obtain ⟨a,ns,l0,_,_,rfl,_⟩:=h;rfl
 obtain ⟨a,ns,l0,hl00,hl40,rfl,hS,q⟩:=h;have hu:=Ve hr;refine ⟨_,(qd (pst 2 jn.nd (pdf d_law_names (qb (qt zc (qt V2 (pdf d_law_cell_at (qb (pv 0) (qb qh qc))) qh) qh) (qb qh qc))))
   (qd (pst 3 jn.nd (JM (qbb (K:=K) rfl) (pv 2) Vr (JY (qt zc (pdf d_law_cell_at (qb (pv 0) (qb qh qc))) qh))))
   (qd (pst 4 jn.nd (qih (v5 qq (pv 0) (v5 qq qh (v5 qq (pv 1) (v5 qq (pv 2) (v5 qq (zg (qb (qW j4 (by rfl) c.list_ vI (qb (pv 3) qc)) qc)) qid))))) rfl rfl (by intro z;cases z) O0))
   (qd (pst 5 jn.nd (zg qc))
   (qd (Jl Bh (PW.pt (J8 (qr QB (zS hu (pv 4) qq (fun _ _=>rfl)) qh (qz _)) (JA (qr VM (qx (jY (K:=K) rfl) (by rfl) c.len_ z9 (qb (pv 5) qc)) (qt zi qh (qt zc (pdf d_law_cell_at (qb (pv 0) (qb qh qc))) qh)) (qz _))))) (qi (qT (Jn (K:=K) rfl Ax Bu Bs zC (pv 5) (qb (pdf d_law_statement (qb (pv 4) (qb (qt zi qh (qt zc (pdf d_law_next (qb (pv 4) qc)) qh)) (qb jw qc)))) qc)))))
   (qi (qw (qQ (qb qq (qb (qW (jL (K:=K) rfl) (by rfl) c.tuple_ zx (qb (pv 3) qc)) (qb (qW (jL (K:=K) rfl) (by rfl) c.tuple_ zx (qb (pv 5) qc)) qc))))))))))),?_⟩
 show qB (qP (qG spNames [] E0 (qf (tOp (rI (fun x j=>0<j) fun i j=>V.int (i % j)) (tOp (rI qhl fun i j=>V.int (i*j)) (qG (spCell K) [] E0 (qf (qg 0) (qf (tC (V.int 0)) qp))) (tC (V.int 48271))) (tC (V.int 2147483647))) (qf (tC (V.int 8)) qp))) (qm 2)) (yd K) _ _ _;clear hu;refine ⟨_,rfl,a,ns,_,rfl,hS,O0,fun i0=>⟨_,_,rfl,rfl,.inr ⟨O0,O0⟩,_,_,rfl,rfl,(show (0:Int)<2147483647 from O0),?_⟩⟩;refine ⟨_,rfl,Bj _ O0,Bc _ O0,fun names nm H1 good g1 hnm=>?_⟩;refine ⟨_,rfl,_,rfl,a,ns,_,rfl,g1.seq hS,O0,fun i2=>⟨_,_,rfl,rfl,(show (0:Int)<5 from O0),_,rfl,.inl ⟨nm,_,rfl,SqL.of hnm,fun pp hpp=>?_⟩⟩⟩;have m0:=Bj i2 (show (5:Int)≠0 from O0);have m1:=Bc i2 (show (0:Int)<5 from O0);obtain ⟨cut,ecut,hcut,hgood⟩:=qeu good m0 ⋯;have hnd:cut.Nodup:=by
  simp only [Tre.areNames,Ae] at hcut;have e:=A3 hcut.2;rw [Bx,show (Tre.txt ∘ PyData.str)=id from rfl,Df] at e;exact e
 dsimp only;rw [ecut];have gp:=qe hpp (.lst (cut.map V.str));have hp1:upd H1 pp (.lst (cut.map V.str)) pp=some (.lst (cut.map V.str)):=upd_same;have hn1:=gp _ _ hnm;have g1p:=g1.trans gp;generalize upd H1 pp (.lst (cut.map V.str))=H2 at hp1 hn1 g1p ⊢;refine fun st hst=>⟨_,rfl,_,rfl,_,rfl,_,rfl,pp,_,rfl,.inl (SqL.of (qe hst _ _ _ hp1)),fun pe hpe=>⟨(O0:1≤sizeLine),fun ev hev=>?_⟩⟩;have nsp:st≠pe:=fun e=>by rw [← e,upd_same] at hpe;cases hpe
 have nse:st≠ev:=fun e=>by rw [← e,qk nsp,upd_same] at hev;cases hev
 have npe:pe≠ev:=fun e=>by rw [← e,upd_same] at hev;cases hev
 refine ⟨by rw [qk nse,qk nsp];exact upd_same,stK a 0 l0 nm ev,rfl,(O0:5≤15),?_⟩
 rw [qgo];have hpe2:H2 pe=none:=by rw [qk (Ne.symm nsp)] at hpe;exact hpe
 have hev2:H2 ev=none:=by rw [qk (Ne.symm npe),qk (Ne.symm nse)] at hev;exact hev
 have old:∀ b o,H2 b=some o→b≠st∧b≠pe∧b≠ev:=fun b o h=>⟨fun e=>(by rw [e,hst] at h;cases h),fun e=>(by rw [e,hpe2] at h;cases h),fun e=>(by rw [e,hev2] at h;cases h)⟩
 let z:Dw:=⟨st,a,nm,ev,pe,[],ns,names,[]⟩
 have g3:qv H2 (upd (upd (upd (upd H2 st (.dK [])) pe (.lst (cut.map V.str))) ev (.lst [.ref pe])) st (.dK (stK a 0 l0 nm ev))):=fun b o h=>by
  obtain ⟨n1,n2,n3⟩:=old b o h;rw [qk n1,qk n3,qk n2,qk n1];exact h
 have d3:upd (upd (upd (upd H2 st (.dK [])) pe (.lst (cut.map V.str))) ev (.lst [.ref pe])) st (.dK (stK a 0 l0 nm ev)) st=some (.dK (stK a 0 l0 nm ev)):=upd_same;have e3:upd (upd (upd (upd H2 st (.dK [])) pe (.lst (cut.map V.str))) ev (.lst [.ref pe])) st (.dK (stK a 0 l0 nm ev)) ev=some (.lst [.ref pe]):=by rw [qk (Ne.symm nse)];exact upd_same
 have o3:upd (upd (upd (upd H2 st (.dK [])) pe (.lst (cut.map V.str))) ev (.lst [.ref pe])) st (.dK (stK a 0 l0 nm ev)) pe=some (.lst (cut.map V.str)):=by rw [qk (Ne.symm nsp),qk npe];exact upd_same
 generalize upd (upd (upd (upd H2 st (.dK [])) pe (.lst (cut.map V.str))) ev (.lst [.ref pe])) st (.dK (stK a 0 l0 nm ev))=H3 at g3 d3 e3 o3 ⊢;have hst0:H st=none:=g1p.free hst;have hpe0:H pe=none:=g1p.free hpe2;have hev0:H ev=none:=g1p.free hev2;have g03:=g1p.trans g3;have hn3:=g3 _ _ hn1;have hp3:=g3 _ _ hp1;obtain ⟨nms,nmp,nme⟩:=old _ _ hn1;obtain ⟨pps,ppp,ppe⟩:=old _ _ hp1;have cellsOf:∀ H',qv H H'→SqL K (del H' pe) a (ns.map V.int):=fun H' g=>qv.seq (fun b o h=>by rw [JQ fun e=>by rw [e,hpe0] at h;cases h];exact g b o h) hS
 have mk:∀ H' own k' l',qv H H'→H' st=some (.dK (stK a k' l' nm ev))→H' nm=some (.lst (names.map V.str))→H' ev=some (.lst [.ref pe])→H' pe=some (.lst (own.map V.str))→own.Nodup→(∀ x∈own,x∈names)→DIn K H' z own k' l':=fun H' own k' l' g h1 h2 h3 h4 h5 h6=>
  ⟨⟨by rw [JQ nsp];exact h1,cellsOf H' g,SqL.of (by show del H' pe nm=_;rw [JQ nmp];exact h2),by show del H' pe ev=_;rw [JQ (Ne.symm npe)];exact h3,fun i p o h=>by cases h⟩,h4,good,rfl,fun o h=>(by cases h),h5,h6⟩
 have di0:DIn K H3 z cut 0 l0:=mk H3 cut 0 l0 g03 d3 hn3 e3 o3 hnd fun x hx=>(hgood x hx).2;refine ⟨(O0:0≤sizeLine),fun pb hpb=>?_⟩;have gpb:=qe hpb (.lst []);have hpb0:H pb=none:=g03.free hpb;have apart:∀ b o,H3 b=some o→b≠pb:=fun b o h e=>by rw [e,hpb] at h;cases h
 have bs:=apart _ _ d3;have be:=apart _ _ e3;have bo:=apart _ _ o3;have bn:=apart _ _ hn3;have bp:=apart _ _ hp3;refine ⟨(Iv_TreR8_0 K H a l0 names nm pp cut st z pb),⟨6,gpb _ _ hn3,gpb _ _ hp3,[],[],0,l0,0,0,[],rfl,g03.trans gpb,by rw [An];exact di0.same gpb,upd_same,.nil,.nil,.nil,.nil hl00 hl40,.nil⟩,?_⟩
 rintro m σ H4 ⟨hn4,hp4,ys,ds,k',l',s,t,br,rfl,g4,di4,hb4,rs4,ff4,pt4,wi,sb⟩;have hln:=rs4.length;refine ⟨_,rfl,st,_,rfl,di4.gL,_,_,rfl,rfl,_,rfl,?_⟩;refine qmu (fun c1 hB=>?_) ?_
 ·have c1':0<l':=A3 c1;refine ⟨_,rfl,_,_,rfl,.inl ⟨_,SqL.of hb4,rfl⟩,_,rfl,a,ns,_,rfl,di4.cells,O0,fun i1=>⟨_,_,rfl,rfl,(show (0:Int)<6 from O0),.inl ⟨_,_,rfl,rfl,_,_,rfl,rfl,_,rfl,Vd (fun c2=>?_) (fun c2=>qil hB)⟩⟩⟩;have c2':((ys.length:Nat):Int)<1+i1 % 6:=A3 c2;have c3:=Bc i1 (show (0:Int)<6 from O0);refine ⟨_,fun σ' H' h=>h,?_⟩;refine ⟨_,rfl,.inl ⟨rfl,_,SqL.of hb4⟩,_,rfl,_,rfl,st,a,nm,ev,ns,k',l',rfl,di4.dict,di4.cells,wi.2.2.2.1,(by have:=wi.2.2.2;omega),fun y H5 hz0 hz1 e5=>?_⟩
  have di5:DIn K H5 z (cut++br) (k'+1) l':=e5▸di4.put;have sy5:St2 st pe H4 H5:= .of (e5▸Stay.put di4.dict) di4.here;clear e5;have z0:=Bj y (show (6:Int)≠0 from O0);have z1:=Bc y (show (0:Int)<6 from O0);refine ⟨_,_,rfl,rfl,(show (0:Int)<6 from O0),.inl ⟨_,_,rfl,rfl,qju (z:=z) di5 (show 0+7≤12 from O0) (wi.pre (show 2+y % 6≤7 from ⋯)) fun H6 x d s2 t2 k2 l2 m2 sy6 di6 rx fx px b2 sm=>?_⟩⟩;have sy:=sy5.trans sy6;have hb6:H6 pb=some (.lst ys):=sy.rest (Ne.symm bs) (Ne.symm bo) hb4;refine ⟨pb,_,_,rfl,rfl,hb6,by have:(10:Nat)<sizeLine:=O0;omega,?_⟩
  have nx:Tre.noL d=true:=ZB px;have smm:qv H (upd H6 pb (.lst (ys++[x]))):=fun b o e=>by
   have nb:b≠pb:=fun z=>by rw [z,hpb0] at e;cases e
   have nt:b≠st:=fun z=>by rw [z,hst0] at e;cases e
   have np:b≠pe:=fun z=>by rw [z,hpe0] at e;cases e
   rw [qk nb];exact sy.rest nt np (g4 b o e)
  have hn6:upd H6 pb (.lst (ys++[x])) nm=some (.lst (names.map V.str)):=by
   rw [qk bn];exact sy.rest nms nmp hn4
  have hp6:upd H6 pb (.lst (ys++[x])) pp=some (.lst (cut.map V.str)):=by
   rw [qk bp];exact sy.rest pps ppp hp4
  have wj:Bud.WI l0 (ds++[d]).length (m - 1) (s+s2) (max t t2) k2 l2:=by
   rw [Ac];exact wi.snoc c1' ⋯ b2
  rw [Bi] at di6 sm;have di7:DIn K (upd H6 pb (.lst (ys++[x]))) z (cut++(br++m2)) k2 l2:=mk _ _ _ _ smm (by rw [qk bs];exact di6.dict) hn6 (by rw [qk be];exact di6.lst) (by rw [qk bo];exact di6.here) di6.nd di6.sub
  refine ⟨m - 1,by have:=wi.1;omega,hn6,hp6,ys++[x],ds++[d],k2,l2,s+s2,max t t2,br++m2,rfl,smm,di7,upd_same,?_,ff4.snoc fx,?_,wj,?_⟩
  ·exact Reps.put hb6 ((rs4.tp sy.tp (vC pt4)).append (.cons rx .nil)) (vC (ds:=ds++[d]) (by rw [Ah];exact pt4.append (Tre.jW px)))
  ·rw [Ah];exact pt4.append (Tre.jW px)
  ·exact sb.snoc (fun y hy=>by rw [← Bi];exact By _ hy) sm
 ·obtain ⟨hm3,hs3,ht3,hk3,hkl3,hl3⟩:=wi;refine qO rfl ?_;refine ⟨_,rfl,pp,_,rfl,.inl ⟨SqL.of hp4,fun p7 hp7=>?_⟩⟩;have g7:=qe hp7 (.tup (cut.map V.str));refine ⟨_,rfl,pb,ys,rfl,.inl ⟨SqL.of (g7 _ _ hb4),fun p8 hp8=>⟨(O0:3≤sizeLine),fun p9 hp9=>?_⟩⟩⟩;have g8:=qe hp8 (.tup ys);have g9:=qe hp9 (.tup [.str "main",.ref p7,.ref p8]);have g89:=g8.trans g9;have fcut:Tre.Fts names (cut.map PyData.str):= .of fun d hd=>by
   obtain ⟨x,hx,rfl⟩:=Bt.mp hd;exact .name (hgood x hx).1 (A7 _ (hgood x hx).2)
  refine q _ _ (.tuple [.str "main",.tuple (cut.map PyData.str),.tuple ds]) (s+1) (t+1) names ((g4.trans g7).trans g89) (.tup (SqT.of upd_same) (.cons (.str _) (.cons (.tup (g89.sqT (SqT.of upd_same)) (Reps.strs cut)) (.cons (.tup (g9.sqT (SqT.of upd_same)) ((rs4.same g7).same g89)) .nil)))) good.len (fun x hx=>good.good x hx) ?_ (Tre.qh9 hcut ⟨⋯,pt4⟩) ⋯ ⋯ (Tre.qfz (List.Perm.append_left _ sb.br) di4.nd sb.sc);exact Tre.Fts.tup (.cons (.word ∅) (.cons fcut.tup (.cons ff4.tup .nil)))
theorem J0 (t:PyData):isi (tyD t) "tuple"=Tre.jx t:=by
 cases t with
 | none=>exact (O0:isi "NoneType" "tuple"=false)
 | bool _=>exact (O0:isi "bool" "tuple"=false)
 | int _=>exact (O0:isi "int" "tuple"=false)
 | str _=>exact (O0:isi "str" "tuple"=false)
 | list _=>exact (O0:isi "list" "tuple"=false)
 | tuple _=>exact (O0:isi "tuple" "tuple"=true)
 | dict _=>exact (O0:isi "dict" "tuple"=false)
theorem qgw (x:PyData) (r:List PyData):isi (tyD x) "str"=Tre.wT (.tuple (x::r)):=by
 cases x with
 | none=>exact (O0:isi "NoneType" "str"=false)
 | bool _=>exact (O0:isi "bool" "str"=false)
 | int _=>exact (O0:isi "int" "str"=false)
 | str _=>exact (O0:isi "str" "str"=true)
 | list _=>exact (O0:isi "list" "str"=false)
 | tuple _=>exact (O0:isi "tuple" "str"=false)
 | dict _=>exact (O0:isi "dict" "str"=false)
theorem QW (h:Str):inV (.str h) [.str "main",.str "fun",.str "loop"]=Tre.holds h:=by
 have c:∀ a b:Str,(a==b)=(b==a):=fun a b=>by
  rw [Ca,A4,A4];exact eq_comm
 unfold inV Tre.holds;rw [Cw,Cw,Cw,List.any_nil,Ea];show (((("main":Str)==h))||((("fun":Str)==h)||(("loop":Str)==h)))=_;rw [c,c "fun",c "loop"]
theorem qey {a:Addr} {tt:TT} {σ:St} {H H0:Hp} {Q:VK} {xs:List V} {ds:List PyData} (hq:SqT K H a xs) (hr:Reps K H0 xs ds) (p:PyData→Bool) (hz:ds.length≤sizeLine)
  (step:∀ (x:V) (d:PyData) (R:Bool→Hp→Prop),Rep K H0 x d→R (p d) H→tt [some x] H R) (fin:∀ D vs,H D=none→Reps K H0 vs (ds.filter p)→Q (.ref D) (upd H D (.lst vs))):YY (Itt K a) [none] (qm 0) tt (qg 0) σ H Q:=by
 have hlen:=hr.length;refine zD ds.length (fun i ys H'=>H'=H∧Reps K H0 ys ((ds.take i).filter p)∧ys.length≤i) ⟨rfl,.nil,Ag _⟩ (fun i ys H' h=>h.2.2) hz (fun i ys H' hi h=>?_) (fun ys H' h=>?_)
 ·obtain ⟨rfl,rr,hy⟩:=h;have hx:xs[i]?=some xs[i]:=Af ⋯;refine ⟨⟨xs,xs[i],hq,hx⟩,fun v H2 yl=>?_⟩;obtain ⟨rfl,hv⟩:=yl;have e:=(hx.symm.trans (hv xs hq));cases e;obtain ⟨d,hd,rd⟩:=hr.get hx;have e2:(ds.take (i+1)).filter p=(ds.take i).filter p++(if p d=true then [d] else []):=by
   rw [Bb,hd,List.filter_append]
   congr 1
   show List.filter p [d]=_
   by_cases z:p d=true
   ·rw [if_pos z,List.filter_cons,if_pos z,List.filter_nil]
   ·rw [if_neg z,List.filter_cons,if_neg z,List.filter_nil]
  refine step _ d _ rd (Vd (fun z=>⟨_,rfl,rfl,?_,?_⟩) (fun z=>⟨rfl,?_,Dk hy⟩))
  ·rw [e2,if_pos z];exact rr.append (.cons rd .nil)
  ·rw [Ac];exact B7 hy
  ·rw [e2,if_neg z,An];exact rr
 ·obtain ⟨rfl,rr,_⟩:=h;rw [Bo] at rr;refine ⟨⟨xs,hq,⋯⟩,fun D hD=>fin D ys hD rr⟩
theorem ZO {H H0 H6:Hp} {a a1 pf:Addr} {vs1 zs:List V} {xs pre more:List PyData} {i:Nat} {o3:Option V} {D:Ends} (gA:qv H0 H6) (g2:qv H H6) (hq1:SqT K H0 a1 vs1) (rs1:Reps K H0 vs1 xs) (x12:xs.length≤12) (h0:H6 pf=some (.lst zs)) (rz:Reps K H0 zs pre) (hz:zs.length≤12*i) (hi:i<6) (ei:more=xs.filter Tre.jx) (m12:more.length≤12)
  (hD:∀ (p3:Addr) (zs':List V) (H':Hp),qv H6 H'→H p3=none→H' p3=some (.lst zs')→Reps K H0 zs' (pre++more)→zs'.length≤12*(i+1)→D.nx [some (.ref a),some (.ref p3),some (.ref a1),o3] H'):
  zJ (tB (tCB (fun xs H Q=>∃ x d T,xs=[x,V.ty T]∧Rep K H x d∧T∈["bool","int","str","list","tuple"]∧Q (V.bl (isi (tyD d) T)) H) (qf (qg 2) (qf (tC (V.ty "tuple")) qp)))) (qP (tOp jh (qg 1) (jM (jD K (qg 2)) [none] (qm 0) (tB (tCB (fun xs H Q=>∃ x d T,xs=[x,V.ty T]∧Rep K H x d∧T∈["bool","int","str","list","tuple"]∧Q (V.bl (isi (tyD d) T)) H) (qf (qg 0) (qf (tC (V.ty "tuple")) qp)))) (qg 0))) (qm 1)) zu D [some (.ref a),some (.ref pf),some (.ref a1),o3] H6:=by
 have rt:Rep K H6 (.ref a1) (.tuple xs):=(Rep.tup hq1 rs1).same gA;refine ⟨_,rfl,_,_,"tuple",rfl,rt,O0,_,rfl,qX ((J0 _).trans rfl) ?_⟩;refine ⟨_,rfl,_,rfl,.inr (.inl ⟨a1,rfl,⟨_,gA.sqT hq1⟩,qey (gA.sqT hq1) rs1 Tre.jx (A0 x12 O0) (fun x d R rd hR=>⟨_,rfl,_,d,"tuple",rfl,rd.same gA,O0,_,rfl,by rw [J0];exact hR⟩) (fun L vs hL rv=>?_)⟩)⟩
 have gD:=qe hL (.lst vs);have hvl:=rv.length;rw [← ei] at hvl rv;refine .inr (.inr ⟨pf,L,zs,vs,rfl,rfl,gD _ _ h0,upd_same,by have:(200:Nat)<sizeLine:=O0;omega,fun p3 hp3=>?_⟩)
 refine hD p3 (zs++vs) _ (gD.trans (qe hp3 _)) ((g2.trans gD).free hp3) upd_same (rz.append rv) ?_;rw [Ac];omega
inductive spLI (K:Frag) (vs:List V) (H:Hp) (Q:VK) (E':XK):Prop
 | mk:∀ x d s t H0,(vs=[x])→(qv H0 H)→(Rep K H0 x d)→(Tre.Tr d s t)→(t≤30)→(∀ H' p zs,qv H H'→H p=none→H' p=some (.lst zs)→Reps K H0 zs (Tre.qL d)→Q (.ref p) H')→spLI K vs H Q E'
inductive Iv_TreS_0 (K:W.Frag) (H:Hp) (H0:Hp) (ts:List PyData) (fs:List Str) (a:Addr) (ys:List V) (p1:Addr) (i:Nat) (σ:St) (H':Hp):Prop
 | mk:∀ pf zs o2 o3,(σ=[some (.ref a),some (.ref pf),o2,o3])→(qv H H')→(H pf=none)→(H' p1=some (.tup ys))→(H' pf=some (.lst zs))→(Reps K H0 zs (((ts.zip fs).take i).flatMap fun p=>(Tre.qj p.1 p.2).map (·.1)))→(zs.length≤12*i)→Iv_TreS_0 K H H0 ts fs a ys p1 i σ H'
def Xp (K:Frag):TS:=qP (tOp jh (qg 1) (jM (jD K (qg 2)) [none] (qm 0) (tB (tCB (fun xs H Q=>∃ x d T,xs=[x,V.ty T]∧Rep K H x d∧T∈["bool","int","str","list","tuple"]∧Q (V.bl (isi (tyD d) T)) H) (qf (qg 0) (qf (tC (V.ty "tuple")) qp)))) (qg 0))) (qm 1)
def Xo (K:Frag):TS:=zz (tBM K "list" zM (qg 1) (qf (qg 2) qp))
def Xn (K:Frag):TS:=zJ (tB (tCB (fun xs H Q=>∃ x d T,xs=[x,V.ty T]∧Rep K H x d∧T∈["bool","int","str","list","tuple"]∧Q (V.bl (isi (tyD d) T)) H) (qf (qg 2) (qf (tC (V.ty "tuple")) qp)))) (Xp K) zu
def Xm (K:Frag):TS:=zJ (wF (tB (qg 3)) (qJ (tOp (rIn K true) (tOp (rIx K) (qg 0) (tC (V.int 0))) (Ji (qf (tC (V.str "main")) (qf (tC (V.str "fun")) (qf (tC (V.str "loop")) qp))))))) (Xo K) (Xn K)
def Xl (K:Frag):TS:=qB (qP (WK (tCB (fun xs H Q=>∃ x d T,xs=[x,V.ty T]∧Rep K H x d∧T∈["bool","int","str","list","tuple"]∧Q (V.bl (isi (tyD d) T)) H) (qf (qg 2) (qf (tC (V.ty "tuple")) qp))) (WK (tOp (qh4 K) (qg 2) (Ji qp)) (tCB (fun xs H Q=>∃ x d T,xs=[x,V.ty T]∧Rep K H x d∧T∈["bool","int","str","list","tuple"]∧Q (V.bl (isi (tyD d) T)) H) (qf (tOp (rIx K) (qg 2) (tC (V.int 0))) (qf (tC (V.ty "str")) qp))))) (qm 3)) (Xm K)
def Xk (K:Frag):TS:=qB (Jv (jD K (tSl (qbf K) (qg 0) (yO (tC (V.int 1))) wb)) (qm 2) (Xl K)) (zV (qg 1))
theorem Zx (F:Fun K "_law_inner" "_law_inner" JU f fd) (c:Cs K mg ad):FnOk P w K mg base CX0 1 f fd ["_law_part"] (spLI K):=by
 refine F.ok jP (fun vs H Q E h=>?_) (fun cdv A outer s H vs Q E hr h=>?_)
 ·obtain ⟨x,d,s,t,H0,rfl,_⟩:=h;rfl
 obtain ⟨x,d,s,t,H0,rfl,gH,hk,tr,ht,q⟩:=h;have hu64:=hr.units;refine ⟨_,(qd (pst 1 jP.nd (zg qc))
   (qd (zT Bh rfl (j5 (K:=K) rfl (JM (qbb (K:=K) rfl) (pv 0) (JY qh) Vr)) (pgn 2 jP.nd) (qd (pst 3 jP.nd (v7 (qx (jt (K:=K) rfl) (by rfl) c.isinstance_ qH (qb (pv 2) (qb (Js c.tuple_ zx) qc))) (v7 (Jf (qjo (K:=K) rfl hu64) (pv 2) (qQ qc) (qz _)) (V1 (qx (jt (K:=K) rfl) (by rfl) c.isinstance_ qH (qb (pix K (pv 2) qh) (qb (Js c.str_ w4) qc)))))))
   (qi (qK (PW.pt (J8 (jg (pv 3)) (JA (qr (Ya (K:=K) rfl) (pix K (pv 0) qh) (qQ (qb qq (qb qq (qb qq qc)))) rfl)))) (qi (qT (Jn (K:=K) rfl Ax Bu Bs zC (pv 1) (qb (pv 2) qc)))) (qi (qK (jg (qx (jt (K:=K) rfl) (by rfl) c.isinstance_ qH (qb (pv 2) (qb (Js c.tuple_ zx) qc)))) (qi (pst 1 jP.nd (qt zi (pv 1) (zX (sc:=ql JU) (NX:=["_law_part","_law_found","_law_thing","_law_is_part"]) (N:=["_law_one"]) (js:=[none]) (j5 (K:=K) rfl (pv 2)) (fun _ _ _ _ _=>(zh (i:=0) (show (["_law_one"]:List Str).Nodup from ∅) rfl (Or.inl rfl))) (fun _ _ _ _ _=>(qbh (jg (qx (jt (K:=K) rfl) (by rfl) c.isinstance_ qH (qb (pv 0) (qb (Js c.tuple_ zx) qc)))))) (fun _ _ _ _ _=>(pv 0)) (zA rfl) ⟨∅,rfl,∅,∅,rfl,∅⟩)))) qy))))))
   (qi (qw (pv 1))))),?_⟩
 show qB (qP (Ju qp) (qm 1)) (Xk K) _ _ _;clear hu64;have gd:=tr.gd;refine tr.el fun sh hands s' t' es et hf tl=>?_;obtain ⟨hd,ts,fs,l,rfl,_,_,e,h5,hl,hs,_⟩:=Tre.qZ hf;have kf:=tl.forms;have ek:Tre.qL (.tuple (.str hd::ts))=(ts.zip fs).flatMap fun p=>(Tre.qj p.1 p.2).map (·.1):=by
  unfold Tre.qL;rw [Tre.qY e,List.map_flatMap]
 refine hk.tp1 fun a ys ex hq rs=>?_;subst ex;have hys:=rs.length;refine ⟨(O0:0≤sizeLine),fun p0 hp0=>?_⟩;have g0:=qe hp0 (.lst []);refine ⟨_,rfl,_,rfl,.inr (.inr ⟨a,_,rfl,(gH.trans g0).sqT hq,ZQ _ _,fun p1 hp1=>?_⟩)⟩;rw [qlk];have g1:=g0.trans (qe hp1 (.tup ys));have n01:p0≠p1:=qD upd_same hp1;refine .inr (.inl ⟨p1,rfl,⟨ys,SqT.of upd_same⟩,?_⟩);refine Ym rs (Iv_TreS_0 K H H0 ts fs a ys p1) ?_ (fun i σ H' h=>?_) (fun i σ H3 v t hi hti rt h D' hn _=>?_) (fun σ H2 h=>?_)
 ·exact ⟨p0,[],none,none,rfl,g1,hp0,upd_same,by rw [qk n01];exact upd_same,.nil,Ag _⟩
 ·obtain ⟨pf,zs,o2,o3,rfl,g2,hpf,h1,h0,rz,hz⟩:=h;exact SqT.of h1
 ·obtain ⟨pf,zs,o2,o3,rfl,g2,hpf,h1,h0,rz,hz⟩:=h;obtain ⟨f,hfi⟩:=Vf (l:=fs) (i:=i) ⋯;have hzi:(ts.zip fs)[i]?=some (t,f):=by rw [D3];exact ⟨hti,hfi⟩
  have hmem:=Ay hzi;have hkin:∀ z∈Tre.qj t f,z.1∈Tre.qL (.tuple (.str hd::ts)):=fun z hz=>by
   rw [ek];exact Cj.mpr ⟨_,hmem,B9 hz⟩
  have it:=Tre.qis (t:=t) (f:=f) e (Ay hfi) (hs _ hmem) fun z hz=>kf z.1 (hkin z hz);have i12:(Tre.qj t f).length≤12:=Tre.Yf (hs _ hmem);have gt:Tre.Gd 64 t:=(gd.mem t (A9 _ (Ay hti))).mono ⋯;have tk:((ts.zip fs).take (i+1)).flatMap (fun p=>(Tre.qj p.1 p.2).map (·.1))=((ts.zip fs).take i).flatMap (fun p=>(Tre.qj p.1 p.2).map (·.1))++(Tre.qj t f).map (·.1):=by
   rw [Bb,hzi,Ck]
   congr 1
   show List.flatMap _ [(t,f)]=_;rw [C1,List.flatMap_nil,An]
  have gA:=gH.trans g2;have npf:p1≠pf:=fun z=>by rw [z,h0] at h1;cases h1
  have rt3:=rt.same gA;rcases it with ⟨tn,ei⟩ | ⟨tp,nh,ei⟩ | ⟨xs,rfl,nb,x12,ei⟩
  ·refine ⟨_,rfl,_,t,"tuple",rfl,rt3,O0,_,rfl,qO ((J0 t).trans tn) ?_⟩;refine ⟨_,rfl,_,rfl,qO rfl (qO rfl ?_)⟩;refine ⟨_,rfl,_,t,"tuple",rfl,rt3,O0,_,rfl,qO ((J0 t).trans tn) ?_⟩;refine hn _ _ ⟨pf,zs,_,_,rfl,g2,hpf,h1,h0,?_,⋯⟩;rw [tk,ei,An];exact rz
  ·obtain ⟨z,r,rfl⟩:∃ z r,t= .tuple (.str z::r):=by
    cases t with
    | tuple xs=>
     cases xs with
     | nil=>cases tp
     | cons x r=>
      cases x with
      | str z=>exact ⟨z,r,rfl⟩
      | _=>cases tp
    | _=>cases tp
   refine rt.tp1 fun a1 vs1 e1 hq1 rs1=>?_;subst e1;refine ⟨_,rfl,_,_,"tuple",rfl,rt3,O0,_,rfl,qX ((J0 _).trans rfl) ?_⟩;refine ⟨_,rfl,(O0:0≤sizeLine),fun p2 hp2=>?_⟩;have g3:=qe hp2 (.tup []);refine ⟨_,.tuple [],rt3.same g3,.tup (SqT.of upd_same) .nil,gt.shaped (Ag _),O0,_,rfl,qX rfl ?_⟩;refine ⟨_,rfl,.inr (.inl ⟨a1,_,0,_,rfl,rfl,(gA.trans g3).sqT hq1,qo (j:=0) rfl,_,.str z,"str",rfl,.str _,O0,?_⟩)⟩;generalize hH4:upd H3 p2 (.tup [])=H4 at g3 ⊢;refine ⟨_,rfl,_,rfl,qX (show isi "str" "str"=true from O0) ?_⟩;refine ⟨_,rfl,.inr (.inl ⟨a,_,0,_,rfl,rfl,(gA.trans g3).sqT hq,qo (j:=0) rfl,(O0:3≤sizeLine),fun p3 hp3=>?_⟩)⟩;have g4:=qe hp3 (.tup [.str "main",.str "fun",.str "loop"]);refine ⟨p3,_,rfl,.inr (SqT.of upd_same),rfl,rfl,_,rfl,qX (show (!inV _ _)=true by rw [QW,nh];rfl) ?_⟩
   have g5:=g3.trans g4;generalize upd H4 p3 (.tup [.str "main",.str "fun",.str "loop"])=H5 at g5 ⊢;refine ⟨_,rfl,.inl ⟨rfl,_,SqL.of (g5 _ _ h0)⟩,_,rfl,pf,_,_,rfl,rfl,g5 _ _ h0,by have:(100:Nat)<sizeLine:=O0;omega,?_⟩
   refine hn _ _ ⟨pf,_,_,_,rfl,qE (g2.trans g5) hpf _,hpf,by rw [qk npf];exact g5 _ _ h1,upd_same,?_,?_⟩
   ·rw [tk,ei];exact rz.append (.cons (.tup hq1 (.cons (.str _) rs1)) .nil)
   ·rw [Ac,Av];omega
  ·refine rt.tpl fun a1 vs1 e1 hq1 rs1=>?_;subst e1;refine ⟨_,rfl,_,_,"tuple",rfl,rt3,O0,_,rfl,qX ((J0 _).trans rfl) ?_⟩;refine ⟨_,rfl,(O0:0≤sizeLine),fun p2 hp2=>?_⟩;have g3:=qe hp2 (.tup []);refine ⟨_,.tuple [],rt3.same g3,.tup (SqT.of upd_same) .nil,gt.shaped (Ag _),O0,_,rfl,?_⟩;generalize upd H3 p2 (.tup [])=H4 at g3 ⊢;cases xs with
   | nil=>
    refine qO rfl ?_;refine ⟨_,rfl,_,rfl,qO rfl (qO rfl ?_)⟩;generalize H4=H6 at g3 ⊢;have g6:=g3;exact ZO (gA.trans g6) (g2.trans g6) hq1 rs1 x12 (g6 _ _ h0) rz hz ⋯ ei (by rw [Ab];exact i12) (fun p3 zs' H' g hp3 h3 rr hl=>hn _ _ ⟨p3,zs',_,_,rfl,g2.trans (g6.trans g),hp3,(g6.trans g) _ _ h1,h3,by rw [tk];exact rr,hl⟩)
   | cons x0 r=>
    cases hrs:rs1 with
    | @cons y1 vs2 _ _ r1 rs2=>
     refine qX rfl ?_;refine ⟨_,rfl,.inr (.inl ⟨a1,_,0,_,rfl,rfl,(gA.trans g3).sqT hq1,qo (j:=0) rfl,_,x0,"str",rfl,r1.same (gA.trans g3),O0,?_⟩)⟩;refine ⟨_,rfl,_,rfl,?_⟩;have eb:=qgw x0 r
     by_cases hb:Tre.wT (.tuple (x0::r))=true
     ·have hh:Tre.holds hd=true:=by
       rw [hb,Cv] at nb;simpa using nb
      refine qX (eb.trans hb) ?_;refine ⟨_,rfl,.inr (.inl ⟨a,_,0,_,rfl,rfl,(gA.trans g3).sqT hq,qo (j:=0) rfl,(O0:3≤sizeLine),fun p3 hp3=>?_⟩)⟩;have g4:=qe hp3 (.tup [.str "main",.str "fun",.str "loop"]);refine ⟨p3,_,rfl,.inr (SqT.of upd_same),rfl,rfl,_,rfl,qO (show (!inV _ _)=false by rw [QW,hh];rfl) ?_⟩
      have g6:=g3.trans g4;generalize upd H4 p3 (.tup [.str "main",.str "fun",.str "loop"])=H6 at g6 ⊢;exact ZO (gA.trans g6) (g2.trans g6) hq1 rs1 x12 (g6 _ _ h0) rz hz ⋯ ei (by rw [Ab];exact i12) (fun p3 zs' H' g hp3 h3 rr hl=>hn _ _ ⟨p3,zs',_,_,rfl,g2.trans (g6.trans g),hp3,(g6.trans g) _ _ h1,h3,by rw [tk];exact rr,hl⟩)
     ·refine qO (eb.trans (Bz.mpr hb)) (qO rfl ?_);generalize H4=H6 at g3 ⊢;have g6:=g3;exact ZO (gA.trans g6) (g2.trans g6) hq1 rs1 x12 (g6 _ _ h0) rz hz ⋯ ei (by rw [Ab];exact i12) (fun p3 zs' H' g hp3 h3 rr hl=>hn _ _ ⟨p3,zs',_,_,rfl,g2.trans (g6.trans g),hp3,(g6.trans g) _ _ h1,h3,by rw [tk];exact rr,hl⟩)
 ·obtain ⟨pf,zs,o2,o3,rfl,g2,hpf,h1,h0,rz,hz⟩:=h;refine ⟨_,rfl,q _ pf zs g2 hpf h0 ?_⟩;rw [ek];rw [Do (by rw [Ee];omega)] at rz
  exact rz
end
end Mine
namespace L2
open PySem PySem.Spec PyProof.Rows
theorem Reps.rev {K:Frag} {H:Hp}:∀ {xs:List V} {ds:List PyData},Reps K H xs ds→Reps K H xs.reverse ds.reverse
 | _,_,.nil=> .nil
 | _,_,.cons h t=>by
  rw [C0,C0];exact (Reps.rev t).append (.cons h .nil)
end L2
namespace Mine
open PySem L2
structure Tb2 (K:Frag) (mg:Str→Option Value):Prop where
 INNER_KINDS:∃ a,mg "INNER_KINDS"=some (.ref a)∧∀ H:Hp,SqT K H a ((["fun","loop"]:List Str).map V.str)
section
variable {P:Program} {w:World} {K:Frag} {mg:Str→Option Value} {base:Heap} {f:Addr} {fd:FuncData} {ad:Ad}
theorem QV (h:Str):(decide (V.str h=V.str "main")||inV (.str h) [.str "fun",.str "loop"])=Tre.holds h:=by
 have c:∀ a b:Str,(a==b)=(b==a):=fun a b=>by
  rw [Ca,A4,A4];exact eq_comm
 have e:decide (V.str h=V.str "main")=(h=="main"):=by
  rw [Ca,decide_eq_true_iff,A4];exact ⟨fun z=>V.str.inj z,fun z=>congrArg V.str z⟩
 unfold inV Tre.holds;rw [e,Cw,Cw,List.any_nil,Ea];show (_||((("fun":Str)==h)||(("loop":Str)==h)))=_;rw [c "fun",c "loop"]
theorem vg:∀ {xs:List PyData} {x:PyData},Tre.zH xs=true→Tre.noL x=true→Tre.zH (xs++[x])=true
 | [],x,_,h=>by
  show Tre.zH [x]=true;rw [Tre.zH,Tre.zH,h];rfl
 | y::r,x,h,h'=>by
  rw [Tre.zH,Ae] at h;rw [C4,Tre.zH,h.1,vg h.2 h'];rfl
theorem QK:∀ {xs:List PyData},Tre.zH xs=true→Tre.zH xs.reverse=true
 | [],_=>rfl
 | y::r,h=>by
  rw [Tre.zH,Ae] at h;rw [C0];exact vg (QK h.2) h.1
inductive spFuns (K:Frag) (vs:List V) (H:Hp) (Q:VK) (E':XK):Prop
 | mk:∀ x d s t,(vs=[x])→(Rep K H x d)→(Tre.fit d=true)→(Tre.Pt d "program" false s t)→(s≤300)→(t≤20)→(∀ H' p zs,qv H H'→H p=none→H' p=some (.lst zs)→Reps K H' zs (Tre.funs d)→Q (.ref p) H')→spFuns K vs H Q E'
inductive PvF (K:Frag) (H:Hp) (x:V) (pf pa:Addr) (fin:List PyData) (m:Nat) (σ:St) (H':Hp):Prop
 | mk:∀ (zs vs:List V) (acc:List PyData) (tops:List (PyData×PyData)) (o3 o4 o5:Option V),(σ=[some x,some (.ref pf),some (.ref pa),o3,o4,o5])→(qv H H')→(H' pf=some (.lst zs))→(H' pa=some (.lst vs.reverse))→(Reps K H' zs acc)→(Reps K H' vs (tops.map Tre.wk))→(Tre.Stk tops m)→(Tre.zH acc=true)→(Tre.qae tops acc=fin)→(acc.length+m≤300)→PvF K H x pf pa fin m σ H'
theorem qg8 {H H4:Hp} {x yo:V} {pf pa a2:Addr} {fin:List PyData} {o3:Option V} {zs4 vs':List V} {acc4:List PyData} {r:List (PyData×PyData)} {d1 o':PyData} {sh:Str} {hands:Bool} {s0 t0 m1:Nat} {D:Ends}
  (npa:pf≠pa) (hpa0:H pa=none) (g4:qv H H4) (hz4:H4 pf=some (.lst zs4)) (hv4:H4 pa=some (.lst vs'.reverse)) (rz4:Reps K H4 zs4 acc4) (rv4:Reps K H4 vs' (r.map Tre.wk)) (rd4:Rep K H4 (.ref a2) d1) (ro4:Rep K H4 yo o') (go:Tre.Gd 0 o') (nol4:Tre.zH acc4=true)
  (hf1:Tre.qI d1 sh hands=true) (tl:Tre.Trl (Tre.qL d1) s0 t0) (ht:t0≤19) (stk1:Tre.Stk r m1) (hlen:acc4.length+(s0+m1)≤300) (hfin:Tre.qae r (Tre.jf 30 (Tre.qL d1) o' acc4)=fin) (hD:∀ σ' H',PvF K H x pf pa fin (s0+m1) σ' H'→D.nx σ' H'):
  zz (tBM K "list" jU (qg 2) (qf (jM (qld K (qf (qG (spInnerOf K) [] E0 (qf (qg 4) qp)) qp)) [none,some 5] (qm 0) vQ (Ji (qf (qg 0) (qf (qg 1) qp)))) qp)) D [some x,some (.ref pf),some (.ref pa),o3,some (.ref a2),some yo] H4:=by
 have k60:=Tre.qcv hf1;have hvl:=rv4.length;rw [Ab] at hvl;have skl:=stk1.len;have big:(2000:Nat)<sizeLine:=O0;refine ⟨_,rfl,.inl ⟨rfl,_,SqL.of hv4⟩,_,rfl,_,d1,sh,hands,H4,rfl,qv.refl _,rd4,hf1,fun H5 p5 ks g5 hp5 hl5 rk=>⟨p5,ks,rfl,SqL.of hl5,?_⟩⟩;have hkl:=rk.length;refine zD ks.length (fun i ys H'=>qv H5 H'∧Reps K H' ys (((Tre.qL d1).reverse.take i).map fun e=>Tre.wk (e,o'))) ⟨qv.refl _,.nil⟩ (fun i ys H' h=>?_) ⋯ (fun i ys H' hi h=>?_) (fun ys H' h=>?_)
 ·rw [h.2.length,Ab];exact B0 _ _
 ·obtain ⟨g6,ry⟩:=h;refine ⟨⟨hi,ks,SqL.of (g6 _ _ hl5),rfl⟩,fun v H6 yl=>?_⟩;obtain ⟨rfl,hv⟩:=yl;have hx:=hv ks (SqL.of (g6 _ _ hl5));obtain ⟨e,he,re⟩:=rk.get hx;have hre:(Tre.qL d1).reverse[i]?=some e:=by
   rw [List.getElem?_reverse ⋯,← hkl];exact he
  refine ⟨_,rfl,_,rfl,(O0:2≤sizeLine),fun p hp=>⟨g6.trans (qe hp _),?_⟩⟩;have g7:=qe hp (.tup [v,yo]);rw [Bb,hre,Ah];exact (ry.same g7).append (.cons (.tup (SqT.of upd_same) (.cons (re.same ((g5.trans g6).trans g7)) (.cons (ro4.same ((g5.trans g6).trans g7)) .nil))) .nil)
 ·obtain ⟨g6,ry⟩:=h;rw [Do (by rw [Bf];omega)] at ry
  have hyl:=ry.length;rw [Ab,Bf] at hyl;refine ⟨by show ks.length≤ks.length;exact Ag _,fun L hL=>?_⟩
  have gL:=(g5.trans g6).trans (qe hL (.lst ys));have hvL:=gL _ _ hv4;refine ⟨pa,L,vs'.reverse,ys,rfl,rfl,hvL,upd_same,by rw [Bf];omega,hD _ _ ?_⟩
  have nps:Tre.zH ((Tre.qL d1).reverse.map fun e=>Tre.wk (e,o'))=true:=by
   have q:=(Tre.Stk.push go .nil tl ⋯).nol;rw [An,Bx] at q;rw [List.map_reverse];exact QK q
  refine ⟨zs4,ys.reverse++vs',acc4,(Tre.qL d1).map (fun e=>(e,o'))++r,_,_,_,rfl,qE (g4.trans gL) hpa0 _,by rw [qk npa];exact gL _ _ hz4,?_,Reps.put hvL (rz4.same gL) nol4,?_,Tre.Stk.push go stk1 tl ⋯,nol4,by rw [Tre.qb1];exact hfin,hlen⟩
  ·rw [upd_same,List.reverse_append,List.reverse_reverse]
  ·rw [Ah,Bx];have r1:=Reps.put (o':= .lst (vs'.reverse++ys)) hvL (ry.same (qe hL (.lst ys))) nps;have r2:=r1.rev;rw [List.map_reverse,List.reverse_reverse] at r2;exact r2.append (Reps.put hvL (rv4.same gL) stk1.nol)
theorem qka {H H3:Hp} {x y2 ya yb:V} {pf pa a2:Addr} {o3:Option V} {zs vs':List V} {acc:List PyData} {r:List (PyData×PyData)} {hd:Str} {da db o1:PyData} {D:Ends} (npa:pf≠pa) (hpf0:H pf=none) (g3:qv H H3) (hz3:H3 pf=some (.lst zs)) (hv3:H3 pa=some (.lst vs'.reverse)) (rz3:Reps K H3 zs acc) (rv3:Reps K H3 vs' (r.map Tre.wk))
  (nrv:Tre.zH (r.map Tre.wk)=true) (hq2:SqT K H3 a2 [.str hd,ya,yb]) (ra:Rep K H3 ya da) (rb:Rep K H3 yb db) (ro:Rep K H3 y2 o1) (nd:Tre.noL (.tuple [.str hd,da,db])=true) (nfn:Tre.noL (.tuple [.str hd,da,db,o1])=true) (nol:Tre.zH acc=true) (hlen:acc.length≤1000)
  (hD:∀ H4 zs4,qv H H4→H4 pf=some (.lst zs4)→H4 pa=some (.lst vs'.reverse)→Reps K H4 zs4 (acc++[.tuple [.str hd,da,db,o1]])→Reps K H4 vs' (r.map Tre.wk)→Rep K H4 (.ref a2) (.tuple [.str hd,da,db])→D.nx [some x,some (.ref pf),some (.ref pa),o3,some (.ref a2),some (.int (acc.length:Nat))] H4):
  qB (zz (tBM K "list" zM (qg 1) (qf (Ji (qf (tOp (rIx K) (qg 4) (tC (V.int 0))) (qf (tOp (rIx K) (qg 4) (tC (V.int 1))) (qf (tOp (rIx K) (qg 4) (tC (V.int 2))) (qf (qg 5) qp))))) qp)))
   (qP (tOp (rI0 fun i j=>V.int (i - j)) (tCB (fun xs H Q=>∃ x n,xs=[x]∧Vo K x H n∧Q (V.int ↑n) H) (qf (qg 1) qp)) (tC (V.int 1))) (qm 5)) D [some x,some (.ref pf),some (.ref pa),o3,some (.ref a2),some y2] H3:=by
 have hzl:=rz3.length;have big:(2000:Nat)<sizeLine:=O0;refine ⟨_,rfl,.inl ⟨rfl,_,SqL.of hz3⟩,_,rfl,.inr (.inl ⟨a2,_,0,_,rfl,rfl,hq2,qo (j:=0) rfl,_,rfl,.inr (.inl ⟨a2,_,1,_,rfl,rfl,hq2,qo (j:=1) rfl,_,rfl,.inr (.inl ⟨a2,_,2,_,rfl,rfl,hq2,qo (j:=2) rfl,_,rfl,(O0:4≤sizeLine),fun p4 hp4=>?_⟩)⟩)⟩)⟩;have gn:=qe hp4 (.tup [.str hd,ya,yb,y2]);have hzn:=gn _ _ hz3;refine ⟨pf,_,_,rfl,rfl,hzn,⋯,?_⟩;have rz4:=Reps.put (o':= .lst (zs++[.ref p4])) hzn ((rz3.same gn).append (.cons (.tup (ds:=[.str hd,da,db,o1]) (SqT.of upd_same) (.cons (.str _) (.cons (ra.same gn) (.cons (rb.same gn) (.cons (ro.same gn) .nil))))) .nil)) (vg nol nfn);have rv4:=Reps.put (o':= .lst (zs++[.ref p4])) hzn (rv3.same gn) nrv;have rd4:=Rep.put (o':= .lst (zs++[.ref p4])) hzn ((Rep.tup hq2 (.cons (.str _) (.cons ra (.cons rb .nil)))).same gn) nd;have g4:=qE (g3.trans gn) hpf0 (.lst (zs++[.ref p4]));have hz4:upd (upd H3 p4 (.tup [.str hd,ya,yb,y2])) pf (.lst (zs++[.ref p4])) pf=some (.lst (zs++[.ref p4])):=upd_same;have hv4:upd (upd H3 p4 (.tup [.str hd,ya,yb,y2])) pf (.lst (zs++[.ref p4])) pa=some (.lst vs'.reverse):=by rw [qk (Ne.symm npa)];exact gn _ _ hv3
 dsimp only;generalize upd (upd H3 p4 (.tup [.str hd,ya,yb,y2])) pf (.lst (zs++[.ref p4]))=H4 at rz4 rv4 rd4 g4 hz4 hv4 ⊢;refine ⟨_,rfl,_,_,rfl,.inl ⟨_,SqL.of hz4,rfl⟩,_,_,rfl,rfl,?_⟩;have eo:(((zs++[V.ref p4]).length:Nat):Int) - 1=((acc.length:Nat):Int):=by rw [Ac,Av,hzl];omega
 dsimp only;rw [eo];exact hD H4 _ g4 hz4 hv4 rz4 rv4 rd4
def WE (K:Frag):TS:=qP (tOp (rI0 fun i j=>V.int (i - j)) (tCB (fun xs H Q=>∃ x n,xs=[x]∧Vo K x H n∧Q (V.int ↑n) H) (qf (qg 1) qp)) (tC (V.int 1))) (qm 5)
def WD (K:Frag):TS:=qB (zz (tBM K "list" zM (qg 1) (qf (Ji (qf (tOp (rIx K) (qg 4) (tC (V.int 0))) (qf (tOp (rIx K) (qg 4) (tC (V.int 1))) (qf (tOp (rIx K) (qg 4) (tC (V.int 2))) (qf (qg 5) qp))))) qp))) (WE K)
def WC (K:Frag):TS:=zz (tBM K "list" jU (qg 2) (qf (jM (qld K (qf (qG (spInnerOf K) [] E0 (qf (qg 4) qp)) qp)) [none,some 5] (qm 0) vQ (Ji (qf (qg 0) (qf (qg 1) qp)))) qp))
def WB (K:Frag):TS:=qB (zJ (tOr (qJ (tOp rEq (tOp (rIx K) (qg 4) (tC (V.int 0))) (tC (V.str "main")))) (qJ (tOp (rIn K false) (tOp (rIx K) (qg 4) (tC (V.int 0))) (tGT K [Str.ofString "fun",Str.ofString "loop"])))) (WD K) zu) (WC K)
def WA (K:Frag):TS:=qB (qP (tOp (rIx K) (qg 3) (tC (V.int 1))) (qm 5)) (WB K)
def Wz (K:Frag):TS:=qB (qP (tOp (rIx K) (qg 3) (tC (V.int 0))) (qm 4)) (WA K)
def Wy (K:Frag):TS:=qB (qP (qfk K "list" qh3 (qg 2)) (qm 3)) (Wz K)
def Wx (K:Frag):TS:=qB (vk (fun σ H Q=>qg 2 σ H fun x H'=>∃ k,qe6 K x H' k∧Q k H') (Wy K)) (zV (qg 1))
def Ww (K:Frag):TS:=qB (qP (Ju (qf (Ji (qf (qg 0) (qf (tC V.non) qp))) qp)) (qm 2)) (Wx K)
def Wv (K:Frag):TS:=qB (qP (Ju qp) (qm 1)) (Ww K)
theorem W5 (F:Fun K "functions_of" "functions_of" jT f fd) (c:Cs K mg ad) (T2:Tb2 K mg) (d_need_program:Def P w K mg base 6 "need_program" ["thing"] (spNeed K)) (d_inner_of:Def P w K mg base 2 "inner_of" ["part"] (spInnerOf K)):FnOk P w K mg base CX0 7 f fd ["program"] (spFuns K):=by
 refine F.ok zF (fun vs H Q E h=>?_) (fun cdv A outer s H vs Q E hr h=>?_)
 ·obtain ⟨x,d,s,t,rfl,_⟩:=h;rfl
 obtain ⟨x,d,s,t,rfl,hk,hf,hp,hs,ht,q⟩:=h;have hu:=Ve hr;refine ⟨_,(qd (qT (pdf d_need_program (qb (pv 0) qc)))
   (qd (pst 1 zF.nd (zg qc))
   (qd (pst 2 zF.nd (zg (qb (qQ (qb (pv 0) (qb JN qc))) qc)))
   (qd (Jl Bh (qkd (K:=K) rfl (pv 2)) (qd (pst 3 zF.nd (qhj (K:=K) rfl Ax PySem.F.slot_list_pop PySem.F.type_list_pop qbp (pv 2)))
   (qd (pst 4 zF.nd (pix K (pv 3) qh))
   (qd (pst 5 zF.nd (pix K (pv 3) qh))
   (qd (qK (PW.pt (JW (qr zN (pix K (pv 4) qh) qq (qz _)) (Jq (qr (Yh (K:=K) rfl) (pix K (pv 4) qh) (qgi T2.INNER_KINDS) rfl)))) (qd (qT (Jn (K:=K) rfl Ax Bu Bs zC (pv 1) (qb (qQ (qb (pix K (pv 4) qh) (qb (pix K (pv 4) qh) (qb (pix K (pv 4) qh) (qb (pv 5) qc))))) qc)))
   (qi (pst 5 zF.nd (qt zp (qx (jY (K:=K) rfl) (by rfl) c.len_ z9 (qb (pv 1) qc)) qh)))) qy)
   (qi (qT (Jn (K:=K) rfl Ax Ch Ci jH (pv 2) (qb (zX (sc:=ql jT) (NX:=["program","found","ahead","pair","part","outer"]) (N:=["inner","outer"]) (js:=[none,some 5]) (qki (K:=K) rfl c.reversed_ (qb (pdf d_inner_of (qb (pv 4) qc)) qc)) (fun _ _ _ _ _=>(zh (i:=0) (show (["inner","outer"]:List Str).Nodup from ∅) rfl (Or.inl rfl))) (fun _ _ _ _ _=>jp) (fun _ _ _ _ _=>(qQ (qb (pv 0) (qb (pv 1) qc)))) (zA rfl) ⟨∅,rfl,∅,∅,rfl,∅⟩) qc)))))))))
   (qi (qw (pv 1))))))),?_⟩
 show qB (zz (qG (spNeed K) [] E0 (qf (qg 0) qp))) (Wv K) _ _ _;clear hu;have hpr:=Tre.ZG hp ht hs;refine ⟨_,rfl,x,d,rfl,hk,hf,hpr,fun H1 g1=>?_⟩;refine ⟨(O0:0≤sizeLine),fun pf hpf=>?_⟩;have g2:=g1.trans (qe hpf (.lst []));refine ⟨_,rfl,(O0:2≤sizeLine),fun pp hpp=>⟨(O0:1≤sizeLine),fun pa hpa=>?_⟩⟩;have g3:=qe hpp (.tup [x,.non]);have g4:=qe hpa (.lst [.ref pp]);have g34:=g3.trans g4;have hpf0:H pf=none:=g1.free hpf;have hpa0:H pa=none:=(g2.trans g3).free hpa;have hf2:upd H1 pf (.lst []) pf=some (.lst []):=upd_same;have hf4:=g34 _ _ hf2;have hp4:=g4 _ _ (show upd (upd H1 pf (.lst [])) pp (.tup [x,.non]) pp=some (.tup [x,.non]) from upd_same);have npa:pf≠pa:=fun z=>by rw [z] at hf4;rw [upd_same] at hf4;cases hf4
 have tr:=hp.tr;refine ⟨PvF K H x pf pa (Tre.funs d),⟨s,[],[.ref pp],[],[(d,.none)],none,none,none,rfl,g2.trans g34,hf4,upd_same,.nil,.cons (.tup (SqT.of hp4) (.cons (hk.same (g2.trans g34)) (.cons .non .nil))) .nil,.cons tr ht ⟨rfl,rfl,Bw _⟩ .nil,rfl,rfl,(show 0+(s+0)≤300 from ⋯)⟩,?_⟩;clear g2 g3 g4 g34 hf2 hf4 hp4 hpp hpa hpf;rintro m σ H2 ⟨zs,vs,acc,tops,o3,o4,o5,rfl,g2,hz2,hv2,rz,rv,stk,nol,hfin,hlen⟩;refine ⟨_,rfl,_,.inl ⟨_,SqL.of hv2,rfl⟩,?_⟩;have hzl:=rz.length;have hvl:=rv.length;have skl:=stk.len;rw [Ab] at hvl;have big:(2000:Nat)<sizeLine:=O0;cases stk with
 | nil=>
  cases rv;exact qO rfl ⟨_,rfl,q _ pf zs g2 hpf0 hz2 (hfin▸rz)⟩
 | @cons d1 o1 r s1 t1 m1 tr1 ht1 go1 stk1=>
  refine rv.ct fun v vs' ev rv1 rv2=>?_;subst ev;refine qX (show (!List.isEmpty _)=true by rw [C0];simp) ?_
  refine qly fun N hN=>?_;have elast:((v::vs').reverse)[((v::vs').reverse).length - 1]?=some v:=by
   rw [C0,Ac,Av,Nat.add_sub_cancel,Bl (Ag _),Da];rfl
  refine ⟨_,rfl,.inl ⟨rfl,_,SqL.of hv2⟩,pa,_,v,rfl,rfl,hv2,elast,?_⟩;clear elast;rw [C0,List.dropLast_concat];have npd:Tre.noL (Tre.wk (d1,o1))=true:=by
   show Tre.noL (.tuple [_,_])=true;rw [Tre.noL,Tre.zH,Tre.zH,Tre.zH,tr1.gd.nol,go1.nol];rfl
  have hz3:upd H2 pa (.lst vs'.reverse) pf=some (.lst zs):=by rw [qk npa];exact hz2
  have rz3:=Reps.put (o':= .lst vs'.reverse) hv2 rz nol;have rv3:=Reps.put (o':= .lst vs'.reverse) hv2 rv2 stk1.nol;have rv13:=Rep.put (o':= .lst vs'.reverse) hv2 rv1 npd;have g3:=qE g2 hpa0 (.lst vs'.reverse);have hv3:upd H2 pa (.lst vs'.reverse) pa=some (.lst vs'.reverse):=upd_same;generalize upd H2 pa (.lst vs'.reverse)=H3 at hz3 rz3 rv3 rv13 g3 hv3 ⊢;have vis:=Tre.VQ (o:=o1) (acc:=acc) tr1 ⋯;clear hv2 hz2 rz rv rv1 rv2 g2 npd;refine tr1.el fun sh hands s0 t0 es et hf1 tl=>Tre.yH hf1 fun hd ts ed=>Rep.pair (d1:=d1) (d2:=o1) rv13 fun a1 y1 y2 e1 hq1 rd ro=>?_;have rd':Rep K H3 y1 (.tuple (.str hd::ts)):=ed▸rd;refine rd'.tp1 fun a2 ys3 e2 hq2 rs2=>?_;subst e2;refine ⟨_,rfl,.inr (.inl ⟨a1,_,0,_,e1,rfl,hq1,qo (j:=0) rfl,?_⟩)⟩;refine ⟨_,rfl,.inr (.inl ⟨a1,_,1,_,e1,rfl,hq1,qo (j:=1) rfl,?_⟩)⟩;clear e1 hq1 rv13 rd';have ik:=QV hd;have fin3:Tre.isFn d1=Tre.holds hd:=by rw [ed];rfl
  dsimp only [qm];refine XG fun D2 h2 _=>V7 fun B b1 b2=>?_;have yes:Tre.holds hd=true→B true H3:=fun hh=>by
   refine b1 _ ?_;have eA:Tre.qS d1 o1 acc=acc++[Tre.fnOf d1 o1]:=by unfold Tre.qS;rw [if_pos (fin3.trans hh)]
   have eO:Tre.zy d1 o1 acc= .int (acc.length:Nat):=by unfold Tre.zy;rw [if_pos (fin3.trans hh)]
   obtain ⟨_,da,db,ed2,_⟩:=Tre.qc4 hf1 (fin3.trans hh);have ets:ts=[da,db]:=by
    rw [ed] at ed2;cases ed2;rfl
   subst ets;refine rs2.ct fun ya _ ea ra rs2=>rs2.ct fun yb _ eb rb rs2=>?_;cases rs2.nilI;subst eb;subst ea;have nfn:Tre.noL (Tre.fnOf d1 o1)=true:=by
    obtain ⟨_,_,_,_,_,gfn⟩:=Tre.qc5 (o:=o1) tr1 (fin3.trans hh) ⋯ go1;exact gfn.nol
   have nd:Tre.noL d1=true:=tr1.gd.nol;have al:=Tre.ZW d1 o1 acc;have go5:Tre.Gd 0 (Tre.zy d1 o1 acc):=by rw [eO];exact Tre.ZL
   have nol5:Tre.zH (Tre.qS d1 o1 acc)=true:=by rw [eA];exact vg nol nfn
   rw [ed] at nd;have eF:Tre.fnOf d1 o1= .tuple [.str hd,da,db,o1]:=by rw [ed];rfl
   rw [eF] at nfn eA;refine qka npa hpf0 g3 hz3 hv3 rz3 rv3 stk1.nol hq2 ra rb ro nd nfn nol ⋯ fun H4 zs4 g4 hz4 hv4 rz4 rv4 rd4=>h2 _ _ ?_;have rz5:Reps K H4 zs4 (Tre.qS d1 o1 acc):=by rw [eA];exact rz4
   have ro5:Rep K H4 (.int (acc.length:Nat)) (Tre.zy d1 o1 acc):=by rw [eO];exact .int _
   rw [← ed] at rd4;exact qg8 npa hpa0 g4 hz4 hv4 rz5 rv4 rd4 ro5 go5 nol5 hf1 tl ⋯ stk1 ⋯ (by rw [← vis];exact hfin) (fun σ' H' h=>hN _ _ ⟨s0+m1,⋯,h⟩)
  refine ⟨_,rfl,.inr (.inl ⟨a2,_,0,_,rfl,rfl,hq2,qo (j:=0) rfl,rfl,_,rfl,?_⟩)⟩;refine Vd (fun hm=>yes (by rw [← ik,hm];rfl)) (fun hm=>⟨_,rfl,.inr (.inl ⟨a2,_,0,_,rfl,rfl,hq2,qo (j:=0) rfl,fun a3 ha3=>⟨a3,_,rfl,.inr (ha3 _),rfl,rfl,_,rfl,?_⟩⟩)⟩)
  by_cases hn:inV (.str hd) [.str "fun",.str "loop"]=true
  ·exact bP hn (yes (by rw [← ik,hn,Bool.or_true]))
  ·refine bN (Bz.mpr hn) (b2 _ (h2 _ _ ?_));have hh:Tre.isFn d1=false:=by rw [fin3,← ik,Bz.mpr hm,Bz.mpr hn];rfl
   have eA:Tre.qS d1 o1 acc=acc:=by unfold Tre.qS;rw [if_neg (by rw [hh];exact Ai)]
   have eO:Tre.zy d1 o1 acc=o1:=by unfold Tre.zy;rw [if_neg (by rw [hh];exact Ai)]
   exact qg8 (acc4:=Tre.qS d1 o1 acc) (o':=Tre.zy d1 o1 acc) npa hpa0 g3 hz3 hv3 (eA.symm▸rz3) rv3 rd (eO.symm▸ro) (eO.symm▸go1) (eA.symm▸nol) hf1 tl ⋯ stk1 (by rw [eA];omega) (by rw [← vis];exact hfin) (fun σ' H' h=>hN _ _ ⟨s0+m1,⋯,h⟩)
theorem deq {a b:Str} (h:a=b):decide (V.str a=V.str b)=true:=Al (congrArg V.str h)
theorem dne {a b:Str} (h:a≠b):decide (V.str a=V.str b)=false:=As fun z=>h (V.str.inj z)
theorem qee:¬ (("if":Str)="let")∧¬ (("while":Str)="let")∧¬ (("while":Str)="if")∧¬ (("try":Str)="let")∧¬ (("try":Str)="if")∧¬ (("try":Str)="while"):=∅
inductive spBro (K:Frag) (n:Nat) (vs:List V) (H:Hp) (Q:VK) (E':XK):Prop
 | mk:∀ x xs s t,(vs=[x])→(Rep K H x (.tuple xs))→(Tre.Trl xs s t)→(s≤300)→(t<n)→(∀ H' p,qv H H'→H p=none→H' p=some (.lst ((Tre.brL xs).map V.str))→Q (.ref p) H')→spBro K n vs H Q E'
inductive Iv_NamA_0 (H:Hp) (xs:List PyData) (pf:Addr) (a:Addr) (i:Nat) (σ:St) (H':Hp):Prop
 | mk:∀ o2 o3,(σ=[some (.ref a),some (.ref pf),o2,o3])→(qv H H')→(H' pf=some (.lst ((Tre.brL (xs.take i)).map V.str)))→Iv_NamA_0 H xs pf a i σ H'
def YW (K:Frag) (n:Nat):TS:=zz (tBM K "list" jU (qg 1) (qf (tOp jh (qG (spBro K n) [] E0 (qf (tOp (rIx K) (qg 2) (tC (V.int 4))) qp)) (qG (spBro K n) [] E0 (qf (tOp (rIx K) (qg 2) (tC (V.int 5))) qp))) qp))
def YV (K:Frag) (n:Nat):TS:=qB (zz (tBM K "list" jU (qg 1) (qf (tOp jh (qG (spBro K n) [] E0 (qf (tOp (rIx K) (qg 2) (tC (V.int 1))) qp)) (Ju (qf (tOp (rIx K) (qg 2) (tC (V.int 3))) qp))) qp))) (YW K n)
def YU (K:Frag) (n:Nat):TS:=zz (tBM K "list" jU (qg 1) (qf (qG (spBro K n) [] E0 (qf (tOp (rIx K) (qg 2) (tC (V.int 2))) qp)) qp))
def YT (K:Frag) (n:Nat):TS:=zJ (qJ (tOp rEq (qg 3) (tC (V.str "try")))) (YV K n) zu
def YS (K:Frag) (n:Nat):TS:=zz (tBM K "list" jU (qg 1) (qf (tOp jh (qG (spBro K n) [] E0 (qf (tOp (rIx K) (qg 2) (tC (V.int 2))) qp)) (qG (spBro K n) [] E0 (qf (tOp (rIx K) (qg 2) (tC (V.int 3))) qp))) qp))
def YR (K:Frag) (n:Nat):TS:=zJ (qJ (tOp rEq (qg 3) (tC (V.str "while")))) (YU K n) (YT K n)
def YQ (K:Frag):TS:=zz (tBM K "list" zM (qg 1) (qf (tOp (rIx K) (qg 2) (tC (V.int 1))) qp))
def YO (K:Frag) (n:Nat):TS:=zJ (qJ (tOp rEq (qg 3) (tC (V.str "if")))) (YS K n) (YR K n)
def YN (K:Frag) (n:Nat):TS:=zJ (qJ (tOp rEq (qg 3) (tC (V.str "let")))) (YQ K) (YO K n)
def YM (K:Frag) (n:Nat):TS:=qB (qP (tOp (rIx K) (qg 2) (tC (V.int 0))) (qm 3)) (YN K n)
def yz (K:Frag) (n:Nat):TS:=qB (Jv (jD K (qg 0)) (qm 2) (YM K n)) (zV (qg 1))
theorem Y3 (F:Fun K "brought_by" "brought_by" Jz f fd) (n:Nat) (d_brought_by:Def P w K mg base n "brought_by" ["body"] (spBro K n)):FnOk P w K mg base CX0 (n+1) f fd ["body"] (spBro K (n+1)):=by
 refine F.ok (k:=n) Jc (fun vs H Q E h=>?_) (fun cdv A outer s H vs Q E hr h=>?_)
 ·obtain ⟨x,xs,s,t,rfl,_⟩:=h;rfl
 obtain ⟨x,xs,s,t,rfl,hk,tl,hs,ht,q⟩:=h;refine ⟨_,(qd (pst 1 Jc.nd (zg qc))
   (qd (zT Bh rfl (j5 (K:=K) rfl (pv 0)) (pgn 2 Jc.nd) (qd (pst 3 Jc.nd (pix K (pv 2) qh))
   (qi (qK (qr zN (pv 3) qq (qz _)) (qi (qT (Jn (K:=K) rfl Ax Bu Bs zC (pv 1) (qb (pix K (pv 2) qh) qc)))) (qi (qK (qr zN (pv 3) qq (qz _)) (qi (qT (Jn (K:=K) rfl Ax Ch Ci jH (pv 1) (qb (qt zi (pdf d_brought_by (qb (pix K (pv 2) qh) qc)) (pdf d_brought_by (qb (pix K (pv 2) qh) qc))) qc)))) (qi (qK (qr zN (pv 3) qq (qz _)) (qi (qT (Jn (K:=K) rfl Ax Ch Ci jH (pv 1) (qb (pdf d_brought_by (qb (pix K (pv 2) qh) qc)) qc)))) (qi (qK (qr zN (pv 3) qq (qz _)) (qd (qT (Jn (K:=K) rfl Ax Ch Ci jH (pv 1) (qb (qt zi (pdf d_brought_by (qb (pix K (pv 2) qh) qc)) (zg (qb (pix K (pv 2) qh) qc))) qc)))
   (qi (qT (Jn (K:=K) rfl Ax Ch Ci jH (pv 1) (qb (qt zi (pdf d_brought_by (qb (pix K (pv 2) qh) qc)) (pdf d_brought_by (qb (pix K (pv 2) qh) qc))) qc))))) qy))))))))))
   (qi (qw (pv 1))))),?_⟩
 show qB (qP (Ju qp) (qm 1)) (yz K n) _ _ _;refine ⟨qU O0,fun pf hpf=>?_⟩;have g0:=qe hpf (.lst []);have h0:upd H pf (.lst []) pf=some (.lst []):=upd_same;generalize upd H pf (.lst [])=H0 at g0 h0 ⊢;obtain ⟨a,ws,rfl,hq,rs⟩:=hk.tup_inv;have hwl:=rs.length;have few:=tl.few;have tot:∀ j,(Tre.brL (xs.take j)).length≤300:=fun j=>by
  have e:=congrArg List.length (Tre.brL_append (xs.take j) (xs.drop j));rw [Dd,Ac] at e;have:=Tre.Yx _ tl (Ag _);omega
 refine ⟨_,rfl,.inr (.inl ⟨a,rfl,⟨ws,g0.sqT hq⟩,?_⟩)⟩;refine Ym rs (Iv_NamA_0 H xs pf a) ?_ (fun i σ H' h=>?_) (fun i σ H3 v d hi he rd h D' hn _=>?_) (fun σ H2 h=>?_)
 ·exact ⟨none,none,rfl,g0,h0⟩
 ·obtain ⟨o2,o3,rfl,g2,hp2⟩:=h;exact g2.sqT hq
 ·obtain ⟨o2,o3,rfl,g2,hp2⟩:=h;obtain ⟨s1,t1,tr,hs1,ht1⟩:=tl.mem d (Ay he);have tot1:=tot (i+1);rw [Bb,he,Tre.brL_append,show (some d).toList=[d] from rfl,Tre.brL,Tre.brL,An,Ac] at tot1;have fin:∀ (H':Hp),qv H H'→H' pf=some (.lst ((Tre.brL (xs.take i)++Tre.brS d).map V.str))→∀ o2 o3,D'.nx [some (.ref a),some (.ref pf),o2,o3] H':=fun H' g h o2 o3=>by
   refine hn _ _ ⟨o2,o3,rfl,g,?_⟩;rw [Bb,he,Tre.brL_append,show (some d).toList=[d] from rfl,Tre.brL,Tre.brL,An];exact h
  clear hn;have zl:=tot i;cases Tre.wG tr with
  | @let_ x a1 _ _ _=>
   refine rd.tp3 fun a2 y1 y2 e hq0 r1 r2=>?_;subst e;obtain rfl:=r1.strI;have hq2:=g2.sqT hq0;refine XG fun D2 h2 _=>⟨_,rfl,.inr (.inl ⟨a2,_,0,_,rfl,rfl,hq2,qo (j:=0) rfl,h2 _ _ (V7 fun B b1 b2=>⟨_,rfl,rfl,_,rfl,bP (deq rfl) (b1 _ ?_)⟩)⟩)⟩;refine ⟨_,rfl,.inl ⟨rfl,_,SqL.of hp2⟩,_,rfl,.inr (.inl ⟨a2,_,1,_,rfl,rfl,hq2,qo (j:=1) rfl,pf,_,_,rfl,rfl,hp2,jy (by simp only [Ac,Ab,Av,Ak,B1,Bf];omega),?_⟩)⟩
   refine fin _ (qE g2 hpf _) ?_ _ _;rw [upd_same,Tre.ZU,Ah];rfl
  | @if_ a1 xs1 ys1 _ _ sa ta sb tb _ _ p1 p2 l0 l1 l2=>
   refine rd.tp4 fun a2 y1 y2 y3 e hq0 r1 r2 r3=>?_;subst e;have hq2:=g2.sqT hq0;have nb:Tre.brS (.tuple [.str "if",a1,.tuple xs1,.tuple ys1])=Tre.brL xs1++Tre.brL ys1:=Tre.qdj _ _ _;rw [nb,Ac] at tot1;refine XG fun D2 h2 _=>⟨_,rfl,.inr (.inl ⟨a2,_,0,_,rfl,rfl,hq2,qo (j:=0) rfl,h2 _ _ (V7 fun B b1 b2=>⟨_,rfl,rfl,_,rfl,bN (dne qee.1) (b2 _ ?_)⟩)⟩)⟩;refine V7 fun B b1 b2=>⟨_,rfl,rfl,_,rfl,bP (deq rfl) (b1 _ ?_)⟩;refine ⟨_,rfl,.inl ⟨rfl,_,SqL.of hp2⟩,_,rfl,.inr (.inl ⟨a2,_,2,_,rfl,rfl,hq2,qo (j:=2) rfl,_,_,_,_,rfl,r2.same g2,p1,⋯,⋯,fun H4 q1 g4 hq1 hl4=>?_⟩)⟩;refine ⟨_,rfl,.inr (.inl ⟨a2,_,3,_,rfl,rfl,g4.sqT hq2,qo (j:=3) rfl,_,_,_,_,rfl,r3.same (g2.trans g4),p2,⋯,⋯,fun H5 q2 g5 hq2 hl5=>?_⟩)⟩;refine .inr (.inr ⟨q1,q2,_,_,rfl,rfl,g5 _ _ hl4,hl5,qU (by simp only [Ac,Ab,Av,Ak,B1,Bf];omega),fun q3 hq3=>?_⟩)
   have g6:=qe hq3 (.lst ((Tre.brL xs1).map V.str++(Tre.brL ys1).map V.str));have g46:=(g4.trans g5).trans g6;refine ⟨pf,q3,_,_,rfl,rfl,g46 _ _ hp2,upd_same,qU (by simp only [Ac,Ab,Av,Ak,B1,Bf];omega),?_⟩
   refine fin _ (qE (g2.trans g46) hpf _) ?_ _ _;rw [upd_same,nb,Ah,Ah]
  | @while_ a1 xs1 _ _ sa ta _ p1 l0 l1=>
   refine rd.tp3 fun a2 y1 y2 e hq0 r1 r2=>?_;subst e;have hq2:=g2.sqT hq0;have nb:Tre.brS (.tuple [.str "while",a1,.tuple xs1])=Tre.brL xs1:=Tre.wy _ _;rw [nb] at tot1;refine XG fun D2 h2 _=>⟨_,rfl,.inr (.inl ⟨a2,_,0,_,rfl,rfl,hq2,qo (j:=0) rfl,h2 _ _ (V7 fun B b1 b2=>⟨_,rfl,rfl,_,rfl,bN (dne qee.2.1) (b2 _ ?_)⟩)⟩)⟩;refine V7 fun B b1 b2=>⟨_,rfl,rfl,_,rfl,bN (dne qee.2.2.1) (b2 _ ?_)⟩;refine V7 fun B b1 b2=>⟨_,rfl,rfl,_,rfl,bP (deq rfl) (b1 _ ?_)⟩;refine ⟨_,rfl,.inl ⟨rfl,_,SqL.of hp2⟩,_,rfl,.inr (.inl ⟨a2,_,2,_,rfl,rfl,hq2,qo (j:=2) rfl,_,_,_,_,rfl,r2.same g2,p1,⋯,⋯,fun H4 q1 g4 hq1 hl4=>?_⟩)⟩;refine ⟨pf,q1,_,_,rfl,rfl,g4 _ _ hp2,hl4,qU (by simp only [Ac,Ab,Av,Ak,B1,Bf];omega),?_⟩
   refine fin _ (qE (g2.trans g4) hpf _) ?_ _ _;rw [upd_same,nb,Ah]
  | @try_ b c xs1 ys1 zs1 _ _ sa ta sb tb sc tc _ _ _ _ p1 p2 p3 l0 l1 l2 l3=>
   refine rd.tp6 fun a2 y1 y2 y3 y4 y5 e hq0 r1 r2 r3 r4 r5=>?_;subst e;obtain rfl:=r3.strI;have hq2:=g2.sqT hq0;have nb:Tre.brS (.tuple [.str "try",.tuple xs1,.str b,.str c,.tuple ys1,.tuple zs1])=Tre.brL xs1++(c::(Tre.brL ys1++Tre.brL zs1)):=Tre.ZT _ _ _ _ _;rw [nb,Ac,Ak,Ac] at tot1;refine XG fun D2 h2 _=>⟨_,rfl,.inr (.inl ⟨a2,_,0,_,rfl,rfl,hq2,qo (j:=0) rfl,h2 _ _ (V7 fun B b1 b2=>⟨_,rfl,rfl,_,rfl,bN (dne qee.2.2.2.1) (b2 _ ?_)⟩)⟩)⟩;refine V7 fun B b1 b2=>⟨_,rfl,rfl,_,rfl,bN (dne qee.2.2.2.2.1) (b2 _ ?_)⟩;refine V7 fun B b1 b2=>⟨_,rfl,rfl,_,rfl,bN (dne qee.2.2.2.2.2) (b2 _ ?_)⟩;refine V7 fun B b1 b2=>⟨_,rfl,rfl,_,rfl,bP (deq rfl) (b1 _ ?_)⟩;refine ⟨_,rfl,.inl ⟨rfl,_,SqL.of hp2⟩,_,rfl,.inr (.inl ⟨a2,_,1,_,rfl,rfl,hq2,qo (j:=1) rfl,_,_,_,_,rfl,r1.same g2,p1,⋯,⋯,fun H4 q1 g4 hq1 hl4=>?_⟩)⟩;refine ⟨_,rfl,.inr (.inl ⟨a2,_,3,_,rfl,rfl,g4.sqT hq2,qo (j:=3) rfl,qU (by simp only [Ac,Ab,Av,Ak,B1,Bf];omega),fun q2 hq2'=>?_⟩)⟩
   have g5:=qe hq2' (.lst [.str c]);refine .inr (.inr ⟨q1,q2,_,_,rfl,rfl,g5 _ _ hl4,upd_same,qU (by simp only [Ac,Ab,Av,Ak,B1,Bf];omega),fun q3 hq3=>?_⟩)
   have g6:=qe hq3 (.lst ((Tre.brL xs1).map V.str++[.str c]));have g46:=(g4.trans g5).trans g6;refine ⟨pf,q3,_,_,rfl,rfl,g46 _ _ hp2,upd_same,qU (by simp only [Ac,Ab,Av,Ak,B1,Bf];omega),?_⟩
   have g7:=qE (g2.trans g46) hpf (.lst ((Tre.brL (xs.take i)).map V.str++((Tre.brL xs1).map V.str++[.str c])));have hp7:upd (upd (upd H4 q2 (.lst [.str c])) q3 (.lst ((Tre.brL xs1).map V.str++[.str c]))) pf (.lst ((Tre.brL (xs.take i)).map V.str++((Tre.brL xs1).map V.str++[.str c]))) pf=some (.lst ((Tre.brL (xs.take i)).map V.str++((Tre.brL xs1).map V.str++[.str c]))):=upd_same;generalize upd (upd (upd H4 q2 (.lst [.str c])) q3 (.lst ((Tre.brL xs1).map V.str++[.str c]))) pf (.lst ((Tre.brL (xs.take i)).map V.str++((Tre.brL xs1).map V.str++[.str c])))=H7 at g7 hp7 ⊢;refine ⟨_,rfl,.inl ⟨rfl,_,SqL.of hp7⟩,_,rfl,.inr (.inl ⟨a2,_,4,_,rfl,rfl,g7.sqT hq0,qo (j:=4) rfl,_,_,_,_,rfl,r4.same g7,p2,⋯,⋯,fun H8 q4 g8 hq4 hl8=>?_⟩)⟩;refine ⟨_,rfl,.inr (.inl ⟨a2,_,5,_,rfl,rfl,(g7.trans g8).sqT hq0,qo (j:=5) rfl,_,_,_,_,rfl,r5.same (g7.trans g8),p3,⋯,⋯,fun H9 q5 g9 hq5 hl9=>?_⟩)⟩;refine .inr (.inr ⟨q4,q5,_,_,rfl,rfl,g9 _ _ hl8,hl9,qU (by simp only [Ac,Ab,Av,Ak,B1,Bf];omega),fun q6 hq6=>?_⟩)
   have ga:=qe hq6 (.lst ((Tre.brL ys1).map V.str++(Tre.brL zs1).map V.str));have g8a:=(g8.trans g9).trans ga;refine ⟨pf,q6,_,_,rfl,rfl,g8a _ _ hp7,upd_same,qU (by simp only [Ac,Ab,Av,Ak,B1,Bf];omega),?_⟩
   refine fin _ (qE (g7.trans g8a) hpf _) ?_ _ _;rw [upd_same,nb];simp
  | @else_ hd ts _ _ k1 k2 k3 k4 _=>
   refine rd.tp1 fun a2 ys e hq0 rs2=>?_;subst e;have hq2:=g2.sqT hq0;refine XG fun D2 h2 _=>⟨_,rfl,.inr (.inl ⟨a2,_,0,_,rfl,rfl,hq2,qo (j:=0) rfl,h2 _ _ (V7 fun B b1 b2=>⟨_,rfl,rfl,_,rfl,bN (dne k1) (b2 _ ?_)⟩)⟩)⟩;refine V7 fun B b1 b2=>⟨_,rfl,rfl,_,rfl,bN (dne k2) (b2 _ ?_)⟩;refine V7 fun B b1 b2=>⟨_,rfl,rfl,_,rfl,bN (dne k3) (b2 _ ?_)⟩;refine V7 fun B b1 b2=>⟨_,rfl,rfl,_,rfl,bN (dne k4) (b2 _ ?_)⟩;refine fin _ g2 ?_ _ _;rw [Tre.Vw k1 k2 k3 k4,An];exact hp2
 ·obtain ⟨o2,o3,rfl,g2,hp2⟩:=h;rw [Bo] at hp2;exact ⟨_,rfl,q _ pf g2 hpf hp2⟩
theorem qhh {fB:Addr} {dB:FuncData} (F:Fun K "brought_by" "brought_by" Jz fB dB) (kB:Known K mg "brought_by" ["body"] fB dB):∀ n:Nat,Def P w K mg base n "brought_by" ["body"] (spBro K n)
 | 0=>by
  have no:∀ vs H Q E,spBro K 0 vs H Q E→False:=fun vs H Q E h=>by
   obtain ⟨x,xs,s,t,_,_,_,_,ht,_⟩:=h;omega
  exact kB.out ⟨fun vs H Q E h=>(no _ _ _ _ h).elim,fun _ _ _ _ _ _ _ _ _ _ _ _ _ h=>(no _ _ _ _ h).elim⟩
 | n+1=>kB.out (Y3 F n (qhh F kB n))
theorem yE {H:Hp}:∀ {ws:List V} {ns:List PyData},Reps K H ws ns→ns.all Tre.zm=true→ws=(ns.map Tre.txt).map V.str
 | _,_,.nil,_=>rfl
 | _,_,.cons (x:=v) (d:=d) h t,n=>by
  rw [Ex,Ae] at n;rw [Ba,Ba,← yE t n.2];cases h with
  | str x=>rfl
  | non=>exact absurd n.1 O0
  | bl b=>exact absurd n.1 (by intro z;cases z)
  | int i=>exact absurd n.1 (by intro z;cases z)
  | lst _ _=>exact absurd n.1 (by intro z;cases z)
  | tup _ _=>exact absurd n.1 (by intro z;cases z)
inductive spNm (K:Frag) (vs:List V) (H:Hp) (Q:VK) (E':XK):Prop
 | mk:∀ x y ns xs s t,(vs=[x,y])→(Rep K H x (.tuple ns))→(ns.all Tre.zm=true)→(ns.length≤4)→(Rep K H y (.tuple xs))→(Tre.Trl xs s t)→(s≤300)→(t≤20)→(∀ H' p,qv H H'→H p=none→H' p=some (.lst ((ns.map Tre.txt++Tre.brL xs).map V.str))→Q (.ref p) H')→spNm K vs H Q E'
theorem QE (F:Fun K "names_of" "names_of" VW f fd) (c:Cs K mg ad) (d_brought_by:Def P w K mg base 21 "brought_by" ["body"] (spBro K 21)):FnOk P w K mg base CX0 22 f fd ["params","body"] (spNm K):=by
 refine F.ok Qr (fun vs H Q E h=>?_) (fun cdv A outer s H vs Q E hr h=>?_)
 ·obtain ⟨x,y,ns,xs,s,t,rfl,_⟩:=h;rfl
 obtain ⟨x,y,ns,xs,s,t,rfl,hn,han,hnl,hk,tl,hs,ht,q⟩:=h;refine ⟨_,(qi (qw (qt zi (qW j4 (by rfl) c.list_ vI (qb (pv 0) qc)) (pdf d_brought_by (qb (pv 1) qc))))),?_⟩
 show zV (tOp jh (tCB (fun xs H_1 Q=>∃ p ys,xs=[V.ref p]∧(SqL K H_1 p ys∨SqT K H_1 p ys)∧∀ (l:Addr),H_1 l=none→Q (V.ref l) (upd H_1 l (HO.lst ys))) (qf (qg 0) qp)) (qG (spBro K 21) [] E0 (qf (qg 1) qp))) _ _ _;obtain ⟨a,ws,rfl,hq,rs⟩:=hn.tup_inv;have e:=yE rs han;have bl:=Tre.Yx _ tl (Ag _);refine ⟨_,rfl,a,ws,rfl,.inr hq,fun p1 hp1=>?_⟩;have g1:=qe hp1 (.lst ws);have h1:upd H p1 (.lst ws) p1=some (.lst ws):=upd_same;generalize upd H p1 (.lst ws)=H1 at g1 h1 ⊢;refine ⟨_,rfl,_,_,_,_,rfl,hk.same g1,tl,hs,⋯,fun H2 p2 g2 hp2 h2=>?_⟩;refine .inr (.inr ⟨p1,p2,_,_,rfl,rfl,g2 _ _ h1,h2,qU (by rw [e];simp only [Ac,Ab,Av,Ak,B1,Bf];omega),fun p3 hp3=>?_⟩)
 refine q _ p3 ((g1.trans g2).trans (qe hp3 _)) ((g1.trans g2).free hp3) ?_;rw [upd_same,e,Ah]
inductive spUsed (K:Frag) (vs:List V) (H:Hp) (Q:VK) (E':XK):Prop
 | mk:∀ x xs s t,(vs=[x])→(Rep K H x (.tuple xs))→(Tre.Trl xs s t)→(s≤300)→(t≤20)→(∀ H' p,qv H H'→H p=none→H' p=some (.lst ((xs.flatMap (Tre.jd 30)).map V.str))→Q (.ref p) H')→spUsed K vs H Q E'
inductive PvU (K:Frag) (H:Hp) (x:V) (pf pa:Addr) (fin:List Str) (m:Nat) (σ:St) (H':Hp):Prop
 | mk:∀ (vs:List V) (ds:List PyData) (found:List Str) (t:Nat) (o3:Option V),(σ=[some x,some (.ref pf),some (.ref pa),o3])→(qv H H')→(H' pf=some (.lst (found.map V.str)))→(H' pa=some (.lst vs.reverse))→(Reps K H' vs ds)→(Tre.Trl ds m t)→(m≤300)→(t≤20)→(found++ds.flatMap (Tre.jd 30)=fin)→PvU K H x pf pa fin m σ H'
theorem J2 (h a b:Str):inV (.str h) [.str a,.str b]=(h==a||h==b):=ZI h a b
theorem Trl.nol {ds:List PyData} {s t:Nat} (h:Tre.Trl ds s t):Tre.zH ds=true:=(Tre.Vg h.gd).1
def qam (K:Frag):TS:=zz (tBM K "list" zM (qg 1) (qf (tOp (rIx K) (qg 3) (tC (V.int 1))) qp))
def qal (K:Frag):TS:=zz (tBM K "list" jU (qg 2) (qf (qcf K (qf (qG (spInnerOf K) [] E0 (qf (qg 3) qp)) qp)) qp))
def qak (K:Frag):TS:=zJ (qJ (tOp (rIn K true) (tOp (rIx K) (qg 3) (tC (V.int 0))) (tGT K [Str.ofString "fun",Str.ofString "loop"]))) (qal K) zu
def qaj (K:Frag):TS:=qB (zJ (qJ (tOp (rIn K false) (tOp (rIx K) (qg 3) (tC (V.int 0))) (Ji (qf (tC (V.str "name")) (qf (tC (V.str "set")) qp))))) (qam K) zu) (qak K)
def qai (K:Frag):TS:=qB (qP (qfk K "list" qh3 (qg 2)) (qm 3)) (qaj K)
def qah (K:Frag):TS:=qB (vk (fun σ H Q=>qg 2 σ H fun x H'=>∃ k,qe6 K x H' k∧Q k H') (qai K)) (zV (qg 1))
def qag (K:Frag):TS:=qB (qP (qcf K (qf (qg 0) qp)) (qm 2)) (qah K)
theorem qbk (F:Fun K "used_in" "used_in" wJ f fd) (c:Cs K mg ad) (T2:Tb2 K mg) (d_inner_of:Def P w K mg base 2 "inner_of" ["part"] (spInnerOf K)):FnOk P w K mg base CX0 3 f fd ["body"] (spUsed K):=by
 refine F.ok vq (fun vs H Q E h=>?_) (fun cdv A outer s H vs Q E hr h=>?_)
 ·obtain ⟨x,xs,s,t,rfl,_⟩:=h;rfl
 obtain ⟨x,xs,s,t,rfl,hk,tl,hs,ht,q⟩:=h;refine ⟨_,(qd (pst 1 vq.nd (zg qc))
   (qd (pst 2 vq.nd (qcm (K:=K) rfl rfl c.list_ c.reversed_ (qb (pv 0) qc)))
   (qd (Jl Bh (qkd (K:=K) rfl (pv 2)) (qd (pst 3 vq.nd (qhj (K:=K) rfl Ax PySem.F.slot_list_pop PySem.F.type_list_pop qbp (pv 2)))
   (qd (qK (qr (Yh (K:=K) rfl) (pix K (pv 3) qh) (qQ (qb qq (qb qq qc))) rfl) (qi (qT (Jn (K:=K) rfl Ax Bu Bs zC (pv 1) (qb (pix K (pv 3) qh) qc)))) qy)
   (qi (qK (qr (Ya (K:=K) rfl) (pix K (pv 3) qh) (qgi T2.INNER_KINDS) rfl) (qi (qT (Jn (K:=K) rfl Ax Ch Ci jH (pv 2) (qb (qcm (K:=K) rfl rfl c.list_ c.reversed_ (qb (pdf d_inner_of (qb (pv 3) qc)) qc)) qc)))) qy)))))
   (qi (qw (pv 1)))))),?_⟩
 show qB (qP (Ju qp) (qm 1)) (qag K) _ _ _;have all:=tl.uses_le 30;refine ⟨qU O0,fun pf hpf=>?_⟩;have g1:=qe hpf (.lst []);obtain ⟨a,ws,rfl,hq,rs⟩:=hk.tup_inv;have hwl:=rs.length;have few:=tl.few;have hf1:upd H pf (.lst []) pf=some (.lst []):=upd_same;generalize upd H pf (.lst [])=H1 at g1 hf1 ⊢;refine ⟨_,rfl,a,ws,rfl,⋯,.inr (g1.sqT hq),fun pa hpa=>?_⟩;have g2:=qe hpa (.lst ws.reverse);have npa:pf≠pa:=fun z=>by rw [z] at hf1;rw [hf1] at hpa;cases hpa
 have hpa0:H pa=none:=g1.free hpa;refine ⟨PvU K H (.ref a) pf pa (xs.flatMap (Tre.jd 30)),⟨s,ws,xs,[],t,none,rfl,g1.trans g2,g2 _ _ hf1,upd_same,rs.same (g1.trans g2),tl,hs,ht,rfl⟩,?_⟩;clear g1 g2 hf1 hpa few hwl rs hq hk;rintro m σ H2 ⟨vs,ds,found,t2,o3,rfl,g2,hf2,hv2,rv,tl2,hm,ht2,hfin⟩;refine ⟨_,rfl,_,.inl ⟨_,SqL.of hv2,rfl⟩,?_⟩;have fl:found.length≤300:=by
  have:=congrArg List.length hfin;rw [Ac] at this;omega
 have vl:=rv.length;have few:=tl2.few;cases tl2 with
 | nil=>
  cases rv;refine qO rfl ⟨_,rfl,q _ pf g2 hpf ?_⟩;rw [← hfin,List.flatMap_nil,An];exact hf2
 | @cons d ds' s1 t1 s2 t3 tr tl3=>
  refine rv.ct fun v vs' ev rv1 rv2=>?_;subst ev;refine qX (show (!List.isEmpty _)=true by rw [C0];simp) ?_
  refine qly fun N hN=>?_;have elast:((v::vs').reverse)[((v::vs').reverse).length - 1]?=some v:=by
   rw [C0,Ac,Av,Nat.add_sub_cancel,Bl (Ag _),Da];rfl
  refine ⟨_,rfl,.inl ⟨rfl,_,SqL.of hv2⟩,pa,_,v,rfl,rfl,hv2,elast,?_⟩;rw [C0,List.dropLast_concat];have hf3:upd H2 pa (.lst vs'.reverse) pf=some (.lst (found.map V.str)):=by rw [qk npa];exact hf2
  have rv3:=Reps.put (o':= .lst vs'.reverse) hv2 rv2 (Trl.nol tl3);have rd3:=Rep.put (o':= .lst vs'.reverse) hv2 rv1 tr.gd.nol;have g3:=qE g2 hpa0 (.lst vs'.reverse);have hv3:upd H2 pa (.lst vs'.reverse) pa=some (.lst vs'.reverse):=upd_same;generalize upd H2 pa (.lst vs'.reverse)=H3 at hf3 rv3 rd3 g3 hv3 ⊢;have up:=Tre.XA tr ⋯;rw [C1,up] at hfin;clear elast rv rv1 rv2 hv2 hf2;have trS:=tr;refine tr.el fun sh hands s0 t0 es et hform tl=>Tre.yH hform fun hd ts ed=>?_;subst ed;have k60:=Tre.qcv hform;refine rd3.tp1 fun a2 ys' e2 hq2 rs2=>?_;subst e2;have rest:∀ (H4:Hp) (fo:List Str) (D:Ends),qv H H4→H4 pf=some (.lst (fo.map V.str))→H4 pa=some (.lst vs'.reverse)→Reps K H4 vs' ds'→Rep K H4 (.ref a2) (.tuple (.str hd::ts))→fo=found++Tre.own (.tuple (.str hd::ts))→(∀ σ' H' m',m'<s0+1+s2→PvU K H (.ref a) pf pa (xs.flatMap (Tre.jd 30)) m' σ' H'→D.nx σ' H')→
    zJ (qJ (tOp (rIn K true) (tOp (rIx K) (qg 3) (tC (V.int 0))) (tGT K ["fun","loop"]))) (zz (tBM K "list" jU (qg 2) (qf (qcf K (qf (qG (spInnerOf K) [] E0 (qf (qg 3) qp)) qp)) qp))) zu D [some (.ref a),some (.ref pf),some (.ref pa),some (.ref a2)] H4:=fun H4 fo D g4 hf4 hv4 rv4 rd4 efo hD=>by
   have rd5:=rd4;refine rd4.tp1 fun _ ys4 e4 hq4 rs4=>?_;cases e4;refine ⟨_,rfl,.inr (.inl ⟨a2,_,0,_,rfl,rfl,hq4,qo (j:=0) rfl,fun a3 ha3=>⟨a3,_,rfl,.inr (ha3 _),rfl,rfl,_,rfl,Vd (fun hn=>?_) (fun hn=>?_)⟩⟩)⟩
   ·have hn':Tre.wV (.tuple (.str hd::ts))=false:=by
     rw [Tre.wU,← J2 hd "fun" "loop"];exact Ev _ |>.mp hn
    rw [hn',if_neg Ai] at hfin;refine ⟨_,rfl,.inl ⟨rfl,_,SqL.of hv4⟩,_,rfl,_,_,sh,hands,H4,rfl,qv.refl _,rd5,hform,fun H5 p5 ks g5 hp5 hl5 rk=>⟨p5,ks,rfl,?_,.inl (SqL.of hl5),fun L hL=>?_⟩⟩
    ·have:=rk.length;omega
    have hkl:=rk.length;have rvl:=rv4.length;have few3:=tl3.few;have gL:=g5.trans (qe hL (.lst ks.reverse));have hvL:=gL _ _ hv4;refine ⟨pa,L,_,_,rfl,rfl,hvL,upd_same,qU (by simp only [Ac,Ab,Av,Ak,B1,Bf];omega),hD _ _ (s0+s2) ⋯ ?_⟩
    have both:=Tre.Trl.append tl tl3;refine ⟨ks++vs',Tre.qL (.tuple (.str hd::ts))++ds',fo,_,_,rfl,qE (g4.trans gL) hpa0 _,by rw [qk npa];exact gL _ _ hf4,?_,Reps.put hvL ((rk.same gL).append (rv4.same gL)) (Trl.nol both),both,⋯,⋯,?_⟩
    ·rw [upd_same,List.reverse_append]
    ·rw [efo,Ck,← hfin];simp
   ·have hn':Tre.wV (.tuple (.str hd::ts))=true:=by
     rw [Tre.wU,← J2 hd "fun" "loop"];cases e:inV (.str hd) [.str "fun",.str "loop"] with
     | true=>rfl
     | false=>exact absurd (show (!inV (.str hd) [.str "fun",.str "loop"])=true by rw [e];rfl) hn
    rw [hn',if_pos rfl,Bv] at hfin;refine hD _ _ s2 ⋯ ⟨vs',ds',fo,_,_,rfl,g4,hf4,hv4,rv4,tl3,⋯,⋯,?_⟩;rw [efo,Tre.qkt hn',An];exact hfin
  refine ⟨_,rfl,.inr (.inl ⟨a2,_,0,_,rfl,rfl,hq2,qo (j:=0) rfl,qU O0,fun p1 hp1=>?_⟩)⟩;have gp:=qe hp1 (.tup [.str "name",.str "set"]);refine ⟨p1,_,rfl,.inr (SqT.of upd_same),rfl,rfl,_,rfl,?_⟩;generalize upd H3 p1 (.tup [.str "name",.str "set"])=H4 at gp ⊢;refine Vd (fun hn=>?_) (fun hn=>?_)
  ·have hh:hd="name"∨hd="set":=by
    have z:inV (.str hd) [.str "name",.str "set"]=true:=hn;rw [J2,B6,A4,A4] at z;exact z
   obtain ⟨nx,r,rfl,_,eown⟩:=Tre.yZ trS hh;refine rs2.ct fun y1 _ e'y1 r1 rs2=>?_;subst e'y1;obtain rfl:=r1.strI;have hf4:=gp _ _ hf3;refine ⟨_,rfl,.inl ⟨rfl,_,SqL.of hf4⟩,_,rfl,.inr (.inl ⟨a2,_,1,_,rfl,rfl,gp.sqT hq2,qo (j:=1) rfl,pf,_,_,rfl,rfl,hf4,jy (by simp only [Ac,Ab,Av,Ak,B1,Bf];omega),?_⟩)⟩
   refine rest _ (found++[nx]) _ (qE (g3.trans gp) hpf _) (by rw [upd_same,Ah];rfl) (by rw [qk (Ne.symm npa)];exact gp _ _ hv3) (Reps.put hf4 (rv3.same gp) (Trl.nol tl3)) (Rep.put hf4 (rd3.same gp) trS.gd.nol) (by rw [eown]) fun σ' H' m' hm h=>hN _ _ ⟨m',⋯,h⟩
  ·have hh:¬ (hd="name"∨hd="set"):=fun z=>by
    refine hn (show inV (.str hd) [.str "name",.str "set"]=true from ?_);rw [J2,B6,A4,A4];exact z
   refine rest H4 found _ (g3.trans gp) (gp _ _ hf3) (gp _ _ hv3) (rv3.same gp) (rd3.same gp) (by rw [Tre.wl hh,An]) fun σ' H' m' hm h=>hN _ _ ⟨m',⋯,h⟩
end
end Mine
namespace L2
open PySem PySem.Spec PyProof.Rows
section
variable {K:Frag} {H H':Hp}
theorem wR {κ:Type} [DecidableEq κ] (kvs:List (κ×V)) (k:κ) (v:V):(zG kvs k v).map (·.1)=if k∈kvs.map (·.1) then kvs.map (·.1) else kvs.map (·.1)++[k]:=by
 have e:(kvs.any fun kv=>decide (kv.1=k))=true↔k∈kvs.map (·.1):=by
  rw [Db,Bt];exact ⟨fun ⟨x,hx,h⟩=>⟨x,hx,A3 h⟩,fun ⟨x,hx,h⟩=>⟨x,hx,Al h⟩⟩
 unfold zG
 by_cases h:(kvs.any fun kv=>decide (kv.1=k))=true
 ·rw [if_pos h,if_pos (e.mp h),Bx];refine List.map_congr_left fun x _=>?_;show (if x.1=k then (x.1,v) else x).1=x.1
  split <;> rfl
 ·rw [if_neg h,if_neg fun z=>h (e.mpr z),Ah];rfl
theorem Qi {κ:Type} [DecidableEq κ] (kvs:List (κ×V)) (k:κ):(vP kvs k).isSome=true↔k∈kvs.map (·.1):=by
 rw [← vW,Db,Bt];exact ⟨fun ⟨x,hx,h⟩=>⟨x,hx,A3 h⟩,fun ⟨x,hx,h⟩=>⟨x,hx,Al h⟩⟩
def YX {α:Type} (f:α→Key) (M:List α) (d:List (Key×V)):Prop:=∃ ks:List α,d.map (·.1)=ks.map f∧ks.Nodup∧∀ k∈ks,k∈M
theorem YX.nil {α:Type} {f:α→Key} {M:List α}:YX f M []:=⟨[],rfl,Ei,fun k h=>by cases h⟩
theorem YX.put {α:Type} {f:α→Key} {M:List α} {d:List (Key×V)} (h:YX f M d) {k:α} (hk:k∈M) (v:V):YX f M (zG d (f k) v):=by
 obtain ⟨ks,h1,h2,h3⟩:=h
 by_cases hm:f k∈d.map (·.1)
 ·exact ⟨ks,by rw [wR,if_pos hm];exact h1,h2,h3⟩
 refine ⟨ks++[k],?_,?_,fun x hx=>?_⟩
 ·rw [wR,if_neg hm,h1,Ah];rfl
 ·rw [D1];refine ⟨h2,by simp,fun x hx y hy z=>?_⟩
  cases Am.mp hy;subst z;exact hm (by rw [h1];exact B9 hx)
 ·rcases Az.mp hx with q | q
  ·exact h3 x q
  ·cases Am.mp q;exact hk
theorem YX.len {α:Type} [BEq α] [LawfulBEq α] {f:α→Key} {M:List α} {d:List (Key×V)} (h:YX f M d):∃ ks:List α,d.map (·.1)=ks.map f∧ks.length≤M.length∧d.length≤M.length∧∀ k∈ks,k∈M:=by
 obtain ⟨ks,h1,h2,h3⟩:=h;have q:=vf ks M h2 h3;have e2:=congrArg List.length h1;rw [Ab,Ab] at e2;exact ⟨ks,h1,q,⋯,h3⟩
structure Tab {α:Type} (f:α→Key) (M:List α) (H:Hp) (as:List Addr) (D:List (List (Key×V))):Prop where
 len:as.length=D.length
 nd:as.Nodup
 at_:∀ (i:Nat) (a:Addr) (d:List (Key×V)),as[i]?=some a→D[i]?=some d→H a=some (.dK d)
 ok:∀ d∈D,YX f M d
section
variable {α:Type} {f:α→Key} {M:List α} {as:List Addr} {D:List (List (Key×V))}
theorem Tab.nil:Tab f M H [] []:=⟨rfl,Ei,fun i a d h=>(by cases h),fun d h=>by cases h⟩
theorem Tab.same (g:qv H H') (h:Tab f M H as D):Tab f M H' as D:=⟨h.len,h.nd,fun i a d x y=>g _ _ (h.at_ i a d x y),h.ok⟩
theorem Tab.get (h:Tab f M H as D) {i:Nat} {a:Addr} (ha:as[i]?=some a):∃ d,D[i]?=some d∧H a=some (.dK d)∧YX f M d:=by
 have hi:=(Be.mp ha).1;have e:D[i]?=some (D[i]'(by have:=h.len;omega)):=Af (by have:=h.len;omega)
 exact ⟨_,e,h.at_ i a _ ha e,h.ok _ (Ay e)⟩
theorem Tab.ne (h:Tab f M H as D) {p:Addr} {o:HO} (n:∀ a∈as,a≠p):Tab f M (upd H p o) as D:=⟨h.len,h.nd,fun i a d x y=>by
 rw [qk (n a (Ay x))];exact h.at_ i a d x y,h.ok⟩
theorem Tab.put (h:Tab f M H as D) {i:Nat} {a:Addr} {d:List (Key×V)} (ha:as[i]?=some a) (hd:D[i]?=some d) {k:α} (hk:k∈M) (v:V):Tab f M (upd H a (.dK (zG d (f k) v))) as (D.modify i fun d=>zG d (f k) v):=by
 refine ⟨by rw [List.length_modify];exact h.len,h.nd,fun j b e x y=>?_,fun e he=>?_⟩
 ·rw [List.getElem?_modify] at y
  by_cases z:i=j
  ·subst z;rw [hd] at y;cases ha.symm.trans x;simp at y;subst y;exact upd_same
  ·have nb:b≠a:=fun e=>by
    subst e;obtain ⟨i1,e1⟩:=Be.mp ha;obtain ⟨j1,e2⟩:=Be.mp x;exact z ((List.getElem_inj h.nd).mp (e1.trans e2.symm))
   rw [qk nb];refine h.at_ j b e x ?_;cases q:D[j]? with
   | none=>rw [q] at y;cases y
   | some d'=>
    rw [q] at y;simp [z] at y;rw [y]
 ·obtain ⟨j,hj⟩:=Cn he;rw [List.getElem?_modify] at hj;cases q:D[j]? with
  | none=>rw [q] at hj;cases hj
  | some d'=>
   rw [q] at hj;have od:=h.ok d' (Ay q)
   by_cases z:i=j
   ·simp [z] at hj;rw [← hj];exact od.put hk v
   ·simp [z] at hj;rw [← hj];exact od
theorem Tab.snoc (h:Tab f M H as D) (g:qv H H') {a:Addr} (ha:H a=none) (e:H' a=some (.dK [])):Tab f M H' (as++[a]) (D++[[]]):=by
 have hl:=h.len;refine ⟨by rw [Ac,Ac,hl];rfl,?_,fun i b d x y=>?_,fun d hd=>?_⟩
 ·rw [D1];refine ⟨h.nd,by simp,fun x hx y hy z=>?_⟩
  cases Am.mp hy;subst z;obtain ⟨i,hi⟩:=Cn hx;obtain ⟨d,_,q,_⟩:=h.get hi;rw [ha] at q;cases q
 ·by_cases c:i<as.length
  ·rw [Bp c] at x;rw [Bp ⋯] at y;exact g _ _ (h.at_ i b d x y)
  ·have hi:i=as.length:=by
    have:=(Be.mp x).1;rw [Ac] at this;simp at this;omega
   subst hi;rw [Bl (Ag _),Da] at x;rw [hl,Bl (Ag _),Da] at y;cases x;cases y;exact e
 ·rcases Az.mp hd with hd | hd
  ·exact h.ok d hd
  ·cases Am.mp hd;exact .nil
end
end
end L2
namespace Mine
open PySem L2
structure SA where
 p:Addr
 n:Addr
 u:Addr
 b:Addr
 t:Addr
 k:Str
def oV:Option Nat→V
 | none=> .non
 | some j=> .int (j:Nat)
def sFl (o:V) (x:SA):List (Str×V):=[("kind",.str x.k),("outer",o),("names",.ref x.n),("used",.ref x.u),("boxed",.ref x.b),("taken",.ref x.t)]
theorem qhv (o:V) (x:SA):(sFl o x).lookup ("kind":Str)=some (.str x.k):=rfl
theorem Qp (o:V) (x:SA):(sFl o x).lookup ("outer":Str)=some o:=by rfl
theorem we (o:V) (x:SA):(sFl o x).lookup ("names":Str)=some (.ref x.n):=by rfl
theorem qcj (o:V) (x:SA):(sFl o x).lookup ("used":Str)=some (.ref x.u):=by rfl
theorem Qq (o:V) (x:SA):(sFl o x).lookup ("boxed":Str)=some (.ref x.b):=by rfl
theorem Qo (o:V) (x:SA):(sFl o x).lookup ("taken":Str)=some (.ref x.t):=by rfl
theorem qhu (k n u b t o:V):qC "taken" t (qC "boxed" b (qC "used" u (qC "names" n (qC "outer" o (qC "kind" k [])))))=([("kind",k),("outer",o),("names",n),("used",u),("boxed",b),("taken",t)]:List (Str×V)):=by rfl
theorem pl0:([]:List (Str×V)).length≤0:=Ag _
theorem pls {n:Nat} {k:Str} {v:V} {fs:List (Str×V)} (h:fs.length≤n):(qC k v fs).length≤n+1:=by
 induction fs generalizing n with
 | nil=>exact B7 (Bw _)
 | cons p r ih=>
  obtain ⟨g,x⟩:=p;unfold qC;split
  ·exact Dk h
  ·cases n with
   | zero=>cases h
   | succ n=>exact B7 (ih (Nat.le_of_succ_le_succ h))
theorem plk {n:Nat} {fs:List (Str×V)} (hn:n<1000) (h:fs.length≤n):fs.length<1000:=Cf h hn
structure ScAt (C:Addr) (H:Hp) (x:SA) (r:Tre.Row):Prop where
 ob:∃ dx,H x.p=some (.ins C dx (sFl (oV r.outer) x))
 nm:H x.n=some (.lst (r.names.map V.str))
 us:H x.u=some (.lst (r.used.map V.str))
 kd:x.k=r.kind
theorem ScAt.same {C:Addr} {H H':Hp} {x:SA} {r:Tre.Row} (g:qv H H') (h:ScAt C H x r):ScAt C H' x r:=by
 obtain ⟨⟨dx,a⟩,b,c,e⟩:=h;exact ⟨⟨dx,g _ _ a⟩,g _ _ b,g _ _ c,e⟩
def vG:List Int:=(List.range 60).map Int.ofNat
structure DS where
 B:List (List (Key×V))
 T:List (List (Key×V))
structure Scs (C:Addr) (L:List Str) (H:Hp) (xs:List SA) (rs:List Tre.Row) (S:DS):Prop where
 len:xs.length=rs.length
 sc:∀ (i:Nat) (x:SA) (r:Tre.Row),xs[i]?=some x→rs[i]?=some r→ScAt C H x r
 bx:Tab Sum.inl vG H (xs.map (·.b)) S.B
 tk:Tab Sum.inr L H (xs.map (·.t)) S.T
 ne:∀ x∈xs,∀ y∈xs,x.b≠y.t
theorem Scs.same {C:Addr} {L:List Str} {H H':Hp} {xs:List SA} {rs:List Tre.Row} {S:DS} (g:qv H H') (h:Scs C L H xs rs S):Scs C L H' xs rs S:=
 ⟨h.len,fun i x r a b=>(h.sc i x r a b).same g,h.bx.same g,h.tk.same g,h.ne⟩
theorem Scs.get {C:Addr} {L:List Str} {H:Hp} {xs:List SA} {rs:List Tre.Row} {S:DS} (h:Scs C L H xs rs S) {i:Nat} {r:Tre.Row} (hr:rs[i]?=some r):∃ x,xs[i]?=some x∧ScAt C H x r:=by
 have hi:i<rs.length:=by
  obtain ⟨q,_⟩:=Be.mp hr;exact q
 have e:xs[i]?=some (xs[i]'(by have:=h.len;omega)):=Af (by have:=h.len;omega)
 exact ⟨_,e,h.sc _ _ _ e hr⟩
abbrev J7 (xs:List SA):List V:=xs.map fun x=> .ref x.p
section
variable {P:Program} {w:World} {K:Frag} {mg:Str→Option Value} {base:Heap} {f:Addr} {fd:FuncData} {ad:Ad}
inductive spScI (K:Frag) (C:Addr) (vs:List V) (H:Hp) (Q:VK) (E':XK):Prop
 | mk:∀ (p dx:Addr) (v:V) (e:PyData) (i:Nat),(vs=[.ref p,v])→(H p=some (.ins C dx []))→(Rep K H v e)→(Tre.noL e=true)→(Tre.FnW e i)→(∀ (H':Hp) (x:SA),x.p=p→ScAt C H' x (Tre.WM e)→H' x.b=some (.dK [])→H' x.t=some (.dK [])→x.b≠x.t→H x.b=none→H x.t=none→(∀ b o,b≠p→H b=some o→H' b=some o)→Q .non H')→spScI K C vs H Q E'
def qb6 (K:Frag):TS:=qB (qbe K (qg 0) wE (Str.ofString "boxed")) (qbe K (qg 0) wE (Str.ofString "taken"))
def qb5 (K:Frag):TS:=qB (qbe K (qg 0) (qG (spUsed K) [] E0 (qf (tOp (rIx K) (qg 1) (tC (V.int 2))) qp)) (Str.ofString "used")) (qb6 K)
def qb4 (K:Frag):TS:=qB (qbe K (qg 0) (qG (spNm K) [] E0 (qf (tOp (rIx K) (qg 1) (tC (V.int 1))) (qf (tOp (rIx K) (qg 1) (tC (V.int 2))) qp))) (Str.ofString "names")) (qb5 K)
def qb3 (K:Frag):TS:=qB (qbe K (qg 0) (tOp (rIx K) (qg 1) (tC (V.int 3))) (Str.ofString "outer")) (qb4 K)
theorem qd7 (F:Fun K "__init__" "Scope.__init__" yV f fd) (c:Cs K mg ad) (d_names_of:Def P w K mg base 22 "names_of" ["params","body"] (spNm K)) (d_used_in:Def P w K mg base 3 "used_in" ["body"] (spUsed K)):FnOk P w K mg base CX0 23 f fd ["self","function"] (spScI K ad.Scope):=by
 refine F.ok qdz (fun vs H Q E h=>?_) (fun cdv A outer s H vs Q E hr h=>?_)
 ·obtain ⟨p,dx,v,e,i,rfl,_⟩:=h;rfl
 obtain ⟨p,dx,v,e,i,rfl,hp,re,nol,fw,q⟩:=h;refine ⟨_,(qd (wM (pv 0) (pix K (pv 1) qh) rfl)
   (qd (wM (pv 0) (pix K (pv 1) qh) rfl)
   (qd (wM (pv 0) (pdf d_names_of (qb (pix K (pv 1) qh) (qb (pix K (pv 1) qh) qc))) rfl)
   (qd (wM (pv 0) (pdf d_used_in (qb (pix K (pv 1) qh) qc)) rfl)
   (qd (wM (pv 0) v6 rfl)
   (qi (wM (pv 0) v6 rfl))))))),?_⟩
 show qB (qbe K (qg 0) (tOp (rIx K) (qg 1) (tC (V.int 0))) (Str.ofString "kind")) (qb3 K) _ _ _;obtain ⟨hd,ns,xs,o,s1,t1,rfl,hn1,hn2,tl,hs,ht,ho⟩:=fw.ex;rw [Tre.noL,Tre.zH,Tre.zH,Tre.zH,Tre.zH,Ae,Ae,Ae,Ae] at nol;obtain ⟨_,nl1,nl2,nl3,_⟩:=nol;refine re.tp4 fun a y1 y2 y3 e' hq r1 r2 r3=>?_;subst e';have ey:y3=oV (Tre.WM (.tuple [.str hd,.tuple ns,.tuple xs,o])).outer:=by
  rcases ho with rfl | ⟨j,rfl,_⟩
  ·cases r3;rfl
  ·cases r3;rfl
 refine ⟨_,rfl,.inr (.inl ⟨a,_,0,_,rfl,rfl,hq,qo (j:=0) rfl,_,rfl,p,_,dx,[],rfl,hp,c.cl,c.aK,O0,?_⟩)⟩;have k1:∀ b o,b≠p→H b=some o→upd H p (.ins ad.Scope dx (qC "kind" (.str hd) [])) b=some o:=fun b o n e=>by rw [qk n];exact e
 have t1':Tp H (upd H p (.ins ad.Scope dx (qC "kind" (.str hd) []))):=Tp.put hp rfl;have p1:upd H p (.ins ad.Scope dx (qC "kind" (.str hd) [])) p=some (.ins ad.Scope dx (qC "kind" (.str hd) [])):=upd_same;have f1:∀ b,upd H p (.ins ad.Scope dx (qC "kind" (.str hd) [])) b=none→H b=none:=fun b e=>by
  by_cases z:b=p
  ·rw [z,upd_same] at e;cases e
  ·rw [qk z] at e;exact e
 dsimp only;generalize upd H p (.ins ad.Scope dx (qC "kind" (.str hd) []))=H1 at k1 t1' p1 f1 ⊢;refine ⟨_,rfl,.inr (.inl ⟨a,_,3,_,rfl,rfl,hq.tp t1',qo (j:=3) rfl,_,rfl,p,_,dx,_,rfl,p1,c.cl,c.aO,plk (n:=1) O0 (pls pl0),?_⟩)⟩;have k2:∀ b o,b≠p→H1 b=some o→upd H1 p (.ins ad.Scope dx (qC "outer" y3 (qC "kind" (.str hd) []))) b=some o:=fun b o n e=>by rw [qk n];exact e
 have t2':Tp H (upd H1 p (.ins ad.Scope dx (qC "outer" y3 (qC "kind" (.str hd) [])))):=t1'.trans (Tp.put p1 rfl);have p2:upd H1 p (.ins ad.Scope dx (qC "outer" y3 (qC "kind" (.str hd) []))) p=some (.ins ad.Scope dx (qC "outer" y3 (qC "kind" (.str hd) []))):=upd_same;have f2:∀ b,upd H1 p (.ins ad.Scope dx (qC "outer" y3 (qC "kind" (.str hd) []))) b=none→H b=none:=fun b e=>by
  by_cases z:b=p
  ·rw [z,upd_same] at e;cases e
  ·rw [qk z] at e;exact f1 b e
 dsimp only;generalize upd H1 p (.ins ad.Scope dx (qC "outer" y3 (qC "kind" (.str hd) [])))=H2 at k2 t2' p2 f2 ⊢;refine ⟨_,rfl,.inr (.inl ⟨a,_,1,_,rfl,rfl,hq.tp t2',qo (j:=1) rfl,_,rfl,.inr (.inl ⟨a,_,2,_,rfl,rfl,hq.tp t2',qo (j:=2) rfl,_,_,ns,xs,s1,t1,rfl,r1.tp t2' nl1,hn1,hn2,r2.tp t2' nl2,tl,hs,ht,fun H3 n g3 hn h3=>?_⟩)⟩)⟩;have np:n≠p:=Ne.symm (qD p2 hn);refine ⟨_,rfl,p,_,dx,_,rfl,g3 _ _ p2,c.cl,c.aN,plk (n:=2) O0 (pls (pls pl0)),?_⟩;have k4:∀ b o,b≠p→H3 b=some o→upd H3 p (.ins ad.Scope dx (qC "names" (.ref n) (qC "outer" y3 (qC "kind" (.str hd) [])))) b=some o:=fun b o z e=>by rw [qk z];exact e
 have t4:Tp H (upd H3 p (.ins ad.Scope dx (qC "names" (.ref n) (qC "outer" y3 (qC "kind" (.str hd) []))))):=(t2'.trans (Tp.of g3)).trans (Tp.put (g3 _ _ p2) rfl);have p4:upd H3 p (.ins ad.Scope dx (qC "names" (.ref n) (qC "outer" y3 (qC "kind" (.str hd) [])))) p=some (.ins ad.Scope dx (qC "names" (.ref n) (qC "outer" y3 (qC "kind" (.str hd) [])))):=upd_same;have f4:∀ b,upd H3 p (.ins ad.Scope dx (qC "names" (.ref n) (qC "outer" y3 (qC "kind" (.str hd) [])))) b=none→H b=none:=fun b e=>by
  by_cases z:b=p
  ·rw [z,upd_same] at e;cases e
  ·rw [qk z] at e;exact f2 b (g3.free e)
 dsimp only;generalize upd H3 p (.ins ad.Scope dx (qC "names" (.ref n) (qC "outer" y3 (qC "kind" (.str hd) []))))=H4 at k4 t4 p4 f4 ⊢;refine ⟨_,rfl,.inr (.inl ⟨a,_,2,_,rfl,rfl,hq.tp t4,qo (j:=2) rfl,_,xs,s1,t1,rfl,r2.tp t4 nl2,tl,hs,ht,fun H5 u g5 hu h5=>?_⟩)⟩;have up:u≠p:=Ne.symm (qD p4 hu);refine ⟨_,rfl,p,_,dx,_,rfl,g5 _ _ p4,c.cl,c.aU,plk (n:=3) O0 (pls (pls (pls pl0))),?_⟩;have k6:∀ b o,b≠p→H5 b=some o→upd H5 p (.ins ad.Scope dx (qC "used" (.ref u) (qC "names" (.ref n) (qC "outer" y3 (qC "kind" (.str hd) []))))) b=some o:=fun b o z e=>by rw [qk z];exact e
 have p6:upd H5 p (.ins ad.Scope dx (qC "used" (.ref u) (qC "names" (.ref n) (qC "outer" y3 (qC "kind" (.str hd) []))))) p=some (.ins ad.Scope dx (qC "used" (.ref u) (qC "names" (.ref n) (qC "outer" y3 (qC "kind" (.str hd) []))))):=upd_same;have f6:∀ b,upd H5 p (.ins ad.Scope dx (qC "used" (.ref u) (qC "names" (.ref n) (qC "outer" y3 (qC "kind" (.str hd) []))))) b=none→H b=none:=fun b e=>by
  by_cases z:b=p
  ·rw [z,upd_same] at e;cases e
  ·rw [qk z] at e;exact f4 b (g5.free e)
 dsimp only;generalize upd H5 p (.ins ad.Scope dx (qC "used" (.ref u) (qC "names" (.ref n) (qC "outer" y3 (qC "kind" (.str hd) [])))))=H6 at k6 p6 f6 ⊢;intro b hb;have bp:b≠p:=Ne.symm (qD p6 hb);refine ⟨_,rfl,p,_,dx,_,rfl,(by rw [qk (Ne.symm bp)];exact p6),c.cl,c.aB,plk (n:=4) O0 (pls (pls (pls (pls pl0)))),?_⟩
 dsimp only;have k7:∀ c o,c≠p→H6 c=some o→upd (upd H6 b (.dK [])) p (.ins ad.Scope dx (qC "boxed" (.ref b) (qC "used" (.ref u) (qC "names" (.ref n) (qC "outer" y3 (qC "kind" (.str hd) [])))))) c=some o:=fun c o z e=>by rw [qk z];exact qe hb _ _ _ e
 have b7:upd (upd H6 b (.dK [])) p (.ins ad.Scope dx (qC "boxed" (.ref b) (qC "used" (.ref u) (qC "names" (.ref n) (qC "outer" y3 (qC "kind" (.str hd) [])))))) b=some (.dK []):=by rw [qk bp];exact upd_same
 have p7:upd (upd H6 b (.dK [])) p (.ins ad.Scope dx (qC "boxed" (.ref b) (qC "used" (.ref u) (qC "names" (.ref n) (qC "outer" y3 (qC "kind" (.str hd) [])))))) p=some (.ins ad.Scope dx (qC "boxed" (.ref b) (qC "used" (.ref u) (qC "names" (.ref n) (qC "outer" y3 (qC "kind" (.str hd) [])))))):=upd_same;have f7:∀ c,upd (upd H6 b (.dK [])) p (.ins ad.Scope dx (qC "boxed" (.ref b) (qC "used" (.ref u) (qC "names" (.ref n) (qC "outer" y3 (qC "kind" (.str hd) [])))))) c=none→H c=none:=fun c e=>by
  by_cases z:c=p
  ·rw [z,upd_same] at e;cases e
  ·rw [qk z] at e;exact f6 c ((qe hb _).free e)
 generalize upd (upd H6 b (.dK [])) p (.ins ad.Scope dx (qC "boxed" (.ref b) (qC "used" (.ref u) (qC "names" (.ref n) (qC "outer" y3 (qC "kind" (.str hd) []))))))=H7 at k7 b7 p7 f7 ⊢;intro t ht';have tp:t≠p:=Ne.symm (qD p7 ht');refine ⟨_,rfl,p,_,dx,_,rfl,(by rw [qk (Ne.symm tp)];exact p7),c.cl,c.aT,plk (n:=5) O0 (pls (pls (pls (pls (pls pl0))))),?_⟩
 have k8:∀ c o,c≠p→H7 c=some o→upd (upd H7 t (.dK [])) p (.ins ad.Scope dx (qC "taken" (.ref t) (qC "boxed" (.ref b) (qC "used" (.ref u) (qC "names" (.ref n) (qC "outer" y3 (qC "kind" (.str hd) []))))))) c=some o:=fun c o z e=>by rw [qk z];exact qe ht' _ _ _ e
 have kk:∀ c o,c≠p→H3 c=some o→upd (upd H7 t (.dK [])) p (.ins ad.Scope dx (qC "taken" (.ref t) (qC "boxed" (.ref b) (qC "used" (.ref u) (qC "names" (.ref n) (qC "outer" y3 (qC "kind" (.str hd) []))))))) c=some o:=fun c o z e=>k8 c o z (k7 c o z (k6 c o z (g5 _ _ (k4 c o z e))));refine q _ ⟨p,n,u,b,t,hd⟩ rfl ⟨⟨dx,?_⟩,kk _ _ np h3,k8 _ _ up (k7 _ _ up (k6 _ _ up h5)),rfl⟩ (k8 _ _ bp b7) ?_ (qD b7 ht') (f6 b hb) (f7 t ht') (fun c o z e=>kk c o z (g3 _ _ (k2 c o z (k1 c o z e))))
 ·rw [upd_same,qhu,ey];rfl
 ·rw [qk tp];exact upd_same
theorem QU (h:Str) (l:List Str):inV (.str h) (l.map V.str)=l.contains h:=by
 rw [wt,Ca,B2,Db];exact ⟨fun ⟨y,hy,e⟩=>A4.mp e▸hy,fun hy=>⟨h,hy,A4.mpr rfl⟩⟩
theorem qc6 (l:List Str):(l.map V.str).all Vi=true:=by
 rw [C9];exact A8.mpr fun _ _=>rfl
inductive spOwn (K:Frag) (C:Addr) (vs:List V) (H:Hp) (Q:VK) (E':XK):Prop
 | mk:∀ (ps:Addr) (i:Nat) (nm:Str) (L:List Str) (xs:List SA) (rs:List Tre.Row) (Z:DS),(vs=[.ref ps,.int (i:Nat),.str nm])→(SqL K H ps (J7 xs))→(Scs C L H xs rs Z)→(Tre.Vp rs)→(i<rs.length)→(Q (oV (Tre.zI rs i nm)) H)→spOwn K C vs H Q E'
inductive Iv_NamD8_0 (H:Hp) (ps:Addr) (i:Nat) (nm:Str) (rs:List Tre.Row) (m:Nat) (σ:St) (H':Hp):Prop
 | mk:(H'=H)→(((∃ j:Nat,m=j+1∧j<rs.length∧σ=[some (.ref ps),some (.int (j:Nat)),some (.str nm)]∧Tre.zI rs j nm=Tre.zI rs i nm)∨(σ=[some (.ref ps),some .non,some (.str nm)]∧Tre.zI rs i nm=none)))→Iv_NamD8_0 H ps i nm rs m σ H'
def ZX (K:Frag):TS:=qP (wc K (tOp (rIx K) (qg 0) (qg 1)) (Str.ofString "outer")) (qm 1)
theorem QD (F:Fun K "owner_of" "owner_of" VU f fd) (c:Cs K mg ad):FnOk P w K mg base CX0 1 f fd ["scopes","number","name"] (spOwn K ad.Scope):=by
 refine F.ok WL (fun vs H Q E h=>?_) (fun cdv A outer s H vs Q E hr h=>?_)
 ·obtain ⟨ps,i,nm,L,xs,rs,Z,rfl,_⟩:=h;rfl
 obtain ⟨ps,i,nm,L,xs,rs,Z,rfl,hS,S,bk,hi,q⟩:=h;refine ⟨_,(qd (Jl Bh (PW.pt (J8 (qr Zr (pv 1) JN (qz _)) (JA (qr (Ya (K:=K) rfl) (pv 2) (j8 (pix K (pv 0) (pv 1)) rfl) rfl)))) (qi (pst 1 WL.nd (j8 (pix K (pv 0) (pv 1)) rfl))))
   (qi (qw (pv 1)))),?_⟩
 show qB (vk (wF (qJ (tOp (fun x y H Q=>y=V.non∧Q (V.bl !decide (x=V.non)) H) (qg 1) (tC V.non))) (qJ (tOp (rIn K true) (qg 2) (wc K (tOp (rIx K) (qg 0) (qg 1)) (Str.ofString "names"))))) (ZX K)) (zV (qg 1)) _ _ _;refine ⟨(Iv_NamD8_0 H ps i nm rs),⟨i+1,rfl,.inl ⟨i,rfl,hi,rfl,rfl⟩⟩,?_⟩;rintro m σ H' ⟨rfl,⟨j,rfl,hj,rfl,hh⟩ | ⟨rfl,hn⟩⟩
 ·have hr':rs[j]?=some rs[j]:=Af hj;obtain ⟨x,hx,sc⟩:=S.get hr';obtain ⟨⟨dx,ob⟩,hnm,hus⟩:=sc;have hv:(J7 xs)[j]?=some (.ref x.p):=by rw [Ar,hx];rfl
  have step:=Tre.JD bk (x:=nm) hr';refine ⟨_,rfl,rfl,_,rfl,qX rfl ?_⟩;refine ⟨_,rfl,_,rfl,_,rfl,.inl ⟨ps,_,_,_,rfl,rfl,hS,qo (j:=j) hv,x.p,_,dx,_,_,rfl,ob,c.cl,c.aN,we _ _,x.n,_,rfl,.inl (SqL.of hnm),rfl,qc6 _,_,rfl,?_⟩⟩;rw [if_pos rfl,QU]
  by_cases hc:rs[j].names.contains nm=true
  ·rw [hc];refine qO rfl ⟨_,rfl,?_⟩;rw [if_pos hc] at step;rw [← hh,step] at q;exact q
  ·rw [Bz.mpr hc];rw [if_neg hc] at step;refine qX rfl ⟨fun σ' H'=>∃ m',m'<j+1∧_,fun σ' H' h=>h,?_⟩;refine ⟨_,rfl,_,rfl,.inl ⟨ps,_,_,_,rfl,rfl,hS,qo (j:=j) hv,x.p,_,dx,_,_,rfl,ob,c.cl,c.aO,Qp _ _,?_⟩⟩;cases eo:rs[j].outer with
   | none=>
    rw [eo] at step;exact ⟨0,Nat.succ_pos _,rfl,.inr ⟨rfl,hh.symm.trans step⟩⟩
   | some k=>
    rw [eo] at step;have hk:=bk j _ hr' k eo;exact ⟨k+1,⋯,rfl,.inl ⟨k,rfl,⋯,rfl,step.symm.trans hh⟩⟩
 ·refine ⟨_,rfl,rfl,_,rfl,qO rfl ?_⟩;refine qO rfl ⟨_,rfl,?_⟩;rw [hn] at q;exact q
structure RowOk (L:List Str) (r:Tre.Row):Prop where
 nl:∀ x∈r.names,x.length≤1000∧x∈L∧PyData.strOk x=true
 ul:∀ x∈r.used,x.length≤1000∧x∈L∧PyData.strOk x=true
 nn:r.names.length≤400
 un:r.used.length≤400
inductive spRef (K:Frag) (C:Addr) (vs:List V) (H:Hp) (Q:VK) (E':XK):Prop
 | mk:∀ (ps:Addr) (i:Nat) (L:List Str) (xs:List SA) (rs:List Tre.Row) (Z:DS) (r:Tre.Row),(vs=[.ref ps,.int (i:Nat)])→(SqL K H ps (J7 xs))→(Scs C L H xs rs Z)→(Tre.Vp rs)→(rs[i]?=some r)→(RowOk L r)→(Tre.bad rs i r=[])→(∀ H',qv H H'→Q .non H')→spRef K C vs H Q E'
theorem qec (rs:List Tre.Row) (i:Nat) (x:Str) (l:List Str):Tre.ZD rs i (x::l)=if (Tre.zI rs i x).isNone=true then x::Tre.ZD rs i l else Tre.ZD rs i l:=by
 unfold Tre.ZD;rw [List.filter_cons]
inductive Iv_NamD8_2 (H:Hp) (ps:Addr) (i:Nat) (rs:List Tre.Row) (r:Tre.Row) (d:Addr) (j:Nat) (σ:St) (H':Hp):Prop
 | mk:∀ o3,(σ=[some (.ref ps),some (.int (i:Nat)),some (.ref d),o3])→(qv H H')→(Tre.ZD rs i (r.used.drop j)=Tre.ZD rs i r.used)→Iv_NamD8_2 H ps i rs r d j σ H'
inductive Iv_NamD8_1 (H:Hp) (ps:Addr) (i:Nat) (r:Tre.Row) (d:Addr) (j:Nat) (σ:St) (H':Hp):Prop
 | mk:∀ o3 kvs,(σ=[some (.ref ps),some (.int (i:Nat)),some (.ref d),o3])→(qv H H')→(H' d=some (.dK kvs))→(kvs.map (·.1)=(r.names.take j).map Sum.inr)→(Tre.jK (r.names.take j) (r.names.drop j)=Tre.jK [] r.names)→Iv_NamD8_1 H ps i r d j σ H'
def Wc:TS:=XI (qg 2) (qg 3) (tC (V.bl true))
def Wb:TS:=qB (zJ (tB (qlz (qg 3) (qg 2))) tNo zu) Wc
def Wa (K:Frag) (ad:Ad):TS:=zJ (qJ (tOp (fun x y H Q=>y=V.non∧Q (V.bl (decide (x=V.non))) H) (qG (spOwn K ad.Scope) [] E0 (qf (qg 0) (qf (qg 1) (qf (qg 3) qp)))) (tC V.non))) tNo zu
def w8 (K:Frag) (ad:Ad):TS:=Jv (jD K (wc K (tOp (rIx K) (qg 0) (qg 1)) (Str.ofString "used"))) (qm 3) (Wa K ad)
def w6 (K:Frag) (ad:Ad):TS:=qB (Jv (jD K (wc K (tOp (rIx K) (qg 0) (qg 1)) (Str.ofString "names"))) (qm 3) Wb) (w8 K ad)
theorem WZ (F:Fun K "refuse_names" "refuse_names" JH f fd) (c:Cs K mg ad) (d_owner_of:Def P w K mg base 1 "owner_of" ["scopes","number","name"] (spOwn K ad.Scope)):FnOk P w K mg base CX0 5 f fd ["scopes","number"] (spRef K ad.Scope):=by
 refine F.ok (k:=4) jz (fun vs H Q E h=>?_) (fun cdv A outer s H vs Q E hr h=>?_)
 ·obtain ⟨ps,i,L,xs,rs,Z,r,rfl,_⟩:=h;rfl
 obtain ⟨ps,i,L,xs,rs,Z,r,rfl,hS,S,bk,hri,ok,hbad,q1⟩:=h;have tw0:=Dq.mp hbad;have hu:=Ve hr;refine ⟨_,(qd (pst 2 jz.nd v6)
   (qd (zT Bh rfl (j5 (K:=K) rfl (j8 (pix K (pv 0) (pv 1)) rfl)) (pgn 3 jz.nd) (qd (qK (qkf (qkr hu (pv 3) (pv 2))) (qi qgb) qy)
   (qi (JX hu (pv 2) (pv 3) jw rfl))))
   (qi (zT Bh rfl (j5 (K:=K) rfl (j8 (pix K (pv 0) (pv 1)) rfl)) (pgn 3 jz.nd) (qi (qK (qr qgk (pdf d_owner_of (qb (pv 0) (qb (pv 1) (qb (pv 3) qc)))) JN (qz _)) (qi qgb) qy)))))),?_⟩
 show qB (qP wE (qm 2)) (w6 K ad) _ _ _;clear hu;have hi:i<rs.length:=(Be.mp hri).1;obtain ⟨x,hx,⟨⟨dx0,ob⟩,hnm,hus⟩⟩:=S.get hri;have hv:(J7 xs)[i]?=some (.ref x.p):=by rw [Ar,hx];rfl
 intro d hd;have g0:=qe hd (.dK []);have h0:upd H d (.dK []) d=some (.dK []):=upd_same;generalize upd H d (.dK [])=H0 at g0 h0 ⊢;refine ⟨_,rfl,_,rfl,.inl ⟨ps,_,_,_,rfl,rfl,g0.seq hS,qo (j:=i) hv,x.p,_,dx0,_,_,rfl,g0 _ _ ob,c.cl,c.aN,we _ _,.inl ⟨x.n,rfl,⟨_,SqL.of (g0 _ _ hnm)⟩,?_⟩⟩⟩;have nn:=ok.nn;refine jZ r.names.length (Iv_NamD8_1 H ps i r d) ?_ (fun j σ H2 hj h=>?_) (fun σ H2 h=>?_)
 ·exact ⟨none,[],rfl,g0,h0,rfl,rfl⟩
 ·obtain ⟨o3,kvs,rfl,g2,hd2,hk,htw⟩:=h;obtain ⟨nm,ej⟩:=Vf (l:=r.names) (i:=j) hj;have hxj:(r.names.map V.str)[j]?=some (.str nm):=by rw [Ar,ej];rfl
  refine ⟨⟨_,_,SqL.of (g2 _ _ hnm),hxj⟩,fun v H3 yl D' hn _=>?_⟩;obtain ⟨rfl,hv3⟩:=yl;have ev:=hxj.symm.trans (hv3 _ (SqL.of (g2 _ _ hnm)));cases ev;have hmem:nm∈r.names:=Ay ej;have htk:r.names.take (j+1)=r.names.take j++[nm]:=by rw [Bb,ej];rfl
  rw [Q5 ej,Tre.jK] at htw;have kin:(vP kvs (Sum.inr nm)).isSome=(r.names.take j).contains nm:=by
   rw [Ca,Qi,hk,B2,Bt];exact ⟨fun ⟨y,hy,e⟩=>Ew e▸hy,fun hy=>⟨nm,hy,rfl⟩⟩
  refine ⟨_,rfl,_,rfl,d,_,rfl,vL.k (k:=Sum.inr nm) hd2,_,rfl,?_⟩;rw [kin]
  by_cases hc:(r.names.take j).contains nm=true
  ·rw [if_pos hc] at htw;rw [tw0.1] at htw;cases htw
  ·rw [if_neg hc] at htw;refine qO (Bz.mpr hc) ?_;have kl:kvs.length≤400:=by
    have e:=congrArg List.length hk;rw [Ab,Ab] at e;have:=List.length_take_le' j r.names;omega
   refine ⟨_,rfl,_,rfl,d,_,rfl,yA.k (k:=Sum.inr nm) hd2 (jy ⋯),hn _ _ ⟨_,_,rfl,qE g2 hd _,upd_same,?_,?_⟩⟩
   ·rw [wR,if_neg,hk,htk,Ah]
    ·rfl
    ·rw [← Qi,kin];exact hc
   ·rw [htk];exact htw
 ·obtain ⟨o3,kvs,rfl,g2,hd2,hk,htw⟩:=h;rw [List.drop_length,Bo,Tre.jK] at htw;refine ⟨⟨_,SqL.of (g2 _ _ hnm),by rw [Ab];exact Ag _⟩,?_⟩
  refine ⟨_,rfl,_,rfl,.inl ⟨ps,_,_,_,rfl,rfl,g2.seq hS,qo (j:=i) hv,x.p,_,dx0,_,_,rfl,g2 _ _ ob,c.cl,c.aU,qcj _ _,.inl ⟨x.u,rfl,⟨_,SqL.of (g2 _ _ hus)⟩,?_⟩⟩⟩;refine jZ r.used.length (Iv_NamD8_2 H ps i rs r d) ?_ (fun j σ H3 hj h=>?_) (fun σ H3 h=>?_)
  ·exact ⟨_,rfl,g2,rfl⟩
  ·obtain ⟨o3,rfl,g3,hl⟩:=h;obtain ⟨nm,ej⟩:=Vf (l:=r.used) (i:=j) hj;have hxj:(r.used.map V.str)[j]?=some (.str nm):=by rw [Ar,ej];rfl
   refine ⟨⟨_,_,SqL.of (g3 _ _ hus),hxj⟩,fun v H4 yl D' hn _=>?_⟩;obtain ⟨rfl,hv3⟩:=yl;have ev:=hxj.symm.trans (hv3 _ (SqL.of (g3 _ _ hus)));cases ev;have hmem:nm∈r.used:=Ay ej;rw [Q5 ej,qec] at hl;refine ⟨_,rfl,_,rfl,_,rfl,ps,i,nm,L,xs,rs,Z,rfl,g3.seq hS,S.same g3,bk,hi,rfl,_,rfl,?_⟩;cases eh:Tre.zI rs i nm with
   | none=>
    rw [eh] at hl;exact absurd (hl.trans tw0.2) (by simp)
   | some k=>
    rw [eh] at hl;exact qO rfl (hn _ _ ⟨_,rfl,g3,hl⟩)
  ·obtain ⟨o3,rfl,g3,hl⟩:=h;rw [List.drop_length] at hl;refine ⟨⟨_,SqL.of (g3 _ _ hus),by rw [Ab];exact Ag _⟩,q1 _ g3⟩
end
end Mine
namespace Tre
open PySem
section
variable {L:List Str}
theorem vh:∀ {xs:List PyData},ja L xs=true→∀ x∈xs,inL L x=true
 | [],_,x,hx=>by cases hx
 | y::r,h,x,hx=>by
  rw [ja,Ae] at h;rcases Ao.mp hx with rfl | hx
  ·exact h.1
  ·exact vh h.2 x hx
theorem qbw {t e:PyData} {sh u:Str} (ft:inL L t=true) (h:(e,u)∈qj t sh):inL L e=true:=by
 unfold qj at h;split at h
 ·rw [Am] at h;cases h;exact ft
 ·split at h
  ·cases t with
   | tuple xs=>
    obtain ⟨x,hx,ex⟩:=Bt.mp h;rw [inL] at ft;have q:=vh ft x hx;cases ex;exact q
   | _=>cases h
  ·cases h
theorem qcw {d e:PyData} (f:inL L d=true) (h:e∈qL d):inL L e=true:=by
 unfold qL at h;obtain ⟨⟨e',u⟩,h2,rfl⟩:=Bt.mp h;clear h;unfold zw at h2;split at h2
 ·rename_i hd ts;obtain ⟨p,hz,hp⟩:=Cj.mp h2;rw [inL,ja,Ae] at f;exact qbw (vh f.2 p.1 (Dg hz).1) hp
 ·cases h2
def Nm (L:List Str) (x:Str):Prop:=zn x=true∧x∈L
theorem Yg {x:Str} (h:inL L (.str x)=true):x∈L:=by
 rw [inL] at h;exact B2.mp h
theorem qdk {x:Str}:∀ {xs:List PyData},x∈brL xs→∃ y∈xs,x∈brS y
 | [],h=>by
  rw [brL] at h;cases h
 | y::r,h=>by
  rw [brL] at h;rcases Az.mp h with h | h
  ·exact ⟨y,A5 ..,h⟩
  ·obtain ⟨z,hz,h⟩:=qdk h;exact ⟨z,A9 _ hz,h⟩
theorem qlp {n:Nat} (IH:∀ {xs:List PyData} {s t:Nat},Trl xs s t→t≤n→ja L xs=true→∀ x∈brL xs,Nm L x) {y:PyData} {s0 t0:Nat} (h1:Tr y s0 t0) (ht:t0≤n+1) (hy:inL L y=true):∀ x∈brS y,Nm L x:=by
 cases wG h1 with
 | let_ hn=>
  rw [ZU];intro x hx;cases Am.mp hx;rw [inL,ja,ja,Ae,Ae] at hy;exact ⟨hn,Yg hy.2.1⟩
 | if_ _ _ p q e l1 l2=>
  rw [inL,ja,ja,ja,ja,Ae,Ae,Ae,Ae,inL,inL] at hy;rw [qdj];intro x hx;rcases Az.mp hx with hx | hx
  ·exact IH p ⋯ hy.2.2.1 x hx
  ·exact IH q ⋯ hy.2.2.2.1 x hx
 | while_ _ p e l1=>
  rw [inL,ja,ja,ja,Ae,Ae,Ae] at hy;have h3:=hy.2.2.1;rw [inL] at h3;rw [wy];exact IH p ⋯ h3
 | try_ hc _ _ _ p q r e l1 l2 l3=>
  rw [inL,ja,ja,ja,ja,ja,ja,Ae,Ae,Ae,Ae,Ae,Ae] at hy;obtain ⟨_,y1,_,y3,y4,y5,_⟩:=hy;rw [inL] at y1 y4 y5;rw [ZT];intro x hx;rcases Az.mp hx with hx | hx
  ·exact IH p ⋯ y1 x hx
  ·rcases Ao.mp hx with rfl | hx
   ·exact ⟨hc,Yg y3⟩
   ·rcases Az.mp hx with hx | hx
    ·exact IH q ⋯ y4 x hx
    ·exact IH r ⋯ y5 x hx
 | else_ k1 k2 k3 k4 _=>
  rw [Vw k1 k2 k3 k4];intro x hx;cases hx
theorem qjt:∀ (n:Nat) {xs:List PyData} {s t:Nat},Trl xs s t→t≤n→ja L xs=true→∀ x∈brL xs,Nm L x
 | 0,xs,s,t,h,ht,hi=>by
  have:t=0:=⋯;subst this;cases h.zero;intro x hx;rw [brL] at hx;cases hx
 | n+1,xs,s,t,h,ht,hi=>fun x hx=>by
  obtain ⟨y,hy,hx⟩:=qdk hx;obtain ⟨s1,t1,tr,_,ht1⟩:=h.mem y hy;exact qlp (qjt n) tr (A0 ht1 ht) (vh hi y hy) x hx
theorem qca:∀ (n:Nat) {d:PyData} {s t:Nat},Tr d s t→inL L d=true→∀ x∈jd n d,Nm L x
 | 0,d,s,t,h,hi=>by
  rw [wa,WH];intro x hx;cases hx
 | n+1,d,s,t,h,hi=>by
  rw [JC];intro x hx;split at hx
  ·cases hx
  ·rcases Az.mp hx with hx | hx
   ·have h0:=h;cases h with
    | mk hf tl=>
     obtain ⟨hd,ts,fs,l,rfl,_⟩:=qZ hf
     by_cases hh:hd="name"∨hd="set"
     ·obtain ⟨y,r,rfl,hy,e⟩:=yZ h0 hh;rw [e] at hx;cases Am.mp hx;rw [inL,ja,ja,Ae,Ae] at hi;exact ⟨hy,Yg hi.2.1⟩
     ·rw [wl hh] at hx;cases hx
   ·obtain ⟨e,he,hx⟩:=Cj.mp hx;cases h with
    | mk hf tl=>
     obtain ⟨s',t',h',_,_⟩:=tl.mem e he;exact qca n h' (qcw hi he) x hx
theorem qlu {d o:PyData} {acc:List PyData} (hd:inL L d=true) (ho:inL L o=true) (ha:∀ e∈acc,inL L e=true):(∀ e∈qS d o acc,inL L e=true)∧inL L (zy d o acc)=true:=by
 unfold qS zy;split
 ·refine ⟨fun e he=>?_,by rw [inL];all_goals (intro _ z;cases z)⟩
  rcases Az.mp he with he | he
  ·exact ha e he
  ·cases Am.mp he;unfold fnOf;split
   ·rw [inL,ja,ja,ja,Ae,Ae,Ae] at hd;rw [inL,ja,ja,ja,ja,ja,hd.1,hd.2.1,hd.2.2.1,ho];rfl
   ·rfl
 ·exact ⟨ha,ho⟩
theorem qda:∀ (n:Nat) {ds:List PyData} {o:PyData} {acc:List PyData},(∀ d∈ds,inL L d=true)→inL L o=true→(∀ e∈acc,inL L e=true)→∀ e∈jf n ds o acc,inL L e=true
 | 0,ds,o,acc,hd,ho,ha=>by
  have e:=vi ds o acc;rw [e];exact ha
 | n+1,ds,o,acc,hd,ho,ha=>by
  induction ds generalizing acc with
  | nil=>exact ha
  | cons d r ih=>
   unfold jf;rw [B4,jj];obtain ⟨a1,a2⟩:=qlu (hd d A5) ho ha;exact ih _ (fun x hx=>hd x (A9 _ hx)) (qda n (fun x hx=>qcw (hd d A5) hx) a2 a1)
theorem qc3 {d:PyData} (h:inL L d=true):∀ e∈funs d,inL L e=true:=by
 have e:funs d=jf 30 [d] .none []:=rfl;rw [e];refine qda 30 (fun x hx=>by cases Am.mp hx;exact h) rfl (fun e he=>by cases he)
end
end Tre
namespace Mine
open PySem L2
theorem v9 {x:Str} (h:Tre.zn x=true):x.length≤1000:=by
 unfold Tre.zn at h;rw [Ae,Ae] at h;have:=A3 h.1.2;omega
theorem qj8 {L:List Str} {e:PyData} {i:Nat} (fw:Tre.FnW e i) (hi:Tre.inL L e=true):RowOk L (Tre.WM e):=by
 obtain ⟨h,ns,xs,o,s,t,rfl,hn,hl,tl,hs,ht,_⟩:=fw.ex;rw [Tre.inL,Tre.ja,Tre.ja,Tre.ja,Tre.ja,Ae,Ae,Ae,Ae,Tre.inL] at hi;obtain ⟨_,h1,h2,_⟩:=hi;rw [Tre.inL] at h1 h2;have bl:=Tre.Yx _ tl (Ag _);have ul:=tl.uses_le 30;refine ⟨fun x hx=>?_,fun x hx=>?_,?_,?_⟩
 ·rcases Az.mp hx with hx | hx
  ·obtain ⟨d,hd,rfl⟩:=Bt.mp hx;have n1:=A8.mp hn d hd;have i1:=Tre.vh h1 d hd;cases d with
   | str y=>exact ⟨v9 n1,Tre.Yg i1,Tre.vD n1⟩
   | _=>cases n1
  ·have q:=Tre.qjt _ tl (Ag _) h2 x hx;exact ⟨v9 q.1,q.2,Tre.vD q.1⟩
 ·obtain ⟨d,hd,hx⟩:=Cj.mp hx;obtain ⟨s',t',h',_,_⟩:=tl.mem d hd;have q:=Tre.qca 30 h' (Tre.vh h2 d hd) x hx;exact ⟨v9 q.1,q.2,Tre.vD q.1⟩
 ·show (ns.map Tre.txt++Tre.brL xs).length≤400;rw [Ac,Ab];omega
 ·show (xs.flatMap (Tre.jd 30)).length≤400;omega
end Mine
namespace L2
open PySem PySem.Spec PyProof.Rows
def Nd (H H':Hp):Prop:=∀ a o,(∀ kvs,o≠ .dK kvs)→H a=some o→H' a=some o
theorem Nd.refl (H:Hp):Nd H H:=fun _ _ _ h=>h
theorem Nd.trans {H H1 H2:Hp} (a:Nd H H1) (b:Nd H1 H2):Nd H H2:=fun c o n h=>b c o n (a c o n h)
theorem Nd.put {H:Hp} {p:Addr} {kvs:List (Key×V)} {o':HO} (hp:H p=some (.dK kvs)):Nd H (upd H p o'):=fun a o n h=>by
 have na:a≠p:=fun z=>by
  rw [z,hp] at h;cases h;exact n _ rfl
 rw [qk na];exact h
end L2
namespace Mine
open PySem L2
section
variable {P:Program} {w:World} {K:Frag} {mg:Str→Option Value} {base:Heap} {f:Addr} {fd:FuncData} {ad:Ad}
theorem ScAt.nd {C:Addr} {H H':Hp} {x:SA} {r:Tre.Row} (g:Nd H H') (h:ScAt C H x r):ScAt C H' x r:=by
 obtain ⟨⟨dx,a⟩,b,c,e⟩:=h;exact ⟨⟨dx,g _ _ (fun _ z=>by cases z) a⟩,g _ _ (fun _ z=>by cases z) b,g _ _ (fun _ z=>by cases z) c,e⟩
structure Stays (H0s:Hp→Prop) (H H':Hp):Prop where
 nd:Nd H H'
 sm:∀ H0,H0s H0→qv H0 H→qv H0 H'
def qe7 (xs:List SA) (H0:Hp):Prop:=∀ x∈xs,H0 x.b=none∧H0 x.t=none
theorem Stays.refl (F:Hp→Prop) (H:Hp):Stays F H H:=⟨Nd.refl _,fun _ _ h=>h⟩
theorem Stays.trans {F:Hp→Prop} {H H1 H2:Hp} (a:Stays F H H1) (b:Stays F H1 H2):Stays F H H2:=⟨a.nd.trans b.nd,fun H0 h g=>b.sm H0 h (a.sm H0 h g)⟩
theorem Scs.box {C:Addr} {L:List Str} {H:Hp} {xs:List SA} {rs:List Tre.Row} {Z:DS} (S:Scs C L H xs rs Z) {i:Nat} {x:SA} (hx:xs[i]?=some x) {k:Int} (hk:k∈vG) (v:V):∃ d,H x.b=some (.dK d)∧d.length≤60∧Scs C L (upd H x.b (.dK (zG d (Sum.inl k) v))) xs rs ⟨Z.B.modify i fun d=>zG d (Sum.inl k) v,Z.T⟩∧Stays (qe7 xs) H (upd H x.b (.dK (zG d (Sum.inl k) v))):=by
 have hm:=Ay hx;have ha:(xs.map (·.b))[i]?=some x.b:=by rw [Ar,hx];rfl
 obtain ⟨d,hd,e,ok⟩:=S.bx.get ha;obtain ⟨ks,_,_,l2,_⟩:=ok.len;have g:Nd H (upd H x.b (.dK (zG d (Sum.inl k) v))):=Nd.put e;refine ⟨d,e,A0 l2 O0,⟨S.len,fun i y r a b=>(S.sc i y r a b).nd g,S.bx.put ha hd hk v,S.tk.ne fun a ha=>?_,S.ne⟩,g,fun H0 h0 gs=>qE gs (h0 x hm).1 _⟩;obtain ⟨y,hy,rfl⟩:=Bt.mp ha;exact Ne.symm (S.ne x hm y hy)
theorem Scs.take {C:Addr} {L:List Str} {H:Hp} {xs:List SA} {rs:List Tre.Row} {Z:DS} (S:Scs C L H xs rs Z) {i:Nat} {x:SA} (hx:xs[i]?=some x) {k:Str} (hk:k∈L) (hl:L.length≤60) (v:V):∃ d,H x.t=some (.dK d)∧d.length≤60∧Scs C L (upd H x.t (.dK (zG d (Sum.inr k) v))) xs rs ⟨Z.B,Z.T.modify i fun d=>zG d (Sum.inr k) v⟩∧Stays (qe7 xs) H (upd H x.t (.dK (zG d (Sum.inr k) v))):=by
 have hm:=Ay hx;have ha:(xs.map (·.t))[i]?=some x.t:=by rw [Ar,hx];rfl
 obtain ⟨d,hd,e,ok⟩:=S.tk.get ha;obtain ⟨ks,_,_,l2,_⟩:=ok.len;have g:Nd H (upd H x.t (.dK (zG d (Sum.inr k) v))):=Nd.put e;refine ⟨d,e,A0 l2 hl,⟨S.len,fun i y r a b=>(S.sc i y r a b).nd g,S.bx.ne fun a ha=>?_,S.tk.put ha hd hk v,S.ne⟩,g,fun H0 h0 gs=>qE gs (h0 x hm).2 _⟩;obtain ⟨y,hy,rfl⟩:=Bt.mp ha;exact S.ne y hy x hm
def jk (rs:List Tre.Row) (nm:Str) (k:Nat):Nat→Nat→List (List (Key×V))→List (List (Key×V))
 | 0,_,T=>T
 | n+1,j,T=>if j=k then T else match rs[j]? with
  | none=>T
  | some r=>match r.outer with
   | none=>T
   | some o=>jk rs nm k n o (T.modify j fun d=>zG d (Sum.inr nm) (.bl true))
theorem WJ {rs:List Tre.Row} (bk:Tre.Vp rs) {nm:Str} {k:Nat}:∀ (n m j:Nat) (T:List (List (Key×V))),j<n→j<m→jk rs nm k n j T=jk rs nm k m j T
 | 0,_,_,_,h,_=>absurd h (Nat.not_lt_zero _)
 | _,0,_,_,_,h=>absurd h (Nat.not_lt_zero _)
 | n+1,m+1,j,T,h1,h2=>by
  rw [jk,jk];split
  ·rfl
  ·cases e:rs[j]? with
   | none=>rfl
   | some r=>
    dsimp only;cases e2:r.outer with
    | none=>rfl
    | some o=>
     have:=bk j r e o e2;exact WJ bk n m o _ ⋯ ⋯
theorem VS {rs:List Tre.Row} {nm:Str} {k n:Nat} {T:List (List (Key×V))}:jk rs nm k (n+1) k T=T:=by
 rw [jk,if_pos rfl]
theorem XE {rs:List Tre.Row} (bk:Tre.Vp rs) {nm:Str} {k j o:Nat} {r:Tre.Row} {T:List (List (Key×V))} (n:j≠k) (e:rs[j]?=some r) (eo:r.outer=some o):jk rs nm k (j+1) j T=jk rs nm k (o+1) o (T.modify j fun d=>zG d (Sum.inr nm) (.bl true)):=by
 rw [jk,if_neg n,e];dsimp only;rw [eo];have:=bk j r e o eo;exact WJ bk _ _ _ _ this (Dn _)
def QX (rs:List Tre.Row) (k:Nat) (nm:Str):Nat:=match rs[k]? with
 | some r=>r.names.idxOf nm
 | none=>0
def vm (rs:List Tre.Row) (i:Nat) (Z:DS) (nm:Str):DS:=match Tre.zI rs i nm with
 | none=>Z
 | some k=>if k=i then Z else ⟨Z.B.modify k fun d=>zG d (Sum.inl ((QX rs k nm:Nat):Int)) (.bl true),jk rs nm k (i+1) i Z.T⟩
theorem qmv {n:Nat} (h:n<60):((n:Nat):Int)∈vG:=Bt.mpr ⟨n,Dc.mpr h,rfl⟩
inductive spTake (K:Frag) (C:Addr) (vs:List V) (H:Hp) (Q:VK) (E':XK):Prop
 | mk:∀ (ps:Addr) (i:Nat) (nm:Str) (L:List Str) (xs:List SA) (rs:List Tre.Row) (Z:DS) (k:Nat),(vs=[.ref ps,.int (i:Nat),.str nm])→(H ps=some (.lst (J7 xs)))→(Scs C L H xs rs Z)→(Tre.Vp rs)→(i<rs.length)→(nm∈L)→(L.length≤60)→((∀ r∈rs,r.names.length≤59))→(Tre.zI rs i nm=some k)→(∀ H',Scs C L H' xs rs (vm rs i Z nm)→Stays (qe7 xs) H H'→Q .non H')→spTake K C vs H Q E'
inductive Iv_NamF8_0 (ad:Ad) (H:Hp) (ps:Addr) (i:Nat) (nm:Str) (L:List Str) (xs:List SA) (rs:List Tre.Row) (Z:DS) (k:Nat) (r:Tre.Row) (m:Nat) (σ:St) (H':Hp):Prop
 | mk:∀ (j:Nat),(m=j)→(j<rs.length)→(σ=[some (.ref ps),some (.int (j:Nat)),some (.str nm),some (.int (k:Nat))])→(Tre.zI rs j nm=some k)→((∃ T',Scs ad.Scope L H' xs rs ⟨Z.B.modify k fun d=>zG d (Sum.inl ((r.names.idxOf nm:Nat):Int)) (.bl true),T'⟩∧jk rs nm k (j+1) j T'=jk rs nm k (i+1) i Z.T))→(Stays (qe7 xs) H H')→Iv_NamF8_0 ad H ps i nm L xs rs Z k r m σ H'
def Xd (K:Frag):TS:=qP (wc K (tOp (rIx K) (qg 0) (qg 1)) (Str.ofString "outer")) (qm 1)
def Xc (K:Frag):TS:=qB (XI (wc K (tOp (rIx K) (qg 0) (qg 1)) (Str.ofString "taken")) (qg 2) (tC (V.bl true))) (Xd K)
def Xb (K:Frag):TS:=vk (qJ (tOp rNe (qg 1) (qg 3))) (Xc K)
def Xa (K:Frag):TS:=qB (XI (wc K (tOp (rIx K) (qg 0) (qg 3)) (Str.ofString "boxed")) (tBM K "list" (fun x xs H Q=>∃ l ys k,x=V.ref l∧xs=[V.str k]∧SqL K H l (List.map V.str ys)∧k∈ys∧ys.length≤1000∧Q (V.int ↑ (List.idxOf k ys)) H) (wc K (tOp (rIx K) (qg 0) (qg 3)) (Str.ofString "names")) (qf (qg 2) qp)) (tC (V.bl true))) (Xb K)
def Y9 (K:Frag):TS:=qB (zJ (qJ (tOp rEq (qg 3) (qg 1))) qjf zu) (Xa K)
theorem Zt (F:Fun K "take_name" "take_name" v0 f fd) (c:Cs K mg ad) (d_owner_of:Def P w K mg base 1 "owner_of" ["scopes","number","name"] (spOwn K ad.Scope)):FnOk P w K mg base CX0 2 f fd ["scopes","number","name"] (spTake K ad.Scope):=by
 refine F.ok vt (fun vs H Q E h=>?_) (fun cdv A outer s H vs Q E hr h=>?_)
 ·obtain ⟨ps,i,nm,L,xs,rs,Z,k,rfl,_⟩:=h;rfl
 obtain ⟨ps,i,nm,L,xs,rs,Z,k,rfl,hps,S,bk,hi,hnm,hL,hn60,hh,q⟩:=h;have hu:=Ve hr;refine ⟨_,(qd (pst 3 vt.nd (pdf d_owner_of (qb (pv 0) (qb (pv 1) (qb (pv 2) qc)))))
   (qd (qK (qr zN (pv 3) (pv 1) (qz _)) (qi qic) qy)
   (qd (JX hu (j8 (pix K (pv 0) (pv 3)) rfl) (Jn (K:=K) rfl Ax PySem.F.slot_list_index PySem.F.type_list_index (XT (K:=K) rfl) (j8 (pix K (pv 0) (pv 3)) rfl) (qb (pv 2) qc)) jw rfl)
   (qi (Jl Bh (qr XL (pv 1) (pv 3) (qz _)) (qd (JX hu (j8 (pix K (pv 0) (pv 1)) rfl) (pv 2) jw rfl)
   (qi (pst 1 vt.nd (j8 (pix K (pv 0) (pv 1)) rfl))))))))),?_⟩
 show qB (qP (qG (spOwn K ad.Scope) [] E0 (qf (qg 0) (qf (qg 1) (qf (qg 2) qp)))) (qm 3)) (Y9 K) _ _ _;clear hu;refine ⟨_,rfl,_,rfl,_,rfl,ps,i,nm,L,xs,rs,Z,rfl,SqL.of hps,S,bk,hi,?_⟩;rw [hh];unfold vm at q;rw [hh] at q;dsimp only at q;refine ⟨_,rfl,_,rfl,rfl,_,rfl,?_⟩
 by_cases hki:k=i
 ·subst hki;refine qX (show decide _=true from Al rfl) ?_;rw [if_pos rfl] at q;exact q H S (Stays.refl _ _)
 rw [if_neg hki] at q;refine qO (show decide _=false from As fun z=>hki (by have:=V.int.inj z;omega)) ?_
 obtain ⟨r,hrk,hck⟩:=Tre.V8 _ _ hh;obtain ⟨x,hx,⟨⟨dx,ob⟩,hn1,hus,_⟩⟩:=S.get hrk;have ei:QX rs k nm=r.names.idxOf nm:=by unfold QX;rw [hrk]
 rw [ei] at q;have hv:(J7 xs)[k]?=some (.ref x.p):=by rw [Ar,hx];rfl
 have hmem:nm∈r.names:=B2.mp hck;have hlen:=hn60 r (Ay hrk);have hidx:r.names.idxOf nm<r.names.length:=List.idxOf_lt_length_iff.mpr hmem;obtain ⟨kvs,hb,hkl,S2,st2⟩:=S.box hx (qmv (n:=r.names.idxOf nm) ⋯) (.bl true);refine ⟨_,rfl,_,rfl,.inl ⟨ps,_,_,_,rfl,rfl,SqL.of hps,qo (j:=k) hv,x.p,_,dx,_,_,rfl,ob,c.cl,c.aB,Qq _ _,?_⟩⟩;refine ⟨_,rfl,_,rfl,.inl ⟨ps,_,_,_,rfl,rfl,SqL.of hps,qo (j:=k) hv,x.p,_,dx,_,_,rfl,ob,c.cl,c.aN,we _ _,.inl ⟨rfl,_,SqL.of hn1⟩,_,rfl,x.n,r.names,nm,rfl,rfl,SqL.of hn1,hmem,⋯,x.b,_,rfl,yA.k (k:=Sum.inl _) hb (jy ⋯),?_⟩⟩;dsimp only;generalize upd H x.b (.dK (zG kvs (Sum.inl ((r.names.idxOf nm:Nat):Int)) (.bl true)))=H2 at S2 st2 ⊢;refine ⟨(Iv_NamF8_0 ad H ps i nm L xs rs Z k r),⟨i,i,rfl,hi,rfl,hh,⟨_,S2,rfl⟩,st2⟩,?_⟩;rintro m σ H' ⟨j,rfl,hj,rfl,hhj,⟨T',S3,eT⟩,st3⟩;refine ⟨_,rfl,_,rfl,rfl,_,rfl,?_⟩
 by_cases hjk:m=k
 ·subst hjk;refine qO (show (!decide _)=false by rw [Al rfl];rfl) ?_
  rw [VS] at eT;rw [← eT] at q;exact q H' S3 st3
 refine qX (show (!decide _)=true by rw [As fun z=>hjk (by have:=V.int.inj z;omega)];rfl) ⟨fun σ' H'=>∃ m',m'<m∧_,fun σ' H' h=>h,?_⟩
 have hrj:rs[m]?=some rs[m]:=Af hj;obtain ⟨y,hy,⟨⟨dy,oy⟩,hny,huy,_⟩⟩:=S3.get hrj;have hvy:(J7 xs)[m]?=some (.ref y.p):=by rw [Ar,hy];rfl
 have hps3:=st3.nd _ _ (fun _ z=>by cases z) hps
 obtain ⟨kvt,ht,hkt,S4,st4⟩:=S3.take hy hnm hL (.bl true);refine ⟨_,rfl,_,rfl,.inl ⟨ps,_,_,_,rfl,rfl,SqL.of hps3,qo (j:=m) hvy,y.p,_,dy,_,_,rfl,oy,c.cl,c.aT,Qo _ _,_,rfl,y.t,_,rfl,yA.k (k:=Sum.inr nm) ht (jy ⋯),?_⟩⟩;have step:=Tre.JD bk (x:=nm) hrj;rw [hhj] at step;have hcn:¬ rs[m].names.contains nm=true:=fun z=>by
  rw [if_pos z] at step;exact hjk (Bg step).symm
 rw [if_neg hcn] at step;have hps4:=st4.nd _ _ (fun _ z=>by cases z) hps3
 have oy4:=st4.nd _ _ (fun _ z=>by cases z) oy
 refine ⟨_,rfl,_,rfl,.inl ⟨ps,_,_,_,rfl,rfl,SqL.of hps4,qo (j:=m) hvy,y.p,_,dy,_,_,rfl,oy4,c.cl,c.aO,Qp _ _,?_⟩⟩;cases eo:rs[m].outer with
 | none=>rw [eo] at step;cases step
 | some j'=>
  rw [eo] at step;have hlt:=bk m _ hrj j' eo;exact ⟨j',hlt,j',rfl,⋯,rfl,step.symm,⟨_,S4,(XE bk hjk hrj eo).symm.trans eT⟩,st3.trans st4⟩
def Qz (kd:Str) (names:List Str) (ns:List Int) (ms:List Str):PyData:= .tuple [.str kd,.tuple (names.map PyData.str),.tuple (ns.map PyData.int),.tuple (ms.map PyData.str)]
structure OutOk (L:List Str) (r:Tre.Row) (b t:List (Key×V)) (d:PyData):Prop where
 ex:∃ ns ks ms ls,d=Qz r.kind r.names ns ms∧b.map (·.1)=ks.map Sum.inl∧ns.Perm ks∧ns.Pairwise (· ≤ ·)∧t.map (·.1)=ls.map Sum.inr∧ms.Perm ls∧PyProof.Rows.sortedS ms=true∧(∀ m∈ms,m∈L)∧ns.length≤60
inductive spShow (K:Frag) (C:Addr) (vs:List V) (H:Hp) (Q:VK) (E':XK):Prop
 | mk:∀ (x:SA) (r:Tre.Row) (L:List Str) (b t:List (Key×V)),(vs=[.ref x.p])→(ScAt C H x r)→(H x.b=some (.dK b))→(YX Sum.inl vG b)→(H x.t=some (.dK t))→(YX Sum.inr L t)→(L.length≤60)→(∀ H' v d,qv H H'→Rep K H' v d→OutOk L r b t d→Q v H')→spShow K C vs H Q E'
theorem wL {H:Hp}:∀ l:List Int,Reps K H (l.map V.int) (l.map PyData.int)
 | []=> .nil
 | x::r=> .cons (.int x) (wL r)
theorem wN (F:Fun K "shown_scope" "Scope.shown_scope" Jp f fd) (c:Cs K mg ad):FnOk P w K mg base CX0 1 f fd ["self"] (spShow K ad.Scope):=by
 refine F.ok wI (fun vs H Q E h=>?_) (fun cdv A outer s H vs Q E hr h=>?_)
 ·obtain ⟨x,r,L,b,t,rfl,_⟩:=h;rfl
 obtain ⟨x,r,L,b,t,rfl,⟨⟨dx,ob⟩,hnm,hus,hkd⟩,eb,kb,et,kt,hL,q⟩:=h;refine ⟨_,(qi (qw (qQ (qb (j8 (pv 0) rfl) (qb (qW (jL (K:=K) rfl) (by rfl) c.tuple_ zx (qb (j8 (pv 0) rfl) qc)) (qb (qW (jL (K:=K) rfl) (by rfl) c.tuple_ zx (qb (qx (wx rfl) (by rfl) c.sorted_ Vz (qb (j8 (pv 0) rfl) qc)) qc)) (qb (qW (jL (K:=K) rfl) (by rfl) c.tuple_ zx (qb (qx (ww rfl) (by rfl) c.sorted_ Vz (qb (j8 (pv 0) rfl) qc)) qc)) qc))))))),?_⟩
 show zV (Ji (qf (wc K (qg 0) (Str.ofString "kind")) (qf (tCB (fun xs H Q=>∃ p ys,xs=[V.ref p]∧((SqL K H p ys∧∀ (l:Addr),H l=none→Q (V.ref l) (upd H l (HO.tup ys)))∨SqT K H p ys∧Q (V.ref p) H)) (qf (wc K (qg 0) (Str.ofString "names")) qp)) (qf (tCB (fun xs H Q=>∃ p ys,xs=[V.ref p]∧((SqL K H p ys∧∀ (l:Addr),H l=none→Q (V.ref l) (upd H l (HO.tup ys)))∨SqT K H p ys∧Q (V.ref p) H)) (qf (tCB (fun xs H Q=>∃ d kvs ks,xs=[V.ref d]∧H d=some (HO.dK kvs)∧List.map (fun x=>x.fst) kvs=List.map Sum.inl ks∧ks.length<64∧∀ (ns:List Int),ns.Perm ks→List.Pairwise (fun x1 x2=>x1≤x2) ns→∀ (l:Addr),H l=none→Q (V.ref l) (upd H l (HO.lst (List.map V.int ns)))) (qf (wc K (qg 0) (Str.ofString "boxed")) qp)) qp)) (qf (tCB (fun xs H Q=>∃ p ys,xs=[V.ref p]∧((SqL K H p ys∧∀ (l:Addr),H l=none→Q (V.ref l) (upd H l (HO.tup ys)))∨SqT K H p ys∧Q (V.ref p) H)) (qf (tCB (fun xs H Q=>∃ d kvs ks,xs=[V.ref d]∧H d=some (HO.dK kvs)∧List.map (fun x=>x.fst) kvs=List.map Sum.inr ks∧ks.length<64∧∀ (ns:List Str),ns.Perm ks→PyProof.Rows.sortedS ns=true→∀ (l:Addr),H l=none→Q (V.ref l) (upd H l (HO.lst (List.map V.str ns)))) (qf (wc K (qg 0) (Str.ofString "taken")) qp)) qp)) qp))))) _ _ _;obtain ⟨ksb,hb1,hb2,_⟩:=kb.len;obtain ⟨kst,ht1,ht2,_,kin⟩:=kt.len;have i60:vG.length=60:=∅;refine ⟨_,rfl,x.p,_,dx,_,_,rfl,ob,c.cl,c.aK,qhv _ _,?_⟩;refine ⟨_,rfl,x.p,_,dx,_,_,rfl,ob,c.cl,c.aN,we _ _,x.n,_,rfl,.inl ⟨SqL.of hnm,fun l1 hl1=>?_⟩⟩;have g1:=qe hl1 (.tup (r.names.map V.str));have h1:upd H l1 (.tup (r.names.map V.str)) l1=some (.tup (r.names.map V.str)):=upd_same;generalize upd H l1 (.tup (r.names.map V.str))=H1 at g1 h1 ⊢;refine ⟨_,rfl,x.p,_,dx,_,_,rfl,g1 _ _ ob,c.cl,c.aB,Qq _ _,x.b,b,ksb,rfl,g1 _ _ eb,hb1,⋯,fun ns pn sn l2 hl2=>⟨l2,_,rfl,.inl ⟨SqL.of upd_same,fun l3 hl3=>?_⟩⟩⟩;have g12:=(qe hl2 (.lst (ns.map V.int))).trans (qe hl3 (.tup (ns.map V.int)));have g2:=g1.trans g12;have h2:upd (upd H1 l2 (.lst (ns.map V.int))) l3 (.tup (ns.map V.int)) l3=some (.tup (ns.map V.int)):=upd_same;have h12:=g12 _ _ h1;generalize upd (upd H1 l2 (.lst (ns.map V.int))) l3 (.tup (ns.map V.int))=H2 at g2 h2 h12 ⊢;refine ⟨_,rfl,x.p,_,dx,_,_,rfl,g2 _ _ ob,c.cl,c.aT,Qo _ _,x.t,t,kst,rfl,g2 _ _ et,ht1,⋯,fun ms pm sm l4 hl4=>⟨l4,_,rfl,.inl ⟨SqL.of upd_same,fun l5 hl5=>?_⟩⟩⟩;have g23:=(qe hl4 (.lst (ms.map V.str))).trans (qe hl5 (.tup (ms.map V.str)));have g3:=g2.trans g23;have h3:upd (upd H2 l4 (.lst (ms.map V.str))) l5 (.tup (ms.map V.str)) l5=some (.tup (ms.map V.str)):=upd_same;have h13:=g23 _ _ h12;have h23:=g23 _ _ h2;generalize upd (upd H2 l4 (.lst (ms.map V.str))) l5 (.tup (ms.map V.str))=H3 at g3 h3 h13 h23 ⊢;refine ⟨qU (show 4≤2000 from O0),fun l6 hl6=>?_⟩;have g6:=qe hl6 (.tup [.str x.k,.ref l1,.ref l3,.ref l5]);refine q _ _ (Qz r.kind r.names ns ms) (g3.trans g6) (.tup (SqT.of upd_same) (.cons (by rw [hkd];exact .str _) (.cons (.tup (SqT.of (g6 _ _ h13)) (Reps.strs _)) (.cons (.tup (SqT.of (g6 _ _ h23)) (wL _)) (.cons (.tup (SqT.of (g6 _ _ h3)) (Reps.strs _)) .nil))))) ⟨ns,ksb,ms,kst,rfl,hb1,pn,sn,ht1,pm,sm,fun m hm=>kin m (pm.mem_iff.mp hm),by have:=pn.length_eq;omega⟩
theorem Scs.snoc {C:Addr} {L:List Str} {H H':Hp} {xs:List SA} {rs:List Tre.Row} {x:SA} {r:Tre.Row} {Z:DS} (S:Scs C L H xs rs Z) (g:qv H H') (sc:ScAt C H' x r) (hb:H' x.b=some (.dK [])) (ht:H' x.t=some (.dK [])) (ne:x.b≠x.t) (fb:H x.b=none) (ft:H x.t=none):Scs C L H' (xs++[x]) (rs++[r]) ⟨Z.B++[[]],Z.T++[[]]⟩:=by
 have S':=S.same g;refine ⟨by rw [Ac,Ac,S.len];rfl,fun i y q hy hq=>?_,by rw [Ah];exact S.bx.snoc g fb hb,by rw [Ah];exact S.tk.snoc g ft ht,fun y hy z hz=>?_⟩
 ·by_cases hi:i<xs.length
  ·rw [Bp hi] at hy;rw [Bp (by have:=S.len;omega)] at hq
   exact S'.sc i y q hy hq
  ·rw [Bl ⋯] at hy;rw [Bl (by have:=S.len;omega)] at hq
   have h0:i - xs.length=0:=by
    cases e:i - xs.length with
    | zero=>rfl
    | succ k=>rw [e] at hy;simp at hy
   rw [h0] at hy;rw [← S.len,h0] at hq;cases hy;cases hq;exact sc
 ·rcases Az.mp hy with hy | hy
  ·rcases Az.mp hz with hz | hz
   ·exact S.ne y hy z hz
   ·cases Am.mp hz;obtain ⟨i,hi⟩:=Cn (B9 (f:=SA.b) hy);obtain ⟨d,_,e,_⟩:=S.bx.get hi;exact qD e ft
  ·cases Am.mp hy;rcases Az.mp hz with hz | hz
   ·obtain ⟨i,hi⟩:=Cn (B9 (f:=SA.t) hz);obtain ⟨d,_,e,_⟩:=S.tk.get hi;exact Ne.symm (qD e fb)
   ·cases Am.mp hz;exact ne
theorem qht (o:V) (x:SA):(sFl o x).lookup ("shown_scope":Str)=none:=by rfl
structure RowsOk (L:List Str) (rs:List Tre.Row):Prop where
 ok:∀ r∈rs,RowOk L r
 bk:Tre.Vp rs
 len:rs.length≤300
 few:L.length≤59
 kd:∀ r∈rs,r.kind∈L
 ls:∀ x∈L,PyData.strOk x=true
theorem Zl {names:List Str} {d:PyData} {s t:Nat} (hn:names.length=8) (hgs:∀ x∈names,PyData.strOk x=true) (hf:Tre.Ft names d) (hp:Tre.Pt d "program" false s t) (hs:s≤300) (ht:t≤20):RowsOk (Tre.va++names) (Tre.rows (Tre.funs d)):=by
 have aw:=Tre.X0 hp hs ht;refine ⟨fun r hr=>?_,Tre.wg aw,?_,?_,fun r hr=>?_,fun x hx=>?_⟩
 ·obtain ⟨e,he,rfl⟩:=Bt.mp hr;obtain ⟨i,hi⟩:=Cn he;exact qj8 (aw i e hi) (Tre.qc3 hf.ins e he)
 ·rw [Ab];have:=(Tre.Vv hp ht).2.2;omega
 ·rw [Ac,hn];decide
 ·obtain ⟨e,he,rfl⟩:=Bt.mp hr;obtain ⟨i,hi⟩:=Cn he;obtain ⟨h,ns,xs,o,s1,t1,rfl,_⟩:=(aw i e hi).ex;have:=Tre.qc3 hf.ins _ he;rw [Tre.inL,Tre.ja,Ae] at this;exact Tre.Yg this.1
 ·rcases Az.mp hx with hx | hx
  ·have all:(Tre.va.all fun x=>PyData.strOk x)=true:=∅;exact A8.mp all x hx
  ·exact hgs x hx
theorem XS {L:List Str} {rs:List Tre.Row} (R:RowsOk L rs) (h:Tre.Qf rs=none):∀ r∈rs,r.names.length≤59:=fun r hr=>by
 obtain ⟨i,hi⟩:=Cn hr;have b:=Tre.vj rs 0 h i r hi;unfold Tre.bad at b;rw [Dq] at b;have nd:=Tre.XC r.names [] b.1 Ei;rw [Bv] at nd;exact A0 (vf r.names L nd fun x hx=>((R.ok r hr).nl x hx).2.1) R.few
theorem XB {rs:List Tre.Row} (h:Tre.Qf rs=none) {i:Nat} {r:Tre.Row} (hi:rs[i]?=some r) {x:Str} (hx:x∈r.used):∃ k,Tre.zI rs i x=some k:=by
 have b:=Tre.vj rs 0 h i r hi;unfold Tre.bad at b;rw [Dq,Nat.zero_add] at b;cases e:Tre.zI rs i x with
 | some k=>exact ⟨k,rfl⟩
 | none=>
  have m:x∈Tre.ZD rs i r.used:=Dx.mpr ⟨hx,by rw [e];rfl⟩
  rw [b.2] at m;cases m
def Za (n:Nat):DS:=⟨List.replicate n [],List.replicate n []⟩
def VL (rs:List Tre.Row) (j:Nat) (l:List Str) (Z:DS):DS:=l.foldl (vm rs j) Z
def VR (rs:List Tre.Row) (j:Nat):List Str:=match rs[j]? with
 | some r=>r.used
 | none=>[]
def zU (rs:List Tre.Row) (n:Nat):DS:=(List.range n).foldl (fun Z j=>VL rs j (VR rs j) Z) (Za rs.length)
theorem VY (rs:List Tre.Row) (n:Nat):zU rs (n+1)=VL rs n (VR rs n) (zU rs n):=by
 unfold zU;rw [List.range_succ,Eg];rfl
theorem yW (rs:List Tre.Row) (j:Nat) (l:List Str) (x:Str) (Z:DS):VL rs j (l++[x]) Z=vm rs j (VL rs j l Z) x:=by
 unfold VL;rw [Eg];rfl
theorem yN (rs:List Tre.Row) (nm:Str) (k:Nat):∀ (n j:Nat) (T:List (List (Key×V))),(jk rs nm k n j T).length=T.length
 | 0,_,_=>rfl
 | n+1,j,T=>by
  rw [jk];split
  ·rfl
  ·split
   ·rfl
   ·split
    ·rfl
    ·rw [yN rs nm k n,List.length_modify]
theorem qfp (rs:List Tre.Row) (j:Nat) (Z:DS) (x:Str):(vm rs j Z x).B.length=Z.B.length∧(vm rs j Z x).T.length=Z.T.length:=by
 unfold vm;split
 ·exact ⟨rfl,rfl⟩
 ·split
  ·exact ⟨rfl,rfl⟩
  ·exact ⟨List.length_modify ..,yN _ _ _ _ _ _⟩
theorem qck (rs:List Tre.Row) (j:Nat):∀ (l:List Str) (Z:DS),(VL rs j l Z).B.length=Z.B.length∧(VL rs j l Z).T.length=Z.T.length
 | [],_=>⟨rfl,rfl⟩
 | x::r,Z=>by
  have a:=qck rs j r (vm rs j Z x);have b:=qfp rs j Z x;exact ⟨a.1.trans b.1,a.2.trans b.2⟩
theorem wf (rs:List Tre.Row):∀ n:Nat,(zU rs n).B.length=rs.length∧(zU rs n).T.length=rs.length
 | 0=>⟨List.length_replicate,List.length_replicate⟩
 | n+1=>by
  rw [VY];have a:=qck rs n (VR rs n) (zU rs n);have b:=wf rs n;exact ⟨a.1.trans b.1,a.2.trans b.2⟩
structure OutsOk (L:List Str) (rs:List Tre.Row) (Z:DS) (ds:List PyData):Prop where
 len:ds.length=rs.length
 all:∀ (i:Nat) (r:Tre.Row) (b t:List (Key×V)) (d:PyData),rs[i]?=some r→Z.B[i]?=some b→Z.T[i]?=some t→ds[i]?=some d→OutOk L r b t d
theorem QT:∀ {a b:List Int},a.map (Sum.inl:Int→Key)=b.map Sum.inl→a=b
 | [],[],_=>rfl
 | [],_::_,h=>by cases h
 | _::_,[],h=>by cases h
 | x::a,y::b,h=>by
  rw [Ba,Ba] at h;injection h with h1 h2
  rw [Sum.inl.inj h1,QT h2]
theorem QR:∀ {a b:List Str},a.map (Sum.inr:Str→Key)=b.map Sum.inr→a=b
 | [],[],_=>rfl
 | [],_::_,h=>by cases h
 | _::_,[],h=>by cases h
 | x::a,y::b,h=>by
  rw [Ba,Ba] at h;injection h with h1 h2
  rw [Ew h1,QR h2]
theorem OutOk.one {L:List Str} {r:Tre.Row} {b t:List (Key×V)} {d d':PyData} (h:OutOk L r b t d) (h':OutOk L r b t d'):d=d':=by
 obtain ⟨ns,ks,ms,ls,rfl,e1,p1,s1,e2,p2,s2,_⟩:=h.ex;obtain ⟨ns',ks',ms',ls',rfl,e1',p1',s1',e2',p2',s2',_⟩:=h'.ex;cases QT (e1.symm.trans e1');cases QR (e2.symm.trans e2');rw [qgy s1 s1' (p1.trans p1'.symm),qba s2 s2' (p2.trans p2'.symm)]
theorem OutsOk.one {L:List Str} {rs:List Tre.Row} {n:Nat} {ds ds':List PyData} (h:OutsOk L rs (zU rs n) ds) (h':OutsOk L rs (zU rs n) ds'):ds=ds':=by
 have hl:=wf rs n;refine List.ext_getElem? fun i=>?_
 by_cases hi:i<rs.length
 ·have e1:ds[i]?=some (ds[i]'(by have:=h.len;omega)):=Af _
  have e2:ds'[i]?=some (ds'[i]'(by have:=h'.len;omega)):=Af _
  have e3:rs[i]?=some rs[i]:=Af hi;have e4:(zU rs n).B[i]?=some ((zU rs n).B[i]'⋯):=Af _;have e5:(zU rs n).T[i]?=some ((zU rs n).T[i]'⋯):=Af _;rw [e1,e2];exact congrArg some ((h.all i _ _ _ _ e3 e4 e5 e1).one (h'.all i _ _ _ _ e3 e4 e5 e2))
 ·rw [List.getElem?_eq_none (by have:=h.len;omega),List.getElem?_eq_none (by have:=h'.len;omega)]
theorem yX {α:Type} (n:Nat) (x:α):List.replicate n x++[x]=List.replicate (n+1) x:=List.replicate_succ'.symm
inductive spScs (K:Frag) (vs:List V) (H:Hp) (Q:VK) (E':XK):Prop
 | mk:∀ x d s t names,(vs=[x])→(Rep K H x d)→(names.length=8)→((∀ x∈names,PyData.strOk x=true))→(Tre.Ft names d)→(Tre.Pt d "program" false s t)→(s≤300)→(t≤20)→(Tre.Qf (Tre.rows (Tre.funs d))=none)→(∀ H' p zs ds,qv H H'→H p=none→H' p=some (.lst zs)→Reps K H' zs ds→OutsOk (Tre.va++names) (Tre.rows (Tre.funs d)) (zU (Tre.rows (Tre.funs d)) (Tre.rows (Tre.funs d)).length) ds→Q (.ref p) H')→spScs K vs H Q E'
def Xj (K:Frag) (ad:Ad):TS:=zz (qG (spRef K ad.Scope) [] E0 (qf (qg 1) (qf (qg 2) qp)))
def Xi (K:Frag) (ad:Ad):TS:=zz (qG (spTake K ad.Scope) [] E0 (qf (qg 1) (qf (qg 2) (qf (qg 4) qp))))
def Xh (K:Frag) (ad:Ad):TS:=Jv (jD K (wc K (qg 3) (Str.ofString "used"))) (qm 4) (Xi K ad)
def Xg (K:Frag) (ad:Ad):TS:=zV (jM (jD K (qg 1)) [none] (qm 0) vQ (qfh ad.Scope (Str.ofString "shown_scope") (spShow K ad.Scope) [] E0 (qg 0) qp))
def Xf (K:Frag) (ad:Ad):TS:=qB (Jv (qjq K (qf (qg 1) qp)) (W7 K 2 (jb (qm 2) (jb (qm 3) Yl))) (Xh K ad)) (Xg K ad)
def Xe (K:Frag) (ad:Ad):TS:=qB (Jv (QY (qf (tCB (fun xs H Q=>∃ x n,xs=[x]∧Vo K x H n∧Q (V.int ↑n) H) (qf (qg 1) qp)) qp)) (qm 2) (Xj K ad)) (Xf K ad)
theorem Zu (F:Fun K "scopes_of" "scopes_of" Jj f fd) (c:Cs K mg ad) (d_Scope:MakeA P w K mg base "Scope" ad.Scope 23 ["self","function"] (spScI K ad.Scope)) (d_S_shown_scope:MethN P w K mg base ad.Scope 1 "shown_scope" ["self"] (spShow K ad.Scope)) (d_functions_of:Def P w K mg base 7 "functions_of" ["program"] (spFuns K))
  (d_refuse_names:Def P w K mg base 5 "refuse_names" ["scopes","number"] (spRef K ad.Scope)) (d_take_name:Def P w K mg base 2 "take_name" ["scopes","number","name"] (spTake K ad.Scope)):FnOk P w K mg base CX0 31 f fd ["program"] (spScs K):=by
 refine F.ok (k:=30) jq (fun vs H Q E h=>?_) (fun cdv A outer s H vs Q E hr h=>?_)
 ·obtain ⟨x,d,s,t,names,rfl,_⟩:=h;rfl
 obtain ⟨x,d,s,t,names,rfl,hk,hnl,hgs,hf,hp,hs,ht,hw,q⟩:=h;refine ⟨_,(qd (yB (i:=1) jq.nd rfl (by first | exact Or.inl rfl | exact Or.inr rfl) (sc:=ql Jj) (NX:=["program","scopes","number","scope","name"]) (N:=["function"]) (js:=[none]) (j5 (K:=K) rfl (pdf d_functions_of (qb (pv 0) qc))) (fun _ _ _ _ _=>(zh (i:=0) (show (["function"]:List Str).Nodup from ∅) rfl (Or.inl rfl))) (fun _ _ _ _ _=>jp) (fun _ _ _ _ _=>(qkn d_Scope (hr.mono (by first | decide | omega)) (qb (pv 0) qc))) (zA rfl) ⟨∅,rfl,∅,∅,rfl,∅⟩)
   (qd (zT Bh rfl (jG rfl c.range_ (qb (qx (jY (K:=K) rfl) (by rfl) c.len_ z9 (qb (pv 1) qc)) qc)) (pgn 2 jq.nd) (qi (qT (pdf d_refuse_names (qb (pv 1) (qb (pv 2) qc))))))
   (qd (zT Bh rfl (qie (K:=K) rfl c.enumerate_ (qb (pv 1) qc)) (WN (K:=K) (n:=2) rfl rfl (zb (pgn 2 jq.nd) (zb (pgn 3 jq.nd) JZ))) (qi (zT Bh rfl (j5 (K:=K) rfl (j8 (pv 3) rfl)) (pgn 4 jq.nd) (qi (qT (pdf d_take_name (qb (pv 1) (qb (pv 2) (qb (pv 4) qc)))))))))
   (qi (qw (zX (sc:=ql Jj) (NX:=["program","scopes","number","scope","name"]) (N:=["scope"]) (js:=[none]) (j5 (K:=K) rfl (pv 1)) (fun _ _ _ _ _=>(zh (i:=0) (show (["scope"]:List Str).Nodup from ∅) rfl (Or.inl rfl))) (fun _ _ _ _ _=>jp) (fun _ _ _ _ _=>(qko (pv 0) d_S_shown_scope (hr.mono (by first | decide | omega)))) (zA rfl) ⟨∅,rfl,∅,∅,rfl,∅⟩)))))),?_⟩
 show qB (qP (jM (jD K (qG (spFuns K) [] E0 (qf (qg 0) qp))) [none] (qm 0) vQ (qfi ad.Scope (spScI K ad.Scope) [] E0 (qf (qg 0) qp))) (qm 1)) (Xe K ad) _ _ _;have R:=Zl hnl hgs hf hp hs ht;have aw:=Tre.X0 hp hs ht;have accF:=(Tre.Vv hp ht).2.1;have rl:(Tre.rows (Tre.funs d)).length=(Tre.funs d).length:=Ab _;refine ⟨_,rfl,x,d,s,t,rfl,hk,hf.fit,hp,hs,ht,fun H1 pf zs g1 hpf hz rz=> .inl ⟨pf,rfl,⟨zs,SqL.of hz⟩,?_⟩⟩;have zl:=rz.length;have len300:=R.len;generalize Tre.va++names=L at R q;generalize hrs:Tre.rows (Tre.funs d)=rs at R rl len300 q hw;refine zD zs.length (fun i ys H'=>∃ xs:List SA,ys=J7 xs∧xs.length=i∧qv H1 H'∧Scs ad.Scope L H' xs (rs.take i) (Za i)∧qe7 xs H1) ⟨[],rfl,rfl,qv.refl _,⟨rfl,fun i x r h=>(by cases h),.nil,.nil,fun x h=>(by cases h)⟩,fun x h=>(by cases h)⟩ (fun i ys H' h=>?_) (qU ⋯) (fun i ys H2 hi h=>?_) (fun ys H2 h=>?_)
 ·obtain ⟨xs,rfl,hl,_⟩:=h;rw [Ab];omega
 ·obtain ⟨xs,rfl,hl,g2,S,fr⟩:=h;have hx:zs[i]?=some zs[i]:=Af hi;have hz2:=g2 _ _ hz;refine ⟨⟨zs,_,SqL.of hz2,hx⟩,fun v H3 yl=>?_⟩;obtain ⟨rfl,hv⟩:=yl;have ev:=hx.symm.trans (hv zs (SqL.of hz2));cases ev;obtain ⟨e,he,re⟩:=rz.get hx;generalize zs[i]=v at*;have er:rs.take (i+1)=rs.take i++[Tre.WM e]:=by
   rw [Bb,← hrs,Ar,he];rfl
  obtain ⟨_,_,_,_,_,ge⟩:=accF.all e (Ay he);refine ⟨_,rfl,fun p dx hp0 hd0 hne=>?_⟩;have g3:qv H3 (upd (upd H3 dx (.own p)) p (.ins ad.Scope dx [])):=(qe hd0 _).trans (qe (by rw [qk (Ne.symm hne)];exact hp0) _)
  refine ⟨p,dx,v,e,i,rfl,upd_same,re.same (g2.trans g3),ge.nol,aw i e he,fun H4 x4 ex sc hb ht hbt hb0 ht0 keep=>⟨rfl,xs++[x4],?_,?_,?_,?_,?_⟩⟩
  ·unfold J7;rw [Ah,← ex];rfl
  ·rw [Ac,hl];rfl
  all_goals have g4:qv H3 H4:=fun b o hb=>keep b o (qD hb hp0) (g3 _ _ hb)
  ·exact g2.trans g4
  ·rw [er];have q:=S.snoc g4 sc hb ht hbt (g3.free hb0) (g3.free ht0);unfold Za at q ⊢;rw [yX] at q;exact q
  ·intro y hy;rcases Az.mp hy with hy | hy
   ·exact fr y hy
   ·cases Am.mp hy;exact ⟨g2.free (g3.free hb0),g2.free (g3.free ht0)⟩
 obtain ⟨xs,rfl,hl,g2,S,fr⟩:=h;rw [Do ⋯] at S;refine ⟨⟨zs,SqL.of (g2 _ _ hz),Ag _⟩,fun ps hps=>?_⟩;have g3:=g2.trans (qe hps (.lst (J7 xs)));have S3:=S.same (qe hps (.lst (J7 xs)));have hps3:upd H2 ps (.lst (J7 xs)) ps=some (.lst (J7 xs)):=upd_same;have gH:=g1.trans g3;have frH:qe7 xs H:=fun y hy=>⟨g1.free (fr y hy).1,g1.free (fr y hy).2⟩;dsimp only;generalize upd H2 ps (.lst (J7 xs))=H3 at gH S3 hps3 ⊢;clear g2 g3 S fr hz rz hpf g1 hps;have hxl:=S3.len;have rlen:(J7 xs).length=rs.length:=by rw [Ab];exact hxl
 have hx0:zs.length=rs.length:=⋯;rw [hx0] at S3;refine ⟨_,rfl,_,_,rfl,.inl ⟨_,SqL.of hps3,rfl⟩,_,rfl,⋯,⋯,?_⟩;refine jZ rs.length (fun j σ H'=>∃ o2,σ=[some x,some (.ref ps),o2,none,none]∧qv H3 H') ⟨none,rfl,qv.refl _⟩ (fun j σ H4 hj h=>?_) (fun σ H4 h=>?_)
 ·obtain ⟨o2,rfl,g4⟩:=h;refine ⟨show j<((J7 xs).length:Int).toNat by rw [rlen];exact hj,fun v H5 yl D' hn _=>?_⟩
  obtain ⟨rfl,ev⟩:=yl;rw [E1] at ev;subst ev;have hrj:rs[j]?=some rs[j]:=Af hj;have hb:=Tre.vj rs 0 hw j _ hrj;rw [Nat.zero_add] at hb;exact ⟨_,rfl,_,rfl,ps,j,L,xs,rs,_,rs[j],rfl,SqL.of (g4 _ _ hps3),S3.same g4,R.bk,hrj,R.ok _ (Cd hj),hb,fun H6 g6=>hn _ _ ⟨_,rfl,g4.trans g6⟩⟩
 obtain ⟨o2,rfl,g4⟩:=h;refine ⟨show ((J7 xs).length:Int).toNat≤rs.length by rw [rlen];exact Ag _,?_⟩
 have hps4:=g4 _ _ hps3;have S4:=S3.same g4;have gH4:=gH.trans g4;clear S3 g4 gH hps3;have few:=XS R hw;refine ⟨_,rfl,ps,rfl,⟨_,SqL.of hps4⟩,?_⟩;refine jZ rs.length (fun j σ H'=>∃ o2 o3 o4,σ=[some x,some (.ref ps),o2,o3,o4]∧qv H H'∧H' ps=some (.lst (J7 xs))∧Scs ad.Scope L H' xs rs (zU rs j)) ⟨_,_,_,rfl,gH4,hps4,S4⟩ (fun j σ H5 hj h=>?_) (fun σ H5 h=>?_)
 ·obtain ⟨o2,o3,o4,rfl,g5,hps5,S5⟩:=h;have hrj:rs[j]?=some rs[j]:=Af hj;obtain ⟨y,hy,sy⟩:=S5.get hrj;obtain ⟨⟨dy,oy⟩,hny,huy,_⟩:=sy;have hvy:(J7 xs)[j]?=some (.ref y.p):=by rw [Ar,hy];rfl
  refine ⟨⟨_,_,SqL.of hps5,hvy⟩,fun v H6 yl D' hn _=>?_⟩;obtain ⟨pp,vv,hpp,rfl,hv,rfl⟩:=yl;have ev:=hvy.symm.trans (hv _ (SqL.of hps5));cases ev;have g6:=qe hpp (.tup [.int (j:Nat),.ref y.p]);refine ⟨pp,_,rfl,SqT.of upd_same,rfl,_,_,rfl,_,_,rfl,rfl,?_⟩;have S6:=S5.same g6;have hps6:=g6 _ _ hps5;have gH6:=g5.trans g6;have oy6:=g6 _ _ oy;have huy6:=g6 _ _ huy;generalize upd H5 pp (.tup [.int (j:Nat),.ref y.p])=H6 at S6 hps6 gH6 oy6 huy6 ⊢;refine ⟨_,rfl,y.p,_,dy,_,_,rfl,oy6,c.cl,c.aU,qcj _ _,.inl ⟨y.u,rfl,⟨_,SqL.of huy6⟩,?_⟩⟩;refine jZ rs[j].used.length (fun k σ H'=>∃ o4,σ=[some x,some (.ref ps),some (.int (j:Nat)),some (.ref y.p),o4]∧qv H H'∧H' ps=some (.lst (J7 xs))∧Scs ad.Scope L H' xs rs (VL rs j (rs[j].used.take k) (zU rs j))) ⟨_,rfl,gH6,hps6,S6⟩ (fun k σ H7 hk h=>?_) (fun σ H7 h=>?_)
  ·obtain ⟨o4,rfl,g7,hps7,S7⟩:=h;have huy7:=(S7.sc j y _ hy hrj).us;have ek:rs[j].used[k]?=some rs[j].used[k]:=Af hk;have hxk:(rs[j].used.map V.str)[k]?=some (.str rs[j].used[k]):=by rw [Ar,ek];rfl
   refine ⟨⟨_,_,SqL.of huy7,hxk⟩,fun v H8 yl D2 hn2 _=>?_⟩;obtain ⟨rfl,hv⟩:=yl;have ev:=hxk.symm.trans (hv _ (SqL.of huy7));cases ev;have hm:rs[j].used[k]∈rs[j].used:=Cd hk;obtain ⟨kk,hkk⟩:=XB hw hrj hm;refine ⟨_,rfl,_,rfl,_,rfl,ps,j,_,L,xs,rs,_,kk,rfl,hps7,S7,R.bk,hj,((R.ok _ (Cd hj)).ul _ hm).2.1,A0 R.few O0,few,hkk,fun H9 S9 st=>hn2 _ _ ⟨_,rfl,st.sm H frH g7,st.nd _ _ (fun _ z=>by cases z) hps7,?_⟩⟩
   rw [Bb,ek];rw [← yW] at S9;exact S9
  ·obtain ⟨o4,rfl,g7,hps7,S7⟩:=h;have huy7:=(S7.sc j y _ hy hrj).us;refine ⟨⟨_,SqL.of huy7,by rw [Ab];exact Ag _⟩,hn _ _ ⟨_,_,_,rfl,g7,hps7,?_⟩⟩
   have eu:VR rs j=rs[j].used:=by unfold VR;rw [hrj]
   rw [VY,eu];rw [Bo] at S7;exact S7
 obtain ⟨o2',o3',o4',rfl,g5,hps5,S5⟩:=h;refine ⟨⟨_,SqL.of hps5,by rw [rlen];exact Ag _⟩,?_⟩
 have hl:=wf rs rs.length;refine ⟨_,rfl,.inl ⟨ps,rfl,⟨_,SqL.of hps5⟩,?_⟩⟩;refine zD rs.length (fun i ys H'=>∃ ds,ds.length=i∧Reps K H' ys ds∧qv H5 H'∧∀ (i:Nat) (r:Tre.Row) (b t:List (Key×V)) (d:PyData),rs[i]?=some r→(zU rs rs.length).B[i]?=some b→(zU rs rs.length).T[i]?=some t→ds[i]?=some d→OutOk L r b t d) ⟨[],rfl,.nil,qv.refl _,fun i r b t d _ _ _ h=>by cases h⟩ (fun i ys H' h=>?_) (qU ⋯) (fun i ys H6 hi h=>?_) (fun ys H6 h=>?_)
 ·obtain ⟨ds,hd,rd,_⟩:=h;have:=rd.length;omega
 ·obtain ⟨ds,hd,rd,g6,out⟩:=h;have hri:rs[i]?=some rs[i]:=Af hi;have S6:=S5.same g6;obtain ⟨y,hy,sy⟩:=S6.get hri;have hvy:(J7 xs)[i]?=some (.ref y.p):=by rw [Ar,hy];rfl
  refine ⟨⟨_,_,SqL.of (g6 _ _ hps5),hvy⟩,fun v H7 yl=>?_⟩;obtain ⟨rfl,hv⟩:=yl;have ev:=hvy.symm.trans (hv _ (SqL.of (g6 _ _ hps5)));cases ev;obtain ⟨dy,oy⟩:=sy.ob;obtain ⟨b,hb,eb,kb⟩:=S6.bx.get (i:=i) (a:=y.b) (by rw [Ar,hy];rfl)
  obtain ⟨t',ht',et,kt⟩:=S6.tk.get (i:=i) (a:=y.t) (by rw [Ar,hy];rfl)
  refine ⟨_,rfl,y.p,dy,_,rfl,oy,qht _ _,y,rs[i],L,b,t',rfl,sy,eb,kb,et,kt,A0 R.few O0,fun H8 v d g8 rv ok=>⟨ds++[d],by rw [Ac,hd];rfl,(rd.same g8).append (.cons rv .nil),g6.trans g8,fun j r b2 t2 d2 h1 h2 h3 h4=>?_⟩⟩
  by_cases hj:j<ds.length
  ·rw [Bp hj] at h4;exact out j r b2 t2 d2 h1 h2 h3 h4
  ·have hji:j=i:=by
    have:=(Be.mp h4).1;rw [Ac] at this;simp at this;omega
   subst hji;rw [Bl ⋯,hd,Da] at h4;cases h4;cases hri.symm.trans h1;cases hb.symm.trans h2;cases ht'.symm.trans h3;exact ok
 obtain ⟨ds,hd,rd,g6,out⟩:=h;refine ⟨⟨_,SqL.of (g6 _ _ hps5),by rw [rlen];exact Ag _⟩,fun D hD=>?_⟩
 have gD:=qe hD (.lst ys);exact q _ D ys ds ((g5.trans g6).trans gD) ((g5.trans g6).free hD) upd_same (rd.same gD) ⟨hd,out⟩
theorem qc0 (h:Str):inV (.str h) [.str "if",.str "while",.str "try"]=Tre.Vk h:=by
 rw [show ([.str "if",.str "while",.str "try"]:List V)=(["if","while","try"]:List Str).map V.str from rfl,wt];unfold Tre.Vk;simp only [Cw,List.any_nil,Ea,Bool.beq_comm]
inductive PvA (H:Hp) (a:Addr) (xs:List PyData) (i:Nat) (σ:St) (H':Hp):Prop
 | mk:∀ pf o2 o3,(σ=[some (.ref a),some (.ref pf),o2,o3])→(H pf=none)→(qv H H')→(H' pf=some (.lst ((Tre.brL (xs.take i)).map V.str)))→PvA H a xs i σ H'
inductive PvB (H:Hp) (a a2:Addr) (pre:List Str) (hd:Str) (ts:List PyData) (j:Nat) (σ:St) (H':Hp):Prop
 | mk:∀ pf o3,(σ=[some (.ref a),some (.ref pf),some (.ref a2),o3])→(H pf=none)→(qv H H')→(H' pf=some (.lst ((pre++Tre.zP hd 1 (ts.take j)).map V.str)))→PvB H a a2 pre hd ts j σ H'
def yw (K:Frag):TS:=zz (tBM K "list" zM (qg 1) (qf (tOp (rIx K) (qg 2) (tC (V.int 1))) qp))
def yu (K:Frag):TS:=zz (tBM K "list" zM (qg 1) (qf (tOp (rIx K) (qg 2) (tC (V.int 3))) qp))
def yt (K:Frag) (n:Nat):TS:=qP (tOp jh (qg 1) (qG (spBro K n) [] E0 (qf (tOp (rIx K) (qg 2) (qg 3)) qp))) (qm 1)
def yr (K:Frag) (n:Nat):TS:=zJ (wF (qJ (tOp (rIn K false) (tOp (rIx K) (qg 2) (tC (V.int 0))) (Ji (qf (tC (V.str "if")) (qf (tC (V.str "while")) (qf (tC (V.str "try")) qp)))))) (wF (tB (tCB (fun xs H Q=>∃ x d T,xs=[x,V.ty T]∧Rep K H x d∧T∈["bool","int","str","list","tuple"]∧Q (V.bl (isi (tyD d) T)) H) (qf (tOp (rIx K) (qg 2) (qg 3)) (qf (tC (V.ty "tuple")) qp)))) (tOr (qJ (tOp (rI0 fun i j=>V.bl (decide (j<i))) (qg 3) (tC (V.int 1)))) (qJ (tOp rEq (tOp (rIx K) (qg 2) (tC (V.int 0))) (tC (V.str "try"))))))) (yt K n) zu
def yq (K:Frag) (n:Nat):TS:=qB (zJ (wF (qJ (tOp rEq (tOp (rIx K) (qg 2) (tC (V.int 0))) (tC (V.str "try")))) (qJ (tOp rEq (qg 3) (tC (V.int 3))))) (yu K) zu) (yr K n)
def yp (K:Frag) (n:Nat):TS:=Jv (qg0 (qf (tC (V.int 1)) (qf (tCB (fun xs H Q=>∃ x n,xs=[x]∧Vo K x H n∧Q (V.int ↑n) H) (qf (qg 2) qp)) qp))) (qm 3) (yq K n)
def yn (K:Frag) (n:Nat):TS:=qB (zJ (qJ (tOp rEq (tOp (rIx K) (qg 2) (tC (V.int 0))) (tC (V.str "let")))) (yw K) zu) (yp K n)
def ym (K:Frag) (n:Nat):TS:=qB (Jv (jD K (qg 0)) (qm 2) (yn K n)) (zV (qg 1))
theorem y9 (F:Fun K "_law_brought" "_law_brought" Je f fd) (c:Cs K mg ad) (n:Nat) (d_law_brought:Def P w K mg base n "_law_brought" ["_law_body_here"] (spBro K n)):FnOk P w K mg base CX0 (n+1) f fd ["_law_body_here"] (spBro K (n+1)):=by
 refine F.ok (k:=n) jo (fun vs H Q E h=>?_) (fun cdv A outer s H vs Q E hr h=>?_)
 ·obtain ⟨x,xs,s,t,rfl,_⟩:=h;rfl
 obtain ⟨x,xs,s,t,rfl,hk,tl,hs,ht,q⟩:=h;refine ⟨_,(qd (pst 1 jo.nd (zg qc))
   (qd (zT Bh rfl (j5 (K:=K) rfl (pv 0)) (pgn 2 jo.nd) (qd (qK (qr zN (pix K (pv 2) qh) qq (qz _)) (qi (qT (Jn (K:=K) rfl Ax Bu Bs zC (pv 1) (qb (pix K (pv 2) qh) qc)))) qy)
   (qi (zT Bh rfl (qd4 rfl c.range_ (qb qh (qb (qx (jY (K:=K) rfl) (by rfl) c.len_ z9 (qb (pv 2) qc)) qc))) (pgn 3 jo.nd) (qd (qK (PW.pt (J8 (qr zN (pix K (pv 2) qh) qq (qz _)) (JA (qr zN (pv 3) qh (qz _))))) (qi (qT (Jn (K:=K) rfl Ax Bu Bs zC (pv 1) (qb (pix K (pv 2) qh) qc)))) qy)
   (qi (qK (PW.pt (J8 (qr (Yh (K:=K) rfl) (pix K (pv 2) qh) (qQ (qb qq (qb qq (qb qq qc)))) rfl) (J8 (jg (qx (jt (K:=K) rfl) (by rfl) c.isinstance_ qH (qb (pix K (pv 2) (pv 3)) (qb (Js c.tuple_ zx) qc)))) (JA (PW.pt (JW (qr QB (pv 3) qh (qz _)) (Jq (qr zN (pix K (pv 2) qh) qq (qz _))))))))) (qi (pst 1 jo.nd (qt zi (pv 1) (pdf d_law_brought (qb (pix K (pv 2) (pv 3)) qc))))) qy)))))))
   (qi (qw (pv 1))))),?_⟩
 show qB (qP (Ju qp) (qm 1)) (ym K n) _ _ _;refine ⟨qU O0,fun pf hpf=>?_⟩;have g0:=qe hpf (.lst []);have h0:upd H pf (.lst []) pf=some (.lst []):=upd_same;generalize upd H pf (.lst [])=H0 at g0 h0 ⊢;obtain ⟨a,ws,rfl,hq,rs⟩:=hk.tup_inv;have hwl:=rs.length;have few:=tl.few;have tot:∀ j,(Tre.brL (xs.take j)).length≤300:=fun j=>by
  have e:=congrArg List.length (Tre.brL_append (xs.take j) (xs.drop j));rw [Dd,Ac] at e;have:=Tre.Yx _ tl (Ag _);omega
 refine ⟨_,rfl,.inr (.inl ⟨a,rfl,⟨ws,g0.sqT hq⟩,?_⟩)⟩;refine Ym rs (PvA H a xs) ?_ (fun i σ H' h=>?_) (fun i σ H3 v d hi he rd h D' hn _=>?_) (fun σ H2 h=>?_)
 ·exact ⟨pf,none,none,rfl,hpf,g0,h0⟩
 ·obtain ⟨pf,o2,o3,rfl,hpf,g2,hp2⟩:=h;exact g2.sqT hq
 ·clear h0 g0 hpf;obtain ⟨pf,o2,o3,rfl,hpf,g2,hp2⟩:=h;obtain ⟨s1,t1,tr,hs1,ht1⟩:=tl.mem d (Ay he);have tot0:=tot i;have tot1:=tot (i+1);have e1:Tre.brL (xs.take (i+1))=Tre.brL (xs.take i)++Tre.brS d:=by rw [Bb,he,Tre.brL_append,show (some d).toList=[d] from rfl,Tre.brL,Tre.brL,An]
  rw [e1,Ac] at tot1;refine tr.el fun _ _ _ _ _ _ hf _=>Tre.yH hf fun hd ts hdd=>?_;subst hdd;have hts:=Tre.qfo tr;refine rd.tp1 fun a2 ys' e2 hq0 rs2=>?_;subst e2;have hyl:=rs2.length;generalize hpre:Tre.brL (xs.take i)++(if hd=="let" then [Tre.txt (ts.headD .none)] else [])=pre
  have eS:Tre.brL (xs.take i)++Tre.brS (.tuple (.str hd::ts))=pre++Tre.zP hd 1 ts:=by
   rw [← hpre,Bi];cases ts with
   | nil=>exact absurd rfl hts.1
   | cons t r=>rw [Tre.brS];rfl
  have totS:(pre++Tre.zP hd 1 ts).length≤300:=by
   rw [← eS,Ac];exact tot1
  have rest:∀ (H4:Hp) (pf:Addr) (o3:Option V) (D:Ends) (tb:TS),qv H H4→H pf=none→H4 pf=some (.lst (pre.map V.str))→(∀ σ H',PvA H a xs (i+1) σ H'→D.nx σ H')→
    (∀ j v H5 D',j<ts.length→PvB H a a2 pre hd ts j v H5→(∀ σ H',PvB H a a2 pre hd ts (j+1) σ H'→D'.nx σ H')→tb D' (v.set 3 (some (.int (1+(j:Int))))) H5)→
    Jv (qg0 (qf (tC (V.int 1)) (qf (tCB (fun xs H Q=>∃ x n,xs=[x]∧Vo K x H n∧Q (V.int ↑n) H) (qf (qg 2) qp)) qp))) (qm 3) tb D [some (.ref a),some (.ref pf),some (.ref a2),o3] H4:=by
   intro H4 pf o3 D tb g4 hpf h4 hD htb;have e4:((((V.str hd::ys').length:Nat):Int) - 1).toNat=ts.length:=by
    rw [Ak,hyl];omega
   refine ⟨_,rfl,_,_,rfl,.inr ⟨_,g4.sqT hq0,rfl⟩,_,_,rfl,⟨⋯,⋯,⋯,by rw [Ak];omega⟩,?_⟩
   refine qbz ts.length (PvB H a a2 pre hd ts) ⟨pf,o3,rfl,hpf,g4,by rw [List.take_zero,Tre.zP,An];exact h4⟩ (fun j σ H5 hj h=>?_) (fun σ H5 h=>?_)
   ·refine ⟨show j<_ by rw [e4];exact hj,fun v H6 yl=>?_⟩
    obtain ⟨rfl,rfl⟩:=yl;exact htb j σ H6 _ hj h fun _ _ h=>h
   ·refine ⟨show _≤ts.length by rw [e4];exact Ag _,?_⟩
    obtain ⟨pf,o3,rfl,hpf,g5,hp5⟩:=h;refine hD _ _ ⟨pf,_,o3,rfl,hpf,g5,?_⟩;rw [e1,eS];rw [Bo] at hp5;exact hp5
  have body:∀ (j:Nat) (σ:St) (H5:Hp) (D':Ends),j<ts.length→PvB H a a2 pre hd ts j σ H5→(∀ σ H',PvB H a a2 pre hd ts (j+1) σ H'→D'.nx σ H')→qB (zJ (wF (qJ (tOp rEq (tOp (rIx K) (qg 2) (tC (V.int 0))) (tC (V.str "try")))) (qJ (tOp rEq (qg 3) (tC (V.int 3))))) (zz (tBM K "list" zM (qg 1) (qf (tOp (rIx K) (qg 2) (tC (V.int 3))) qp))) zu)
    (zJ (wF (qJ (tOp (rIn K false) (tOp (rIx K) (qg 2) (tC (V.int 0))) (Ji (qf (tC (V.str "if")) (qf (tC (V.str "while")) (qf (tC (V.str "try")) qp)))))) (wF (tB (tCB (fun xs H Q=>∃ x d T,xs=[x,V.ty T]∧Rep K H x d∧T∈["bool","int","str","list","tuple"]∧Q (V.bl (isi (tyD d) T)) H) (qf (tOp (rIx K) (qg 2) (qg 3)) (qf (tC (V.ty "tuple")) qp)))) (tOr (qJ (tOp (rI0 fun i j=>V.bl (decide (j<i))) (qg 3) (tC (V.int 1)))) (qJ (tOp rEq (tOp (rIx K) (qg 2) (tC (V.int 0))) (tC (V.str "try")))))))
     (qP (tOp jh (qg 1) (qG (spBro K n) [] E0 (qf (tOp (rIx K) (qg 2) (qg 3)) qp))) (qm 1)) zu) D' (σ.set 3 (some (.int (1+(j:Int))))) H5:=by
   intro j σ H5 D' hj h hD;obtain ⟨pf,o3,rfl,hpf,g5,hp5⟩:=h;obtain ⟨yj,hyj⟩:=Vf (l:=ys') (i:=j) ⋯;obtain ⟨tj,htj,rj⟩:=rs2.get hyj;have hxj:(V.str hd::ys')[1+j]?=some yj:=by
    rw [Nat.add_comm,C6];exact hyj
   have eat:(1+(j:Int))=((1+j:Nat):Int):=⋯;have step:Tre.zP hd 1 (ts.take (j+1))=Tre.zP hd 1 (ts.take j)++Tre.qdm hd (1+j) tj:=by
    rw [Bb,htj,show (some tj).toList=[tj] from rfl,Tre.X3,List.length_take_of_le ⋯]
   have tj1:(pre++Tre.zP hd 1 (ts.take (j+1))).length≤300:=by
    have e:=Tre.WW hd (ts.drop (j+1)) (ts.take (j+1)) 1;rw [Dd] at e;rw [e,← Bi,Ac] at totS;omega
   have fin:∀ (H6:Hp) (pf:Addr) (l:List Str),H pf=none→qv H H6→H6 pf=some (.lst (l.map V.str))→l=pre++(Tre.zP hd 1 (ts.take j)++Tre.qdm hd (1+j) tj)→∀ o3,D'.nx [some (.ref a),some (.ref pf),some (.ref a2),o3] H6:=fun H6 pf l hpf g6 h6 e o3=>by
    refine hD _ _ ⟨pf,o3,rfl,hpf,g6,?_⟩;rw [step,← e];exact h6
   generalize hA1:(if hd=="try"&&(1+j)==3 then [Tre.txt tj] else [])=A1
   generalize hA2:(if Tre.Vk hd&&(Tre.jx tj&&(decide (1<1+j)||hd=="try")) then Tre.brB tj else [])=A2
   have eO:Tre.qdm hd (1+j) tj=A1++A2:=by rw [← hA1,← hA2];rfl
   rw [step,eO] at tj1;rw [eO] at fin;have len1:(pre++(Tre.zP hd 1 (ts.take j)++A1)).length≤300:=by
    simp only [Ac] at tj1 ⊢;omega
   have key:∀ U:TS,(∀ (H6:Hp) (pf:Addr),H pf=none→qv H H6→H6 pf=some (.lst ((pre++(Tre.zP hd 1 (ts.take j)++A1)).map V.str))→U D' [some (.ref a),some (.ref pf),some (.ref a2),some (.int (1+(j:Int)))] H6)→
     qB (zJ (wF (qJ (tOp rEq (tOp (rIx K) (qg 2) (tC (V.int 0))) (tC (V.str "try")))) (qJ (tOp rEq (qg 3) (tC (V.int 3))))) (zz (tBM K "list" zM (qg 1) (qf (tOp (rIx K) (qg 2) (tC (V.int 3))) qp))) zu) U D' [some (.ref a),some (.ref pf),some (.ref a2),some (.int (1+(j:Int)))] H5:=by
    intro U hU;refine ⟨_,rfl,.inr (.inl ⟨a2,_,0,_,rfl,rfl,g5.sqT hq0,qo (j:=0) rfl,rfl,_,rfl,?_⟩)⟩
    by_cases ht:hd="try"
    ·subst ht;refine qX (deq rfl) ⟨_,rfl,rfl,_,rfl,?_⟩
     by_cases h3:j=2
     ·subst h3;refine qX (show decide _=true from Al rfl) ?_;obtain ⟨cc,hcc⟩:=Tre.qdw tr;cases htj.symm.trans hcc;cases rj;rw [← hA1,if_pos ∅] at hU len1;refine ⟨_,rfl,.inl ⟨rfl,_,SqL.of hp5⟩,_,rfl,.inr (.inl ⟨a2,_,3,_,rfl,rfl,g5.sqT hq0,qo (j:=3) hxj,pf,_,_,rfl,rfl,hp5,jy (by simp only [Ac,Ab] at len1 ⊢;omega),?_⟩)⟩
      refine hU _ pf hpf (qE g5 hpf _) ?_;rw [upd_same,Ah,Ah,Ah,← Bi];rfl
     ·refine qO (show decide _=false from As fun z=>h3 (by have:=V.int.inj z;omega)) ?_
      rw [← hA1,if_neg (by rw [Ae,A4,A4];omega),An] at hU
      exact hU H5 pf hpf g5 hp5
    ·refine qO (dne ht) ?_;rw [← hA1,if_neg (by rw [Ae,A4];exact fun z=>ht z.1),An] at hU
     exact qO rfl (hU H5 pf hpf g5 hp5)
   refine key _ fun H6 pf hpf g6 h6=>?_;have no:∀ H7,qv H6 H7→¬ (Tre.Vk hd&&(Tre.jx tj&&(decide (1<1+j)||hd=="try")))=true→D'.nx [some (.ref a),some (.ref pf),some (.ref a2),some (.int (1+(j:Int)))] H7:=fun H7 g7 hn=>by
    refine fin H7 pf _ hpf (g6.trans g7) (g7 _ _ h6) ?_ _;rw [← hA2,if_neg hn,An]
   refine ⟨_,rfl,.inr (.inl ⟨a2,_,0,_,rfl,rfl,g6.sqT hq0,qo (j:=0) rfl,qU O0,fun p1 hp1=>?_⟩)⟩;have g7:=qe hp1 (.tup [.str "if",.str "while",.str "try"]);refine ⟨p1,_,rfl,.inr (SqT.of upd_same),rfl,rfl,_,rfl,?_⟩;generalize upd H6 p1 (.tup [.str "if",.str "while",.str "try"])=H7 at g7 ⊢
   by_cases hc:Tre.Vk hd=true
   case neg=>exact qO ((qc0 hd).trans (Bz.mpr hc)) (qO rfl (no H7 g7 fun z=>hc (Bool.and_eq_true_iff.mp z).1))
   refine qX ((qc0 hd).trans hc) ?_;have gj:=g6.trans g7;refine ⟨_,rfl,_,rfl,.inr (.inl ⟨a2,_,_,_,rfl,rfl,gj.sqT hq0,by rw [eat];exact qo (j:=1+j) hxj,_,tj,"tuple",rfl,rj.same gj,O0,_,rfl,?_⟩)⟩
   rw [J0];cases htp:Tre.jx tj with
   | false=>exact qO rfl (qO rfl (no H7 g7 (by rw [htp,Cz,D7];exact Ai)))
   | true=>
    refine qX rfl ?_;have yes:(decide (1<1+j)||hd=="try")=true→∀ D:Ends,(∀ σ H',D'.nx σ H'→D.nx σ H')→qP (tOp jh (qg 1) (qG (spBro K n) [] E0 (qf (tOp (rIx K) (qg 2) (qg 3)) qp))) (qm 1) D [some (.ref a),some (.ref pf),some (.ref a2),some (.int (1+(j:Int)))] H7:=fun hb D hDD=>by
     have hb':0<j∨hd="try":=by
      rw [B6,A4,Dj] at hb;rcases hb with h | h
      ·exact .inl ⋯
      ·exact .inr h
     cases tj with
     | tuple xs1=>
      obtain ⟨s2,t2,p1,l1,l2⟩:=Tre.qls tr hc htj hb';rw [← hA2,if_pos (by rw [hc,htp,hb];rfl),Tre.brB] at fin tj1
      refine ⟨_,rfl,_,rfl,_,rfl,.inr (.inl ⟨a2,_,_,_,rfl,rfl,gj.sqT hq0,by rw [eat];exact qo (j:=1+j) hxj,_,xs1,s2,t2,rfl,rj.same gj,p1,⋯,⋯,fun H8 q1 g8 hq1 h8=>?_⟩)⟩
      refine .inr (.inr ⟨pf,q1,_,_,rfl,rfl,(g7.trans g8) _ _ h6,h8,qU (by simp only [Ac,Ab] at tj1 ⊢;omega),fun q2 hq2=>?_⟩)
      have g9:=((gj.trans g8).trans (qe hq2 (.lst ((pre++(Tre.zP hd 1 (ts.take j)++A1)).map V.str++(Tre.brL xs1).map V.str))));refine hDD _ _ (fin _ q2 _ ((gj.trans g8).free hq2) g9 (by rw [upd_same,← Ah]) (by simp only [Bi]) _)
     | _=>cases htp
    refine ⟨_,rfl,_,_,rfl,rfl,_,rfl,?_⟩
    by_cases h1:0<j
    ·refine qX (show decide _=true from Al ⋯) (qX rfl ?_);exact yes (by rw [Al ⋯];rfl) _ fun _ _ h=>h
    ·refine qO (show decide _=false from As ⋯) ?_;refine ⟨_,rfl,.inr (.inl ⟨a2,_,0,_,rfl,rfl,gj.sqT hq0,qo (j:=0) rfl,rfl,_,rfl,?_⟩)⟩
     by_cases ht:hd="try"
     ·refine qX (deq ht) ?_;exact yes (by rw [A4.mpr ht,Bool.or_true]) _ fun _ _ h=>h
     ·refine qO (dne ht) ?_;refine no H7 g7 ?_;rw [hc,htp,As ⋯,Bk.mpr ht];exact Ai
  refine ⟨_,rfl,.inr (.inl ⟨a2,_,0,_,rfl,rfl,g2.sqT hq0,qo (j:=0) rfl,rfl,_,rfl,?_⟩)⟩
  by_cases hl:hd="let"
  ·subst hl;refine qX (deq rfl) ?_;obtain ⟨nx,r,rfl⟩:=Tre.qef tr;refine rs2.ct fun y1 _ e'y1 r1 rs2=>?_;subst e'y1;obtain rfl:=r1.strI;refine ⟨_,rfl,.inl ⟨rfl,_,SqL.of hp2⟩,_,rfl,.inr (.inl ⟨a2,_,1,_,rfl,rfl,g2.sqT hq0,qo (j:=1) rfl,pf,_,_,rfl,rfl,hp2,jy (by rw [Ab];omega),?_⟩)⟩
   refine rest _ pf _ _ _ (qE g2 hpf _) hpf ?_ hn body;rw [upd_same,← hpre,Ah];rfl
  ·refine qO (dne hl) ?_;refine rest _ pf _ _ _ g2 hpf ?_ hn body;rw [← hpre,if_neg (by rw [A4];exact hl),An]
   exact hp2
 ·obtain ⟨pf,o2,o3,rfl,hpf,g2,hp2⟩:=h;rw [Bo] at hp2;exact ⟨_,rfl,q _ pf g2 hpf hp2⟩
theorem Q9 {fB:Addr} {dB:FuncData} (F:Fun K "_law_brought" "_law_brought" Je fB dB) (kB:Known K mg "_law_brought" ["_law_body_here"] fB dB) (c:Cs K mg ad):∀ n:Nat,Def P w K mg base n "_law_brought" ["_law_body_here"] (spBro K n)
 | 0=>by
  have no:∀ vs H Q E,spBro K 0 vs H Q E→False:=fun vs H Q E h=>by
   obtain ⟨x,xs,s,t,_,_,_,_,ht,_⟩:=h;omega
  exact kB.out ⟨fun vs H Q E h=>(no _ _ _ _ h).elim,fun _ _ _ _ _ _ _ _ _ _ _ _ _ h=>(no _ _ _ _ h).elim⟩
 | n+1=>kB.out (y9 F c n (Q9 F kB c n))
inductive spLU (K:Frag) (n:Nat) (vs:List V) (H:Hp) (Q:VK) (E':XK):Prop
 | mk:∀ x d s t,(vs=[x])→(Rep K H x d)→(Tre.Tr d s t)→(s≤300)→(t≤n)→(n≤20)→(∀ H' p,qv H H'→H p=none→H' p=some (.lst ((Tre.jd 30 d).map V.str))→Q (.ref p) H')→spLU K n vs H Q E'
inductive Iv_NamI_0 (H:Hp) (hd:Str) (ts:List PyData) (a2:Addr) (H4:Hp) (i:Nat) (σ:St) (H':Hp):Prop
 | mk:∀ pf o2,(σ=[some (.ref a2),some (.ref pf),o2])→(H pf=none)→(qv H4 H')→(H' pf=some (.lst ((Tre.own (.tuple (.str hd::ts))++((Tre.qL (.tuple (.str hd::ts))).take i).flatMap (Tre.jd 30)).map V.str)))→Iv_NamI_0 H hd ts a2 H4 i σ H'
def Z0 (K:Frag) (n:Nat):TS:=qP (tOp jh (qg 1) (qG (spLU K n) [] E0 (qf (qg 2) qp))) (qm 1)
def ZZ (K:Frag) (n:Nat):TS:=qB (Jv (jD K (qG (spLI K) [] E0 (qf (qg 0) qp))) (qm 2) (Z0 K n)) (zV (qg 1))
def ZY (K:Frag) (n:Nat):TS:=qB (qP (tIf (qJ (tOp (rIn K false) (tOp (rIx K) (qg 0) (tC (V.int 0))) (Ji (qf (tC (V.str "name")) (qf (tC (V.str "set")) qp))))) (Ju (qf (tOp (rIx K) (qg 0) (tC (V.int 1))) qp)) (Ju qp)) (qm 1)) (ZZ K n)
theorem QF (F:Fun K "_law_used" "_law_used" vx f fd) (c:Cs K mg ad) (n:Nat) (d_law_inner:Def P w K mg base 1 "_law_inner" ["_law_part"] (spLI K)) (d_law_used:Def P w K mg base (n+1) "_law_used" ["_law_part"] (spLU K n)):FnOk P w K mg base CX0 (n+2) f fd ["_law_part"] (spLU K (n+1)):=by
 refine F.ok (k:=n+1) JS (fun vs H Q E h=>?_) (fun cdv A outer s H vs Q E hr h=>?_)
 ·obtain ⟨x,d,s,t,rfl,_⟩:=h;rfl
 obtain ⟨x,d,s,t,rfl,hk,tr,hs,ht,hn,q⟩:=h;refine ⟨_,(qd (qK (qr (Yh (K:=K) rfl) (pix K (pv 0) qh) (qQ (qb qq (qb qq qc))) rfl) (qi (qw (zg qc))) qy)
   (qd (pst 1 JS.nd (qgh (qr (Yh (K:=K) rfl) (pix K (pv 0) qh) (qQ (qb qq (qb qq qc))) rfl) (zg (qb (pix K (pv 0) qh) qc)) (zg qc)))
   (qd (zT Bh rfl (j5 (K:=K) rfl (pdf d_law_inner (qb (pv 0) qc))) (pgn 2 JS.nd) (qi (pst 1 JS.nd (qt zi (pv 1) (pdf d_law_used (qb (pv 2) qc))))))
   (qi (qw (pv 1)))))),?_⟩
 show qB (zJ (qJ (tOp (rIn K false) (tOp (rIx K) (qg 0) (tC (V.int 0))) (Ji (qf (tC (V.str "fun")) (qf (tC (V.str "loop")) qp))))) (zV (Ju qp)) zu) (ZY K n) _ _ _;have up:=Tre.XA tr ⋯;have ul:=tr.uses_le 30;have trS:=tr;refine tr.el fun sh hands s0 t0 es et hform tl=>Tre.yH hform fun hd ts ed=>?_;subst ed;refine hk.tp1 fun a2 ys' e2 hq0 rs2=>?_;subst e2;refine ⟨_,rfl,.inr (.inl ⟨a2,_,0,_,rfl,rfl,hq0,qo (j:=0) rfl,qU O0,fun p1 hp1=>?_⟩)⟩;have g1:=qe hp1 (.tup [.str "fun",.str "loop"]);refine ⟨p1,_,rfl,.inr (SqT.of upd_same),rfl,rfl,_,rfl,?_⟩;generalize upd H p1 (.tup [.str "fun",.str "loop"])=H1 at g1 ⊢;cases hin:Tre.wV (.tuple (.str hd::ts)) with
 | true=>
  rw [hin,if_pos rfl] at up;refine qX ((J2 hd "fun" "loop").trans hin) ⟨qU O0,fun p2 hp2=>?_⟩;refine q _ p2 (g1.trans (qe hp2 _)) (g1.free hp2) ?_;rw [upd_same,up];rfl
 | false=>
  rw [hin,if_neg Ai] at up;rw [up] at ul q;refine qO ((J2 hd "fun" "loop").trans hin) ?_;have rest:∀ (H3:Hp) (pf:Addr) (D:Ends) (tb:TS),D.rt=Q→qv H H3→H pf=none→H3 pf=some (.lst ((Tre.own (.tuple (.str hd::ts))).map V.str))→(∀ σ H',tb D σ H'=∃ v,σ[1]?=some (some v)∧Q v H')→qB (Jv (jD K (qG (spLI K) [] E0 (qf (qg 0) qp))) (qm 2) (qP (tOp jh (qg 1) (qG (spLU K n) [] E0 (qf (qg 2) qp))) (qm 1))) tb D [some (.ref a2),some (.ref pf),none] H3:=by
   intro H3 pf D tb _ g3 hpf h3 htb;refine ⟨_,rfl,.ref a2,_,s,t,H,rfl,g3,hk,trS,⋯,fun H4 pl ks g4 hpl hl4 rk=> .inl ⟨pl,rfl,⟨ks,SqL.of hl4⟩,?_⟩⟩;have hkl:=rk.length;refine qg7 rk (Iv_NamI_0 H hd ts a2 H4) ?_ (fun i σ H' h=>?_) (fun i σ H6 v e hi he re h D' hn _=>?_) (fun σ H5 h=>?_)
   ·refine ⟨pf,none,rfl,hpf,qv.refl _,?_⟩;rw [List.take_zero,List.flatMap_nil,An];exact g4 _ _ h3
   ·obtain ⟨pf,o2,rfl,hpf,g5,h5⟩:=h;exact SqL.of (g5 _ _ hl4)
   ·obtain ⟨pf,o2,rfl,hpf,g5,h5⟩:=h;obtain ⟨s1,t1,tr1,hs1,ht1⟩:=tl.mem e (Ay he);have ee:Tre.own (.tuple (.str hd::ts))++((Tre.qL (.tuple (.str hd::ts))).take (i+1)).flatMap (Tre.jd 30)=(Tre.own (.tuple (.str hd::ts))++((Tre.qL (.tuple (.str hd::ts))).take i).flatMap (Tre.jd 30))++Tre.jd 30 e:=by
     rw [Bb,he,Ck,Bi];simp
    have all:(Tre.own (.tuple (.str hd::ts))++((Tre.qL (.tuple (.str hd::ts))).take (i+1)).flatMap (Tre.jd 30)).length≤300:=by
     rw [← Dd (i+1) (Tre.qL (.tuple (.str hd::ts))),Ck,← Bi,Ac] at ul;omega
    rw [ee,Ac] at all;refine ⟨_,rfl,_,rfl,v,e,s1,t1,rfl,re.same (g3.trans (g4.trans g5)),tr1,⋯,⋯,⋯,fun H7 q1 g7 hq1 h7=>?_⟩;refine .inr (.inr ⟨pf,q1,_,_,rfl,rfl,g7 _ _ h5,h7,qU (by rw [Ab,Ab];omega),fun q2 hq2=>?_⟩)
    refine hn _ _ ⟨q2,_,rfl,(g3.trans (g4.trans (g5.trans g7))).free hq2,(g5.trans g7).trans (qe hq2 _),?_⟩;rw [upd_same,ee,← Ah]
   ·obtain ⟨pf,o2,rfl,hpf,g5,h5⟩:=h;rw [Bo] at h5;dsimp only;rw [htb];exact ⟨_,rfl,q _ pf (g3.trans (g4.trans g5)) hpf h5⟩
  refine ⟨_,rfl,.inr (.inl ⟨a2,_,0,_,rfl,rfl,g1.sqT hq0,qo (j:=0) rfl,qU O0,fun p2 hp2=>?_⟩)⟩;have g2:=g1.trans (qe hp2 (.tup [.str "name",.str "set"]));refine ⟨p2,_,rfl,.inr (SqT.of upd_same),rfl,rfl,_,rfl,?_⟩;generalize upd H1 p2 (.tup [.str "name",.str "set"])=H2 at g2 ⊢;refine Vd (fun hn=>?_) (fun hn=>?_)
  ·have hh:hd="name"∨hd="set":=by
    have z:inV (.str hd) [.str "name",.str "set"]=true:=hn;rw [J2,B6,A4,A4] at z;exact z
   obtain ⟨nx,r,rfl,_,eown⟩:=Tre.yZ trS hh;refine rs2.ct fun y1 _ e'y1 r1 rs2=>?_;subst e'y1;obtain rfl:=r1.strI;refine ⟨_,rfl,.inr (.inl ⟨a2,_,1,_,rfl,rfl,g2.sqT hq0,qo (j:=1) rfl,qU (by simp only [Ac,Ab,Av,Ak,B1,Bf];omega),fun pf hpf=>?_⟩)⟩
   exact rest _ pf _ _ rfl (g2.trans (qe hpf _)) (g2.free hpf) (by rw [upd_same,eown];rfl) fun σ H'=>rfl
  ·have hh:¬ (hd="name"∨hd="set"):=fun z=>by
    refine hn (show inV (.str hd) [.str "name",.str "set"]=true from ?_);rw [J2,B6,A4,A4];exact z
   refine ⟨qU O0,fun pf hpf=>?_⟩;exact rest _ pf _ _ rfl (g2.trans (qe hpf _)) (g2.free hpf) (by rw [upd_same,Tre.wl hh];rfl) fun σ H'=>rfl
theorem qjd {fB:Addr} {dB:FuncData} (F:Fun K "_law_used" "_law_used" vx fB dB) (kB:Known K mg "_law_used" ["_law_part"] fB dB) (c:Cs K mg ad) (d_law_inner:Def P w K mg base 1 "_law_inner" ["_law_part"] (spLI K)):∀ n:Nat,Def P w K mg base (n+1) "_law_used" ["_law_part"] (spLU K n)
 | 0=>by
  have no:∀ vs H Q E,spLU K 0 vs H Q E→False:=fun vs H Q E h=>by
   obtain ⟨x,d,s,t,_,_,tr,_,ht,_⟩:=h;cases tr;omega
  exact kB.out ⟨fun vs H Q E h=>(no _ _ _ _ h).elim,fun _ _ _ _ _ _ _ _ _ _ _ _ _ h=>(no _ _ _ _ h).elim⟩
 | n+1=>kB.out (QF F c n d_law_inner (qjd F kB c d_law_inner n))
end
end Mine
namespace L2
open PySem PySem.Spec PyProof.Rows
section
variable {K:Frag} {H H':Hp}
def But (p:Addr) (H H':Hp):Prop:=∀ b o,b≠p→H b=some o→H' b=some o
theorem But.trans {p:Addr} {H2:Hp} (a:But p H H') (b:But p H' H2):But p H H2:=fun c o n e=>b c o n (a c o n e)
theorem But.of {p:Addr} (g:qv H H'):But p H H':=fun b o _ e=>g b o e
theorem But.put {p:Addr} {o':HO}:But p H (upd H p o'):=fun b o n e=>by rw [qk n];exact e
theorem But.tp {p:Addr} {o:HO} (g:But p H H') (hp:H p=some o) (n:qmk o=true):Tp H H':=fun b xs h=>by
 have nb:b≠p:=fun z=>by
  subst z;rcases h with h | ⟨ob,h⟩
  ·rw [hp] at h;cases h;cases n
  ·rw [hp] at h;cases h;cases n
 rcases h with h | ⟨ob,h⟩
 ·exact .inl (g _ _ nb h)
 ·exact .inr ⟨ob,g _ _ nb h⟩
end
end L2
namespace Tre
open PySem
theorem Acc.nol {acc:List PyData} (h:Acc acc):zH acc=true:=(Vg (n:=60) fun e he=>by
 obtain ⟨_,_,_,_,_,g⟩:=h.all e he;exact g).1
theorem qgl {d:PyData} {u:Str} {hands:Bool} (h:qI d u hands=true) (hu:u="term"∨u="statement"):∃ hd ts,d= .tuple (.str hd::ts)∧hd≠"main":=by
 obtain ⟨hd,ts,fs,l,rfl,e1,e2,_⟩:=qZ h;refine ⟨hd,ts,rfl,fun z=>?_⟩;subst z;rcases hu with rfl | rfl
 ·have q:heads.lookup ("term":Str)=some (["number","name","two","fun","loop","call","step"]:List Str):=∅;rw [q] at e1;cases e1;exact absurd e2 ∅
 ·have q:heads.lookup ("statement":Str)=some (["let","set","do","if","while","hand","back","fault","try"]:List Str):=∅;rw [q] at e1;cases e1;exact absurd e2 ∅
end Tre
namespace Mine
open PySem L2
section
variable {P:Program} {w:World} {K:Frag} {mg:Str→Option Value} {base:Heap} {f:Addr} {fd:FuncData} {ad:Ad}
theorem qlb {h:Str} (hm:h≠"main"):inV (.str h) [.str "fun",.str "loop"]=Tre.holds h:=by
 have q:=QV h;rw [As fun z=>hm (V.str.inj z),Bool.false_or] at q;exact q
inductive RowAt (H:Hp) (v:V) (r:Tre.Row):Prop
 | mk:∀ q n u,(v= .ref q)→(H q=some (.tup [.str r.kind,.ref n,.ref u,oV r.outer]))→(H n=some (.lst (r.names.map V.str)))→(H u=some (.lst (r.used.map V.str)))→RowAt H v r
abbrev zq (H:Hp):List V→List Tre.Row→Prop:=Paired (RowAt H)
theorem zq.same {H H':Hp} {zs:List V} {rs:List Tre.Row} (g:qv H H') (h:zq H zs rs):zq H' zs rs:=L2.Paired.mapP h fun _ _ ⟨q,n,u,e,a,b,c⟩=>⟨q,n,u,e,g _ _ a,g _ _ b,g _ _ c⟩
theorem qcg {x:Addr} {r:List V} (l:List Str) (h:l.map V.str= .ref x::r):False:=by
 cases l with
 | nil=>cases h
 | cons a b=>cases h
theorem zq.but {H H':Hp} {p x:Addr} {r0:List V} {zs:List V} {rs:List Tre.Row} (hp:H p=some (.lst (.ref x::r0))) (g:But p H H') (h:zq H zs rs):zq H' zs rs:=
 L2.Paired.mapP h fun _ _ ⟨q,n,u,e,a,b,c⟩=>⟨q,n,u,e,g _ _ (fun z=>by rw [z,hp] at a;cases a) a,g _ _ (fun z=>by rw [z,hp] at b;exact qcg _ (HO.lst.inj (Bg b)).symm) b,g _ _ (fun z=>by rw [z,hp] at c;exact qcg _ (HO.lst.inj (Bg c)).symm) c⟩
theorem zq.append {H:Hp}:∀ {ys zs:List V} {l m:List Tre.Row},zq H ys l→zq H zs m→zq H (ys++zs) (l++m)
 | _,_,_,_,.nil,h=>h
 | _,_,_,_,.cons r t,h=> .cons r (zq.append t h)
theorem zq.head {H:Hp} {zs:List V} {rs:List Tre.Row} (h:zq H zs rs) (n:rs≠[]):∃ a r,zs= .ref a::r:=by
 cases h with
 | nil=>exact absurd rfl n
 | cons a b=>
  obtain ⟨q,_,_,e,_⟩:=a;exact ⟨q,_,by rw [e]⟩
inductive spGat (K:Frag) (n:Nat) (vs:List V) (H:Hp) (Q:VK) (E':XK):Prop
 | mk:∀ x d sh hands s t num pf zs acc,(vs=[x,.int (num:Nat),.ref pf])→(Rep K H x d)→(Tre.Pt d sh hands s t)→(t≤n)→(n≤12)→(s≤300)→(H pf=some (.lst zs))→(zq H zs (Tre.rows acc))→(Tre.Acc acc)→(acc≠[])→(acc.length+s+n≤500)→(∀ H' zs',But pf H H'→H' pf=some (.lst zs')→zq H' zs' (Tre.rows (Tre.jf 30 (Tre.qL d) (.int (num:Nat)) acc))→Q .non H')→spGat K n vs H Q E'
inductive PvT (K:Frag) (d:PyData) (hands:Bool) (x:V) (num:Nat) (pf:Addr) (acc:List PyData) (n:Nat) (H1:Hp) (i:Nat) (σ:St) (H':Hp):Prop
 | mk:∀ zs' acc' o3 o4 o5 o6 s' t',(σ=[some x,some (.int (num:Nat)),some (.ref pf),o3,o4,o5,o6])→(But pf H1 H')→(H' pf=some (.lst zs'))→(zq H' zs' (Tre.rows acc'))→(acc'=Tre.jf 30 ((Tre.qL d).take i) (.int (num:Nat)) acc)→(Tre.Acc acc')→(acc'≠[])→(Tre.Ptl ((Tre.zw d).drop i) (Tre.Jo d hands) s' t')→(t'≤n)→(s'≤300)→(acc'.length+s'+n+2≤500)→PvT K d hands x num pf acc n H1 i σ H'
theorem qh1 {acc:List PyData} (h:acc≠[]):Tre.rows acc≠[]:=by
 cases acc with
 | nil=>exact absurd rfl h
 | cons a b=>intro z;cases z
inductive Iv_NamJ_0 (H4:Hp) (x:V) (pf:Addr) (a2:Addr) (xs:List PyData) (num:Nat) (o4:Option V) (i:Nat) (σ:St) (H':Hp):Prop
 | mk:∀ pu o6,(σ=[some x,some (.int (num:Nat)),some (.ref pf),some (.ref a2),o4,some (.ref pu),o6])→(H4 pu=none)→(qv H4 H')→(H' pu=some (.lst (((xs.take i).flatMap (Tre.jd 30)).map V.str)))→Iv_NamJ_0 H4 x pf a2 xs num o4 i σ H'
theorem qh6 {H4:Hp} {x:V} {pf a2:Addr} {hd:Str} {ns xs:List PyData} {y1 y2:V} {zs:List V} {acc:List PyData} {num:Nat} {o4 o5 o6:Option V} {s t:Nat} {D:Ends} (hz:H4 pf=some (.lst zs)) (rz:zq H4 zs (Tre.rows acc)) (ne:acc≠[]) (hlen:acc.length≤500)
  (hq:SqT K H4 a2 [.str hd,y1,y2]) (r1:Rep K H4 y1 (.tuple ns)) (hn1:ns.all Tre.zm=true) (hn2:ns.length≤4) (r2:Rep K H4 y2 (.tuple xs)) (tl:Tre.Trl xs s t) (hs:s≤300) (ht:t≤12)
  (hD:∀ H5 zs5 o5 o6,But pf H4 H5→H5 pf=some (.lst zs5)→zq H5 zs5 (Tre.rows (acc++[.tuple [.str hd,.tuple ns,.tuple xs,.int (num:Nat)]]))→D.nx [some x,some (.int (num:Nat)),some (.ref pf),some (.ref a2),some (.int (acc.length:Nat)),o5,o6] H5):
  qB (qP (Ju qp) (qm 5)) (qB (Jv (jD K (tOp (rIx K) (qg 3) (tC (V.int 2)))) (qm 6) (qP (tOp jh (qg 5) (qG (spLU K 12) [] E0 (qf (qg 6) qp))) (qm 5)))
   (qB (zz (tBM K "list" zM (qg 2) (qf (Ji (qf (tOp (rIx K) (qg 3) (tC (V.int 0))) (qf (tOp jh (tCB (fun xs H Q=>∃ p ys,xs=[V.ref p]∧(SqL K H p ys∨SqT K H p ys)∧∀ l,H l=none→Q (V.ref l) (upd H l (HO.lst ys))) (qf (tOp (rIx K) (qg 3) (tC (V.int 1))) qp)) (qG (spBro K 13) [] E0 (qf (tOp (rIx K) (qg 3) (tC (V.int 2))) qp))) (qf (qg 5) (qf (qg 1) qp))))) qp)))
    (qP (tOp (rI0 fun i j=>V.int (i - j)) (tCB (fun xs H Q=>∃ x n,xs=[x]∧Vo K x H n∧Q (V.int ↑n) H) (qf (qg 2) qp)) (tC (V.int 1))) (qm 4)))) D [some x,some (.int (num:Nat)),some (.ref pf),some (.ref a2),o4,o5,o6] H4:=by
 refine ⟨qU O0,fun pu hpu=>?_⟩;have g5:=qe hpu (.lst []);have h5:upd H4 pu (.lst []) pu=some (.lst []):=upd_same;generalize upd H4 pu (.lst [])=H5 at g5 h5 ⊢;obtain ⟨ab,ws,rfl,hqb,rsb⟩:=r2.tup_inv;have hwl:=rsb.length;have few:=tl.few;have ul:=tl.uses_le 30;have bl:=Tre.Yx _ tl (Ag _);refine ⟨_,rfl,.inr (.inl ⟨a2,_,2,_,rfl,rfl,g5.sqT hq,qo (j:=2) rfl,.inr (.inl ⟨ab,rfl,⟨ws,g5.sqT hqb⟩,?_⟩)⟩)⟩;refine Ym rsb (Iv_NamJ_0 H4 x pf a2 xs num o4) ?_ (fun i σ H' h=>?_) (fun i σ H7 v e hi he re h D' hn _=>?_) (fun σ H6 h=>?_)
 ·exact ⟨pu,_,rfl,hpu,g5,h5⟩
 ·obtain ⟨pu,o6,rfl,hpu,g6,h6⟩:=h;exact g6.sqT hqb
 ·obtain ⟨pu,o6,rfl,hpu,g6,h6⟩:=h;obtain ⟨s1,t1,tr1,hs1,ht1⟩:=tl.mem e (Ay he);have ee:(xs.take (i+1)).flatMap (Tre.jd 30)=(xs.take i).flatMap (Tre.jd 30)++Tre.jd 30 e:=by
   rw [Bb,he,Ck];simp
  have all:((xs.take (i+1)).flatMap (Tre.jd 30)).length≤300:=by
   rw [← Dd (i+1) xs,Ck,Ac] at ul;omega
  rw [ee,Ac] at all;refine ⟨_,rfl,_,rfl,v,e,s1,t1,rfl,re.same g6,tr1,⋯,⋯,O0,fun H8 q1 g8 hq1 h8=>?_⟩;refine .inr (.inr ⟨pu,q1,_,_,rfl,rfl,g8 _ _ h6,h8,qU (by rw [Ab,Ab];omega),fun q2 hq2=>?_⟩)
  refine hn _ _ ⟨q2,_,rfl,(g6.trans g8).free hq2,(g6.trans g8).trans (qe hq2 _),?_⟩;rw [upd_same,ee,← Ah]
 ·obtain ⟨pu,o6,rfl,hpu,g6,h6⟩:=h;rw [Bo] at h6;obtain ⟨an,wn,rfl,hqn,rsn⟩:=r1.tup_inv;have en:=yE rsn hn1;have hq6:=g6.sqT hq;have hz6:=g6 _ _ hz;refine ⟨_,rfl,.inl ⟨rfl,_,SqL.of hz6⟩,_,rfl,.inr (.inl ⟨a2,_,0,_,rfl,rfl,hq6,qo (j:=0) rfl,_,rfl,.inr (.inl ⟨a2,_,1,_,rfl,rfl,hq6,qo (j:=1) rfl,an,wn,rfl,.inr (g6.sqT hqn),fun l1 hl1=>?_⟩)⟩)⟩;have g7:=g6.trans (qe hl1 (.lst wn));have h7:upd H6 l1 (.lst wn) l1=some (.lst wn):=upd_same;have h67:=qe hl1 (.lst wn);generalize upd H6 l1 (.lst wn)=H7 at g7 h7 h67 ⊢;refine ⟨_,rfl,.inr (.inl ⟨a2,_,2,_,rfl,rfl,g7.sqT hq,qo (j:=2) rfl,_,xs,s,t,rfl,.tup (g7.sqT hqb) (rsb.same g7),tl,hs,⋯,fun H8 l2 g8 hl2 h8=>?_⟩)⟩;refine .inr (.inr ⟨l1,l2,_,_,rfl,rfl,g8 _ _ h7,h8,qU (by rw [en];simp only [Ac,Ab,Av,Ak,B1,Bf];omega),fun l3 hl3=>?_⟩)
  have g9:=g8.trans (qe hl3 (.lst (wn++(Tre.brL xs).map V.str)));have h9:upd H8 l3 (.lst (wn++(Tre.brL xs).map V.str)) l3=some (.lst (wn++(Tre.brL xs).map V.str)):=upd_same;generalize upd H8 l3 (.lst (wn++(Tre.brL xs).map V.str))=H9 at g9 h9 ⊢;refine ⟨_,rfl,_,rfl,qU (by simp only [Ac,Ab,Av,Ak,B1,Bf];omega),fun p4 hp4=>?_⟩
  have ga:=qe hp4 (.tup [.str hd,.ref l3,.ref pu,.int (num:Nat)]);have ha:upd H9 p4 (.tup [.str hd,.ref l3,.ref pu,.int (num:Nat)]) p4=some (.tup [.str hd,.ref l3,.ref pu,.int (num:Nat)]):=upd_same;generalize upd H9 p4 (.tup [.str hd,.ref l3,.ref pu,.int (num:Nat)])=Ha at ga ha ⊢;have g4a:=(g7.trans g9).trans ga;have hza:=g4a _ _ hz;have hzl:=Cm rz;rw [Ab] at hzl;refine ⟨pf,_,_,rfl,rfl,hza,jy ⋯,?_⟩;obtain ⟨z0,zr,rfl⟩:=rz.head (qh1 ne);have row:zq Ha [.ref p4] [Tre.WM (.tuple [.str hd,.tuple ns,.tuple xs,.int (num:Nat)])]:=by
   refine .cons ⟨p4,l3,pu,rfl,ha,?_,((h67.trans g9).trans ga) _ _ h6⟩ .nil;rw [ga _ _ h9,en,← Ah];rfl
  have all:=((rz.same g4a).append row).but hza (But.put (o':= .lst (.ref z0::zr++[.ref p4])));have bp:But pf H4 (upd Ha pf (.lst (.ref z0::zr++[.ref p4]))):=(But.of g4a).trans But.put;have hp:upd Ha pf (.lst (.ref z0::zr++[.ref p4])) pf=some (.lst (.ref z0::zr++[.ref p4])):=upd_same;dsimp only;generalize upd Ha pf (.lst (.ref z0::zr++[.ref p4]))=Hb at all bp hp ⊢;refine ⟨_,rfl,_,_,rfl,.inl ⟨_,SqL.of hp,rfl⟩,_,_,rfl,rfl,?_⟩;have eo:(((.ref z0::zr++[V.ref p4]).length:Nat):Int) - 1=((acc.length:Nat):Int):=by rw [Ac,Av,hzl];omega
  dsimp only;rw [eo];refine hD Hb _ _ _ bp hp ?_;unfold Tre.rows;rw [Ah];exact all
def Wo (K:Frag):TS:=qP (tOp jh (qg 5) (qG (spLU K 12) [] E0 (qf (qg 6) qp))) (qm 5)
def Wn (K:Frag):TS:=qP (tOp (rI0 fun i j=>V.int (i - j)) (tCB (fun xs H Q=>∃ x n,xs=[x]∧Vo K x H n∧Q (V.int ↑n) H) (qf (qg 2) qp)) (tC (V.int 1))) (qm 4)
def Wm (K:Frag):TS:=qB (zz (tBM K "list" zM (qg 2) (qf (Ji (qf (tOp (rIx K) (qg 3) (tC (V.int 0))) (qf (tOp jh (tCB (fun xs H_1 Q=>∃ p ys,xs=[V.ref p]∧(SqL K H_1 p ys∨SqT K H_1 p ys)∧∀ (l:Addr),H_1 l=none→Q (V.ref l) (upd H_1 l (HO.lst ys))) (qf (tOp (rIx K) (qg 3) (tC (V.int 1))) qp)) (qG (spBro K 13) [] E0 (qf (tOp (rIx K) (qg 3) (tC (V.int 2))) qp))) (qf (qg 5) (qf (qg 1) qp))))) qp))) (Wn K)
def Wl (K:Frag):TS:=qB (Jv (jD K (tOp (rIx K) (qg 3) (tC (V.int 2)))) (qm 6) (Wo K)) (Wm K)
def Wj (K:Frag):TS:=qB (qP (Ju qp) (qm 5)) (Wl K)
def Wi (K:Frag) (n:Nat):TS:=zz (qG (spGat K n) [] E0 (qf (qg 3) (qf (qg 4) (qf (qg 2) qp))))
def Wh (K:Frag) (n:Nat):TS:=qB (zJ (qJ (tOp (rIn K false) (tOp (rIx K) (qg 3) (tC (V.int 0))) (Ji (qf (tC (V.str "fun")) (qf (tC (V.str "loop")) qp))))) (Wj K) zu) (Wi K n)
def Wg (K:Frag) (n:Nat):TS:=qB (qP (qg 1) (qm 4)) (Wh K n)
theorem W2 (F:Fun K "_law_gathered" "_law_gathered" jR f fd) (c:Cs K mg ad) (n:Nat) (d_law_inner:Def P w K mg base 1 "_law_inner" ["_law_part"] (spLI K)) (d_law_brought:Def P w K mg base 13 "_law_brought" ["_law_body_here"] (spBro K 13)) (d_law_used:Def P w K mg base 13 "_law_used" ["_law_part"] (spLU K 12)) (d_law_gathered:Def P w K mg base (n+14) "_law_gathered" ["_law_part","_law_number_here","_law_found"] (spGat K n)):FnOk P w K mg base CX0 (n+15) f fd ["_law_part","_law_number_here","_law_found"] (spGat K (n+1)):=by
 refine F.ok (k:=n+14) zE (fun vs H Q E h=>?_) (fun cdv A outer s H vs Q E hr h=>?_)
 ·obtain ⟨x,d,sh,hands,s,t,num,pf,zs,acc,rfl,_⟩:=h;rfl
 obtain ⟨x,d,sh,hands,s,t,num,pf,zs,acc,rfl,hk,pt,ht,hn,hs,hz,rz,ac,ne,hlen,q⟩:=h;refine ⟨_,(qi (zT Bh rfl (j5 (K:=K) rfl (pdf d_law_inner (qb (pv 0) qc))) (pgn 3 zE.nd) (qd (pst 4 zE.nd (pv 1))
   (qd (qK (qr (Yh (K:=K) rfl) (pix K (pv 3) qh) (qQ (qb qq (qb qq qc))) rfl) (qd (pst 5 zE.nd (zg qc))
   (qd (zT Bh rfl (j5 (K:=K) rfl (pix K (pv 3) qh)) (pgn 6 zE.nd) (qi (pst 5 zE.nd (qt zi (pv 5) (pdf d_law_used (qb (pv 6) qc))))))
   (qd (qT (Jn (K:=K) rfl Ax Bu Bs zC (pv 2) (qb (qQ (qb (pix K (pv 3) qh) (qb (qt zi (qW j4 (by rfl) c.list_ vI (qb (pix K (pv 3) qh) qc)) (pdf d_law_brought (qb (pix K (pv 3) qh) qc))) (qb (pv 5) (qb (pv 1) qc))))) qc)))
   (qi (pst 4 zE.nd (qt zp (qx (jY (K:=K) rfl) (by rfl) c.len_ z9 (qb (pv 2) qc)) qh)))))) qy)
   (qi (qT (pdf d_law_gathered (qb (pv 3) (qb (pv 4) (qb (pv 2) qc)))))))))),?_⟩
 show Jv (jD K (qG (spLI K) [] E0 (qf (qg 0) qp))) (qm 3) (Wg K n) _ _ _;have tr:=pt.tr;have gd:=tr.gd;refine ⟨_,rfl,x,d,s,t,H,rfl,qv.refl _,hk,tr,⋯,fun H1 pl ks g1 hpl hl1 rk=> .inl ⟨pl,rfl,⟨ks,SqL.of hl1⟩,?_⟩⟩;have npl:pl≠pf:=fun z=>by rw [z,hz] at hpl;cases hpl
 have hkl:=rk.length;refine pt.el fun s0 t0 es et hf pl0=>?_;have kil:(Tre.qL d).length=(Tre.zw d).length:=by unfold Tre.qL;rw [Ab]
 have rk1:=rk.same g1;refine qg7 rk1 (PvT K d hands x num pf acc n H1) ?_ (fun i σ H' h=>?_) (fun i σ H3 v e hi he re h D' hX _=>?_) (fun σ H2 h=>?_)
 ·exact ⟨zs,acc,none,none,none,none,s0,t0,rfl,fun b o _ e=>e,g1 _ _ hz,rz.same g1,rfl,ac,ne,pl0,⋯,⋯,⋯⟩
 ·obtain ⟨_,_,_,_,_,_,_,_,_,b2,_⟩:=h;exact SqL.of (b2 _ _ npl hl1)
 ·obtain ⟨zs',acc',o3,o4,o5,o6,s',t',rfl,b2,hz2,rz2,ea,ac2,ne2,pt2,ht2,hs2,hl2⟩:=h;rw [kil] at hi;have hzi:(Tre.zw d)[i]?=some ((Tre.zw d)[i]'hi):=Af hi;have eu:((Tre.zw d)[i]'hi).1=e:=by
   unfold Tre.qL at he;rw [Ar,hzi] at he;exact Bg he
  have hdr:(Tre.zw d).drop i=(Tre.zw d)[i]'hi::(Tre.zw d).drop (i+1):=List.drop_eq_getElem_cons hi;have hsort:((Tre.zw d)[i]'hi).2="term"∨((Tre.zw d)[i]'hi).2="statement":=Tre.Ye (d:=d) (e:=((Tre.zw d)[i]'hi).1) (Cd hi);rw [hdr] at pt2;generalize (Tre.zw d)[i]'hi=z at hzi eu hdr hsort pt2;obtain ⟨z1,u⟩:=z;cases eu;refine pt2.el fun s1 t1 s2 t2 es2 et2 pe pr=>?_;have hform:Tre.qI z1 u (Tre.Jo d hands)=true:=by
   cases pe with
   | mk h _=>exact h
  obtain ⟨hd,ts,rfl,hm⟩:=Tre.qgl hform hsort;have tre:=pe.tr;have nole:=tre.gd.nol;have re3:Rep K H3 v (.tuple (.str hd::ts)):=Rep.tp (b2.tp (g1 _ _ hz) rfl) re nole;have vis:=Tre.VQ (o:= .int (num:Nat)) (acc:=acc') tre ⋯;have st4:=Tre.qaf (k:=(num:Nat)) tre ⋯ ne2 ac2;have al:=Tre.ZW (.tuple (.str hd::ts)) (.int (num:Nat)) acc';have fin3:∀ b,Tre.holds hd=b→Tre.isFn (.tuple (.str hd::ts))=b:=fun b e=>e;have ik:=qlb hm;have rest:∀ (H4:Hp) (zs4:List V) (here:Nat) (o5 o6:Option V) (D:Ends),But pf H1 H4→H4 pf=some (.lst zs4)→zq H4 zs4 (Tre.rows (Tre.qS (.tuple (.str hd::ts)) (.int (num:Nat)) acc'))→Tre.zy (.tuple (.str hd::ts)) (.int (num:Nat)) acc'= .int (here:Nat)→(∀ σ H',PvT K d hands x num pf acc n H1 (i+1) σ H'→D.nx σ H')→
    zz (qG (spGat K n) [] E0 (qf (qg 3) (qf (qg 4) (qf (qg 2) qp)))) D [some x,some (.int (num:Nat)),some (.ref pf),some v,some (.int (here:Nat)),o5,o6] H4:=fun H4 zs4 here o5 o6 D b4 hz4 rz4 eo hD=>by
   refine ⟨_,rfl,_,rfl,_,rfl,v,_,u,_,s1,t1,here,pf,zs4,_,rfl,Rep.tp (b4.tp (g1 _ _ hz) rfl) re nole,pe,⋯,⋯,⋯,hz4,rz4,st4.1,st4.2,⋯,fun H5 zs5 b5 hz5 rz5=>?_⟩;have ev2:Tre.jf 30 (Tre.qL (.tuple (.str hd::ts))) (.int (here:Nat)) (Tre.qS (.tuple (.str hd::ts)) (.int (num:Nat)) acc')=Tre.jJ 30 (.tuple (.str hd::ts)) (.int (num:Nat)) acc':=by rw [vis,eo]
   rw [ev2] at rz5;have e5:Tre.jJ 30 (.tuple (.str hd::ts)) (.int (num:Nat)) acc'=Tre.jf 30 (List.take (i+1) (Tre.qL d)) (.int (num:Nat)) acc:=by
    rw [Bb,he,Tre.jf,Eg];show _=List.foldl _ (List.foldl _ acc _) [_];rw [B4,List.foldl_nil,ea]
   have fz:Tre.Acc (Tre.jJ 30 (.tuple (.str hd::ts)) (.int (num:Nat)) acc')∧Tre.jJ 30 (.tuple (.str hd::ts)) (.int (num:Nat)) acc'≠[]∧(Tre.jJ 30 (.tuple (.str hd::ts)) (.int (num:Nat)) acc').length≤acc'.length+s1:=by
    have q:=Tre.Yr 30 (num:Nat) acc' (by simpa using Tre.Trl.cons tre .nil) ⋯ ne2 ac2
    exact q
   exact hD _ _ ⟨zs5,_,_,_,_,_,s2,t2,rfl,b4.trans b5,hz5,rz5,e5,fz.1,fz.2.1,pr,⋯,⋯,⋯⟩
  refine ⟨_,rfl,?_⟩;refine re3.tp1 fun a2 ys3 e2 hq2 rs2=>?_;subst e2;refine ⟨_,rfl,.inr (.inl ⟨a2,_,0,_,rfl,rfl,hq2,qo (j:=0) rfl,qU O0,fun p1 hp1=>?_⟩)⟩;have gp:=qe hp1 (.tup [.str "fun",.str "loop"]);refine ⟨p1,_,rfl,.inr (SqT.of upd_same),rfl,rfl,_,rfl,?_⟩;generalize upd H3 p1 (.tup [.str "fun",.str "loop"])=H4 at gp ⊢;refine Vd (fun hn=>?_) (fun hn=>?_)
  ·have hh:Tre.holds hd=true:=ik.symm.trans hn;have eA:Tre.qS (.tuple (.str hd::ts)) (.int (num:Nat)) acc'=acc'++[Tre.fnOf (.tuple (.str hd::ts)) (.int (num:Nat))]:=by unfold Tre.qS;rw [if_pos (fin3 _ hh)]
   have eO:Tre.zy (.tuple (.str hd::ts)) (.int (num:Nat)) acc'= .int (acc'.length:Nat):=by unfold Tre.zy;rw [if_pos (fin3 _ hh)]
   obtain ⟨_,ns,xs,ed,hn1,hn2,hkx⟩:=Tre.wu hform (fin3 _ hh);cases ed;have trl:∃ s' t',Tre.Trl xs s' t'∧s'≤300∧t'≤12:=by
    cases tre with
    | @mk _ _ _ s5 t5 _ tl5=>exact ⟨s5,t5,hkx▸tl5,⋯,⋯⟩
   obtain ⟨s5,t5,tl5,hs5,ht5⟩:=trl;refine rs2.ct fun ya _ ea ra rs2=>rs2.ct fun yb _ eb rb rs2=>?_;cases rs2.nilI;subst eb;subst ea;refine qh6 (gp _ _ hz2) (rz2.same gp) ne2 ⋯ (gp.sqT hq2) (ra.same gp) hn1 hn2 (rb.same gp) tl5 hs5 ht5 fun H5 zs5 o5 o6 b5 hz5 rz5=>?_;exact rest H5 zs5 _ o5 o6 _ ((b2.trans (But.of gp)).trans b5) hz5 (by rw [eA];exact rz5) eO hX
  ·have hh:Tre.holds hd=false:=ik.symm.trans (Bz.mpr hn);have eA:Tre.qS (.tuple (.str hd::ts)) (.int (num:Nat)) acc'=acc':=by unfold Tre.qS;rw [if_neg (by rw [fin3 _ hh];exact Ai)]
   have eO:Tre.zy (.tuple (.str hd::ts)) (.int (num:Nat)) acc'= .int (num:Nat):=by unfold Tre.zy;rw [if_neg (by rw [fin3 _ hh];exact Ai)]
   exact rest H4 _ _ _ _ _ (b2.trans (But.of gp)) (gp _ _ hz2) (by rw [eA];exact rz2.same gp) eO hX
 ·obtain ⟨zs',acc',o3,o4,o5,o6,s',t',rfl,b2,hz2,rz2,ea,ac2,ne2,pt2,ht2,hl2⟩:=h;rw [Do ⋯] at ea;exact q _ zs' ((But.of g1).trans b2) hz2 (ea▸rz2)
theorem qc2 {fG:Addr} {dG:FuncData} (F:Fun K "_law_gathered" "_law_gathered" jR fG dG) (kG:Known K mg "_law_gathered" ["_law_part","_law_number_here","_law_found"] fG dG) (c:Cs K mg ad) (d_law_inner:Def P w K mg base 1 "_law_inner" ["_law_part"] (spLI K)) (d_law_brought:Def P w K mg base 13 "_law_brought" ["_law_body_here"] (spBro K 13)) (d_law_used:Def P w K mg base 13 "_law_used" ["_law_part"] (spLU K 12)):∀ n:Nat,Def P w K mg base (n+14) "_law_gathered" ["_law_part","_law_number_here","_law_found"] (spGat K n)
 | 0=>by
  have no:∀ vs H Q E,spGat K 0 vs H Q E→False:=fun vs H Q E h=>by
   obtain ⟨x,d,sh,hands,s,t,num,pf,zs,acc,_,_,pt,ht,_⟩:=h;cases pt;omega
  exact kG.out ⟨fun vs H Q E h=>(no _ _ _ _ h).elim,fun _ _ _ _ _ _ _ _ _ _ _ _ _ h=>(no _ _ _ _ h).elim⟩
 | n+1=>kG.out (W2 F c n d_law_inner d_law_brought d_law_used (qc2 F kG c d_law_inner d_law_brought d_law_used n))
end
end Mine
namespace Tre
open PySem
theorem qa5 (x:Str):∀ (l seen:List Str),jK seen (l++[x])=jK seen l++(if (seen++l).contains x=true then [x] else [])
 | [],seen=>by
  rw [Bv,jK,jK,jK,An,Bv]
 | y::r,seen=>by
  rw [C4,jK,jK,qa5 x r (seen++[y]),Bi];split <;> rfl
end Tre
namespace Mine
open PySem L2
section
variable {P:Program} {w:World} {K:Frag} {mg:Str→Option Value} {base:Heap} {f:Addr} {fd:FuncData} {ad:Ad}
inductive spAll (K:Frag) (vs:List V) (H:Hp) (Q:VK) (E':XK):Prop
 | mk:∀ x d s t,(vs=[x])→(Rep K H x d)→(Tre.Pt d "program" false s t)→(s≤300)→(t≤12)→(∀ H' p zs,qv H H'→H' p=some (.lst zs)→zq H' zs (Tre.rows (Tre.funs d))→Q (.ref p) H')→spAll K vs H Q E'
inductive Iv_NamL_0 (H:Hp) (xs:List PyData) (a2:Addr) (i:Nat) (σ:St) (H':Hp):Prop
 | mk:∀ pu o2,(σ=[some (.ref a2),some (.ref pu),o2,none])→(H pu=none)→(qv H H')→(H' pu=some (.lst (((xs.take i).flatMap (Tre.jd 30)).map V.str)))→Iv_NamL_0 H xs a2 i σ H'
def qa0 (K:Frag):TS:=qP (tOp jh (qg 1) (qG (spLU K 12) [] E0 (qf (qg 2) qp))) (qm 1)
def qaz (K:Frag):TS:=qB (zz (qG (spGat K 12) [] E0 (qf (qg 0) (qf (tC (V.int 0)) (qf (qg 3) qp))))) (zV (qg 3))
def qay (K:Frag):TS:=qB (qP (Ju (qf (Ji (qf (tC (V.str "main")) (qf (tOp jh (tCB (fun xs H_1 Q=>∃ p ys,xs=[V.ref p]∧(SqL K H_1 p ys∨SqT K H_1 p ys)∧∀ (l:Addr),H_1 l=none→Q (V.ref l) (upd H_1 l (HO.lst ys))) (qf (tOp (rIx K) (qg 0) (tC (V.int 1))) qp)) (qG (spBro K 13) [] E0 (qf (tOp (rIx K) (qg 0) (tC (V.int 2))) qp))) (qf (qg 1) (qf (tC V.non) qp))))) qp)) (qm 3)) (qaz K)
def qax (K:Frag):TS:=qB (Jv (jD K (tOp (rIx K) (qg 0) (tC (V.int 2)))) (qm 2) (qa0 K)) (qay K)
theorem qbm (F:Fun K "_law_all" "_law_all" wK f fd) (c:Cs K mg ad) (d_law_brought:Def P w K mg base 13 "_law_brought" ["_law_body_here"] (spBro K 13)) (d_law_used:Def P w K mg base 13 "_law_used" ["_law_part"] (spLU K 12)) (d_law_gathered:Def P w K mg base 26 "_law_gathered" ["_law_part","_law_number_here","_law_found"] (spGat K 12)):FnOk P w K mg base CX0 27 f fd ["_law_program_here"] (spAll K):=by
 refine F.ok JG (fun vs H Q E h=>?_) (fun cdv A outer s H vs Q E hr h=>?_)
 ·obtain ⟨x,d,s,t,rfl,_⟩:=h;rfl
 obtain ⟨x,d,s,t,rfl,hk,pt,hs,ht,q⟩:=h;refine ⟨_,(qd (pst 1 JG.nd (zg qc))
   (qd (zT Bh rfl (j5 (K:=K) rfl (pix K (pv 0) qh)) (pgn 2 JG.nd) (qi (pst 1 JG.nd (qt zi (pv 1) (pdf d_law_used (qb (pv 2) qc))))))
   (qd (pst 3 JG.nd (zg (qb (qQ (qb qq (qb (qt zi (qW j4 (by rfl) c.list_ vI (qb (pix K (pv 0) qh) qc)) (pdf d_law_brought (qb (pix K (pv 0) qh) qc))) (qb (pv 1) (qb JN qc))))) qc)))
   (qd (qT (pdf d_law_gathered (qb (pv 0) (qb qh (qb (pv 3) qc)))))
   (qi (qw (pv 3))))))),?_⟩
 show qB (qP (Ju qp) (qm 1)) (qax K) _ _ _;have tr:=pt.tr;obtain ⟨⟨da,db,ed0,ev⟩,accF,lenF⟩:=Tre.Vv pt ⋯;have hform:Tre.qI d "program" false=true:=by
  cases pt with
  | mk h _=>exact h
 have hfn:Tre.isFn d=true:=by rw [ed0];exact (∅:Tre.holds "main"=true)
 obtain ⟨hd,ns,xs,ed,hn1,hn2,hkx⟩:=Tre.wu hform hfn;subst ed;cases ed0;have trl:∃ s' t',Tre.Trl xs s' t'∧s'≤300∧t'≤12:=by
  cases tr with
  | @mk _ _ _ s5 t5 _ tl5=>exact ⟨s5,t5,hkx▸tl5,⋯,⋯⟩
 obtain ⟨s5,t5,tl,hs5,ht5⟩:=trl;refine ⟨qU O0,fun pu hpu=>?_⟩;have g5:=qe hpu (.lst []);have h5:upd H pu (.lst []) pu=some (.lst []):=upd_same;generalize upd H pu (.lst [])=H5 at g5 h5 ⊢;refine hk.tp3 fun a2 y1 y2 e' hq r1 r2=>?_;subst e';obtain ⟨ab,ws,rfl,hqb,rsb⟩:=r2.tup_inv;have hwl:=rsb.length;have few:=tl.few;have ul:=tl.uses_le 30;have bl:=Tre.Yx _ tl (Ag _);refine ⟨_,rfl,.inr (.inl ⟨a2,_,2,_,rfl,rfl,g5.sqT hq,qo (j:=2) rfl,.inr (.inl ⟨ab,rfl,⟨ws,g5.sqT hqb⟩,?_⟩)⟩)⟩;refine Ym rsb (Iv_NamL_0 H xs a2) ?_ (fun i σ H' h=>?_) (fun i σ H7 v e hi he re h D' hn _=>?_) (fun σ H6 h=>?_)
 ·exact ⟨pu,_,rfl,hpu,g5,h5⟩
 ·obtain ⟨pu,o6,rfl,hpu,g6,h6⟩:=h;exact g6.sqT hqb
 ·obtain ⟨pu,o6,rfl,hpu,g6,h6⟩:=h;obtain ⟨s1,t1,tr1,hs1,ht1⟩:=tl.mem e (Ay he);have ee:(xs.take (i+1)).flatMap (Tre.jd 30)=(xs.take i).flatMap (Tre.jd 30)++Tre.jd 30 e:=by
   rw [Bb,he,Ck];simp
  have all:((xs.take (i+1)).flatMap (Tre.jd 30)).length≤300:=by
   rw [← Dd (i+1) xs,Ck,Ac] at ul;omega
  rw [ee,Ac] at all;refine ⟨_,rfl,_,rfl,v,e,s1,t1,rfl,re.same g6,tr1,⋯,⋯,O0,fun H8 q1 g8 hq1 h8=>?_⟩;refine .inr (.inr ⟨pu,q1,_,_,rfl,rfl,g8 _ _ h6,h8,qU (by rw [Ab,Ab];omega),fun q2 hq2=>?_⟩)
  refine hn _ _ ⟨q2,_,rfl,(g6.trans g8).free hq2,(g6.trans g8).trans (qe hq2 _),?_⟩;rw [upd_same,ee,← Ah]
 ·obtain ⟨pu,o6,rfl,hpu,g6,h6⟩:=h;rw [Bo] at h6;obtain ⟨an,wn,rfl,hqn,rsn⟩:=r1.tup_inv;have en:=yE rsn hn1;have hq6:=g6.sqT hq;refine ⟨_,rfl,.inr (.inl ⟨a2,_,1,_,rfl,rfl,hq6,qo (j:=1) rfl,an,wn,rfl,.inr (g6.sqT hqn),fun l1 hl1=>?_⟩)⟩;have g7:=g6.trans (qe hl1 (.lst wn));have h7:upd H6 l1 (.lst wn) l1=some (.lst wn):=upd_same;have h67:=qe hl1 (.lst wn);generalize upd H6 l1 (.lst wn)=H7 at g7 h7 h67 ⊢;refine ⟨_,rfl,.inr (.inl ⟨a2,_,2,_,rfl,rfl,g7.sqT hq,qo (j:=2) rfl,_,xs,s5,t5,rfl,.tup (g7.sqT hqb) (rsb.same g7),tl,hs5,⋯,fun H8 l2 g8 hl2 h8=>?_⟩)⟩;refine .inr (.inr ⟨l1,l2,_,_,rfl,rfl,g8 _ _ h7,h8,qU (by rw [en];simp only [Ac,Ab,Av,Ak,B1,Bf];omega),fun l3 hl3=>?_⟩)
  have g9:=g8.trans (qe hl3 (.lst (wn++(Tre.brL xs).map V.str)));have h9:upd H8 l3 (.lst (wn++(Tre.brL xs).map V.str)) l3=some (.lst (wn++(Tre.brL xs).map V.str)):=upd_same;generalize upd H8 l3 (.lst (wn++(Tre.brL xs).map V.str))=H9 at g9 h9 ⊢;refine ⟨_,rfl,qU (by simp only [Ac,Ab,Av,Ak,B1,Bf];omega),fun p4 hp4=>?_⟩
  have ga:=qe hp4 (.tup [.str "main",.ref l3,.ref pu,.non]);have ha:upd H9 p4 (.tup [.str "main",.ref l3,.ref pu,.non]) p4=some (.tup [.str "main",.ref l3,.ref pu,.non]):=upd_same;generalize upd H9 p4 (.tup [.str "main",.ref l3,.ref pu,.non])=Ha at ga ha ⊢;refine ⟨qU (by simp only [Ac,Ab,Av,Ak,B1,Bf];omega),fun pf hpf=>?_⟩
  have gb:=qe hpf (.lst [.ref p4]);have hpb:upd Ha pf (.lst [.ref p4]) pf=some (.lst [.ref p4]):=upd_same;generalize upd Ha pf (.lst [.ref p4])=Hb at gb hpb ⊢;have g4a:=((g7.trans g9).trans ga);have g4b:=g4a.trans gb;have row:zq Hb [.ref p4] (Tre.rows [.tuple [.str "main",.tuple ns,.tuple xs,.none]]):=by
   refine .cons ⟨p4,l3,pu,rfl,gb _ _ ha,?_,(((h67.trans g9).trans ga).trans gb) _ _ h6⟩ .nil;rw [gb _ _ (ga _ _ h9),en,← Ah];rfl
  have fnm:Tre.Fn (.tuple [.str "main",.tuple ns,.tuple xs,.none]):=Tre.qc5 (o:= .none) tr hfn ⋯ ⟨rfl,rfl,Bw _⟩;have am:Tre.Acc [.tuple [.str "main",.tuple ns,.tuple xs,.none]]:=⟨fun e he=>by
   cases Am.mp he;exact fnm,fun e he=>by cases he⟩
  refine ⟨_,rfl,_,rfl,.ref a2,_,_,_,s,t,0,pf,_,_,rfl,hk.same g4b,pt,ht,O0,hs,hpb,row,am,by simp,by rw [Av];omega,fun Hc zs' bc hzc rzc=>?_⟩
  refine ⟨_,rfl,q Hc pf zs' (fun b o hb=>bc b o (qD hb (g4a.free hpf)) (g4b _ _ hb)) hzc ?_⟩;rw [ev];exact rzc
theorem vd {H:Hp}:∀ {zs:List V} {rs:List Tre.Row},zq H zs rs→∀ {i:Nat} {r:Tre.Row},rs[i]?=some r→∃ v,zs[i]?=some v∧RowAt H v r
 | _,_,.nil,i,r,h=>by simp at h
 | _,_,.cons a b,0,r,h=>by
  cases h;exact ⟨_,rfl,a⟩
 | _,_,.cons a b,i+1,r,h=>by
  rw [C6] at h;obtain ⟨v,e,q⟩:=vd b h;exact ⟨v,by rw [C6];exact e,q⟩
inductive spHold (K:Frag) (vs:List V) (H:Hp) (Q:VK) (E':XK):Prop
 | mk:∀ (pr:Addr) (i:Nat) (nm:Str) (zs:List V) (rs:List Tre.Row),(vs=[.ref pr,.int (i:Nat),.str nm])→(H pr=some (.lst zs))→(zq H zs rs)→(Tre.Vp rs)→(i<rs.length)→(Q (oV (Tre.zI rs i nm)) H)→spHold K vs H Q E'
inductive Iv_NamL_1 (H:Hp) (pr:Addr) (i:Nat) (nm:Str) (rs:List Tre.Row) (m:Nat) (σ:St) (H':Hp):Prop
 | mk:(H'=H)→(((∃ j:Nat,m=j+1∧j<rs.length∧σ=[some (.ref pr),some (.int (j:Nat)),some (.str nm)]∧Tre.zI rs j nm=Tre.zI rs i nm)∨(σ=[some (.ref pr),some .non,some (.str nm)]∧Tre.zI rs i nm=none)))→Iv_NamL_1 H pr i nm rs m σ H'
def Yy (K:Frag):TS:=qP (tOp (rIx K) (tOp (rIx K) (qg 0) (qg 1)) (tC (V.int 3))) (qm 1)
theorem Y1 (F:Fun K "_law_holder" "_law_holder" vz f fd) (c:Cs K mg ad):FnOk P w K mg base CX0 1 f fd ["_law_rows","_law_number_here","_law_name"] (spHold K):=by
 refine F.ok VI (fun vs H Q E h=>?_) (fun cdv A outer s H vs Q E hr h=>?_)
 ·obtain ⟨pr,i,nm,zs,rs,rfl,_⟩:=h;rfl
 obtain ⟨pr,i,nm,zs,rs,rfl,hpr,rz,bk,hi,q⟩:=h;refine ⟨_,(qd (Jl Bh (PW.pt (J8 (qr Zr (pv 1) JN (qz _)) (JA (qr (Ya (K:=K) rfl) (pv 2) (pix K (pix K (pv 0) (pv 1)) qh) rfl)))) (qi (pst 1 VI.nd (pix K (pix K (pv 0) (pv 1)) qh))))
   (qi (qw (pv 1)))),?_⟩
 show qB (vk (wF (qJ (tOp (fun x y H Q=>y=V.non∧Q (V.bl !decide (x=V.non)) H) (qg 1) (tC V.non))) (qJ (tOp (rIn K true) (qg 2) (tOp (rIx K) (tOp (rIx K) (qg 0) (qg 1)) (tC (V.int 1)))))) (Yy K)) (zV (qg 1)) _ _ _;refine ⟨(Iv_NamL_1 H pr i nm rs),⟨i+1,rfl,.inl ⟨i,rfl,hi,rfl,rfl⟩⟩,?_⟩;rintro m σ H' ⟨rfl,⟨j,rfl,hj,rfl,hh⟩ | ⟨rfl,hn⟩⟩
 ·have hr':rs[j]?=some rs[j]:=Af hj;obtain ⟨v,hv,qa,na,ua,rfl,hqa,hna,hua⟩:=vd rz hr';have step:=Tre.JD bk (x:=nm) hr';refine ⟨_,rfl,rfl,_,rfl,qX rfl ?_⟩;refine ⟨_,rfl,_,rfl,_,rfl,.inl ⟨pr,_,_,_,rfl,rfl,SqL.of hpr,qo (j:=j) hv,.inr (.inl ⟨qa,_,1,_,rfl,rfl,SqT.of hqa,qo (j:=1) rfl,na,_,rfl,.inl (SqL.of hna),rfl,qc6 _,_,rfl,?_⟩)⟩⟩;rw [if_pos rfl,QU]
  by_cases hc:rs[j].names.contains nm=true
  ·rw [hc];refine qO rfl ⟨_,rfl,?_⟩;rw [if_pos hc] at step;rw [← hh,step] at q;exact q
  ·rw [Bz.mpr hc];rw [if_neg hc] at step;refine qX rfl ⟨fun σ' H'=>∃ m',m'<j+1∧_,fun σ' H' h=>h,?_⟩;refine ⟨_,rfl,_,rfl,.inl ⟨pr,_,_,_,rfl,rfl,SqL.of hpr,qo (j:=j) hv,.inr (.inl ⟨qa,_,3,_,rfl,rfl,SqT.of hqa,qo (j:=3) rfl,?_⟩)⟩⟩;cases eo:rs[j].outer with
   | none=>
    rw [eo] at step;exact ⟨0,Nat.succ_pos _,rfl,.inr ⟨rfl,hh.symm.trans step⟩⟩
   | some k=>
    rw [eo] at step;have hk:=bk j _ hr' k eo;exact ⟨k+1,⋯,rfl,.inl ⟨k,rfl,⋯,rfl,step.symm.trans hh⟩⟩
 ·refine ⟨_,rfl,rfl,_,rfl,qO rfl ?_⟩;refine qO rfl ⟨_,rfl,?_⟩;rw [hn] at q;exact q
theorem zq.nd {H H':Hp} {zs:List V} {rs:List Tre.Row} (g:Nd H H') (h:zq H zs rs):zq H' zs rs:=L2.Paired.mapP h fun _ _ ⟨q,n,u,e,a,b,c⟩=>⟨q,n,u,e,g _ _ (fun _ z=>by cases z) a,g _ _ (fun _ z=>by cases z) b,g _ _ (fun _ z=>by cases z) c⟩
structure LD (L:List Str) (H0:Hp) (pr tk bx:Addr) (zs:List V) (rs:List Tre.Row) (ta ba:List Addr) (H:Hp) (Z:DS):Prop where
 sm:qv H0 H
 hr:H pr=some (.lst zs)
 rz:zq H zs rs
 ht:H tk=some (.lst (ta.map V.ref))
 hb:H bx=some (.lst (ba.map V.ref))
 tt:Tab Sum.inr L H ta Z.T
 tb:Tab Sum.inl vG H ba Z.B
 ne:∀ a∈ta,∀ b∈ba,a≠b
 f0:∀ a∈ta,H0 a=none
 f1:∀ b∈ba,H0 b=none
section
variable {L:List Str} {H0 H H':Hp} {pr tk bx:Addr} {zs:List V} {rs:List Tre.Row} {ta ba:List Addr} {Z:DS}
theorem LD.same (h:LD L H0 pr tk bx zs rs ta ba H Z) (g:qv H H'):LD L H0 pr tk bx zs rs ta ba H' Z:=⟨h.sm.trans g,g _ _ h.hr,h.rz.same g,g _ _ h.ht,g _ _ h.hb,h.tt.same g,h.tb.same g,h.ne,h.f0,h.f1⟩
theorem LD.take (h:LD L H0 pr tk bx zs rs ta ba H Z) {i:Nat} {a:Addr} (ha:ta[i]?=some a) {k:Str} (hk:k∈L) (hl:L.length≤60) (v:V):∃ d,H a=some (.dK d)∧d.length≤60∧LD L H0 pr tk bx zs rs ta ba (upd H a (.dK (zG d (Sum.inr k) v))) ⟨Z.B,Z.T.modify i fun d=>zG d (Sum.inr k) v⟩:=by
 have hm:=Ay ha;obtain ⟨d,hd,e,ok⟩:=h.tt.get ha;obtain ⟨ks,_,_,l2,_⟩:=ok.len;have g:Nd H (upd H a (.dK (zG d (Sum.inr k) v))):=Nd.put e;exact ⟨d,e,A0 l2 hl,qE h.sm (h.f0 a hm) _,g _ _ (fun _ z=>by cases z) h.hr,h.rz.nd g,g _ _ (fun _ z=>by cases z) h.ht,g _ _ (fun _ z=>by cases z) h.hb,h.tt.put ha hd hk v,h.tb.ne fun b hb=>Ne.symm (h.ne a hm b hb),h.ne,h.f0,h.f1⟩
theorem LD.box (h:LD L H0 pr tk bx zs rs ta ba H Z) {i:Nat} {a:Addr} (ha:ba[i]?=some a) {k:Int} (hk:k∈vG) (v:V):∃ d,H a=some (.dK d)∧d.length≤60∧LD L H0 pr tk bx zs rs ta ba (upd H a (.dK (zG d (Sum.inl k) v))) ⟨Z.B.modify i fun d=>zG d (Sum.inl k) v,Z.T⟩:=by
 have hm:=Ay ha;obtain ⟨d,hd,e,ok⟩:=h.tb.get ha;obtain ⟨ks,_,_,l2,_⟩:=ok.len;have g:Nd H (upd H a (.dK (zG d (Sum.inl k) v))):=Nd.put e;exact ⟨d,e,A0 l2 O0,qE h.sm (h.f1 a hm) _,g _ _ (fun _ z=>by cases z) h.hr,h.rz.nd g,g _ _ (fun _ z=>by cases z) h.ht,g _ _ (fun _ z=>by cases z) h.hb,h.tt.ne fun b hb=>h.ne b hb a hm,h.tb.put ha hd hk v,h.ne,h.f0,h.f1⟩
end
theorem wP:∀ l:List Str,Tre.zH (l.map PyData.str)=true
 | []=>rfl
 | x::r=>by
  rw [Ba,Tre.zH,wP r];rfl
theorem XN:∀ l:List Int,Tre.zH (l.map PyData.int)=true
 | []=>rfl
 | x::r=>by
  rw [Ba,Tre.zH,XN r];rfl
theorem qin (kd:Str) (names:List Str) (ns:List Int) (ms:List Str):Tre.noL (Qz kd names ns ms)=true:=by
 unfold Qz;rw [Tre.noL,Tre.zH,Tre.zH,Tre.zH,Tre.zH,Tre.zH,Tre.noL,Tre.noL,Tre.noL,Tre.noL,wP,wP,XN];rfl
inductive spDue (K:Frag) (vs:List V) (H:Hp) (Q:VK) (E':XK):Prop
 | mk:∀ x d s t names,(vs=[x])→(Rep K H x d)→(names.length=8)→((∀ x∈names,PyData.strOk x=true))→(Tre.Ft names d)→(Tre.Pt d "program" false s t)→(s≤300)→(t≤12)→(Tre.Qf (Tre.rows (Tre.funs d))=none)→(∀ H' p zs ds,qv H H'→H' p=some (.lst zs)→Reps K H' zs ds→OutsOk (Tre.va++names) (Tre.rows (Tre.funs d)) (zU (Tre.rows (Tre.funs d)) (Tre.rows (Tre.funs d)).length) ds→Q (.ref p) H')→spDue K vs H Q E'
def qaw (K:Frag):TS:=qP (tOp (rIx K) (tOp (rIx K) (qg 1) (qg 7)) (tC (V.int 3))) (qm 7)
def qav (K:Frag):TS:=qB (XI (tOp (rIx K) (qg 2) (qg 7)) (qg 5) (tC (V.bl true))) (qaw K)
def qau (K:Frag):TS:=XI (tOp (rIx K) (qg 3) (qg 6)) (tBM K "list" (fun x xs H Q=>∃ l ys k,x=V.ref l∧xs=[V.str k]∧SqL K H l (List.map V.str ys)∧k∈ys∧ys.length≤1000∧Q (V.int ↑ (List.idxOf k ys)) H) (tOp (rIx K) (tOp (rIx K) (qg 1) (qg 6)) (tC (V.int 1))) (qf (qg 5) qp)) (tC (V.bl true))
def qat (K:Frag):TS:=zJ (qJ (tOp rNe (qg 6) (qg 4))) (qau K) zu
def qas (K:Frag):TS:=qB (vk (qJ (tOp rNe (qg 7) (qg 6))) (qav K)) (qat K)
def qar (K:Frag):TS:=qB (qP (qg 4) (qm 7)) (qas K)
def qaq (K:Frag):TS:=qB (qP (qG (spHold K) [] E0 (qf (qg 1) (qf (qg 4) (qf (qg 5) qp)))) (qm 6)) (qar K)
def qap (K:Frag):TS:=Jv (jD K (tOp (rIx K) (tOp (rIx K) (qg 1) (qg 4)) (tC (V.int 2)))) (qm 5) (qaq K)
def qao (K:Frag):TS:=zz (tBM K "list" zM (qg 8) (qf (Ji (qf (qg 9) (qf (tCB (fun xs H Q=>∃ p ys,xs=[V.ref p]∧((SqL K H p ys∧∀ (l:Addr),H l=none→Q (V.ref l) (upd H l (HO.tup ys)))∨SqT K H p ys∧Q (V.ref p) H)) (qf (qg 10) qp)) (qf (tCB (fun xs H Q=>∃ p ys,xs=[V.ref p]∧((SqL K H p ys∧∀ (l:Addr),H l=none→Q (V.ref l) (upd H l (HO.tup ys)))∨SqT K H p ys∧Q (V.ref p) H)) (qf (tCB (fun xs H Q=>∃ d kvs ks,xs=[V.ref d]∧H d=some (HO.dK kvs)∧List.map (fun x=>x.fst) kvs=List.map Sum.inl ks∧ks.length<64∧∀ (ns:List Int),ns.Perm ks→List.Pairwise (fun x1 x2=>x1≤x2) ns→∀ (l:Addr),H l=none→Q (V.ref l) (upd H l (HO.lst (List.map V.int ns)))) (qf (tOp (rIx K) (qg 3) (qg 4)) qp)) qp)) (qf (tCB (fun xs H Q=>∃ p ys,xs=[V.ref p]∧((SqL K H p ys∧∀ (l:Addr),H l=none→Q (V.ref l) (upd H l (HO.tup ys)))∨SqT K H p ys∧Q (V.ref p) H)) (qf (tCB (fun xs H Q=>∃ d kvs ks,xs=[V.ref d]∧H d=some (HO.dK kvs)∧List.map (fun x=>x.fst) kvs=List.map Sum.inr ks∧ks.length<64∧∀ (ns:List Str),ns.Perm ks→PyProof.Rows.sortedS ns=true→∀ (l:Addr),H l=none→Q (V.ref l) (upd H l (HO.lst (List.map V.str ns)))) (qf (tOp (rIx K) (qg 2) (qg 4)) qp)) qp)) qp))))) qp))
def qan (K:Frag):TS:=qB (qP (tOp (rIx K) (qg 1) (qg 4)) (W7 K 4 (jb (qm 9) (jb (qm 10) (jb (qm 11) (jb (qm 12) Yl)))))) (qao K)
def Z7 (K:Frag):TS:=qB (Jv (QY (qf (tCB (fun xs H Q=>∃ x n,xs=[x]∧Vo K x H n∧Q (V.int ↑n) H) (qf (qg 1) qp)) qp)) (qm 4) (qan K)) (zV (qg 8))
def Z6 (K:Frag):TS:=qB (qP (Ju qp) (qm 8)) (Z7 K)
def Z5 (K:Frag):TS:=qB (Jv (QY (qf (tCB (fun xs H Q=>∃ x n,xs=[x]∧Vo K x H n∧Q (V.int ↑n) H) (qf (qg 1) qp)) qp)) (qm 4) (qap K)) (Z6 K)
def Z4 (K:Frag):TS:=qB (qP (jM (jD K (qg 1)) [none] (qm 0) vQ wE) (qm 3)) (Z5 K)
def Z3 (K:Frag):TS:=qB (qP (jM (jD K (qg 1)) [none] (qm 0) vQ wE) (qm 2)) (Z4 K)
theorem qbl (F:Fun K "_law_due" "_law_due" vc f fd) (c:Cs K mg ad) (d_law_all:Def P w K mg base 27 "_law_all" ["_law_program_here"] (spAll K)) (d_law_holder:Def P w K mg base 1 "_law_holder" ["_law_rows","_law_number_here","_law_name"] (spHold K)):FnOk P w K mg base CX0 28 f fd ["_law_program_here"] (spDue K):=by
 refine F.ok (k:=27) ze (fun vs H Q E h=>?_) (fun cdv A outer s H vs Q E hr h=>?_)
 ·obtain ⟨x,d,s,t,names,rfl,_⟩:=h;rfl
 obtain ⟨x,d,s,t,names,rfl,hk,hnl,hgs,hf,hp,hs,ht,hw,q⟩:=h;have hu:=Ve hr;refine ⟨_,(qd (pst 1 ze.nd (pdf d_law_all (qb (pv 0) qc)))
   (qd (yB (i:=2) ze.nd rfl (by first | exact Or.inl rfl | exact Or.inr rfl) (sc:=ql vc) (NX:=["_law_program_here","_law_rows","_law_taken","_law_boxed","_law_number_here","_law_name","_law_holder_here","_law_here","_law_found","_law_kind","_law_names_here","_law_uses","_law_outer"]) (N:=["_law_row"]) (js:=[none]) (j5 (K:=K) rfl (pv 1)) (fun _ _ _ _ _=>(zh (i:=0) (show (["_law_row"]:List Str).Nodup from ∅) rfl (Or.inl rfl))) (fun _ _ _ _ _=>jp) (fun _ _ _ _ _=>v6) (zA rfl) ⟨∅,rfl,∅,∅,rfl,∅⟩)
   (qd (yB (i:=3) ze.nd rfl (by first | exact Or.inl rfl | exact Or.inr rfl) (sc:=ql vc) (NX:=["_law_program_here","_law_rows","_law_taken","_law_boxed","_law_number_here","_law_name","_law_holder_here","_law_here","_law_found","_law_kind","_law_names_here","_law_uses","_law_outer"]) (N:=["_law_row"]) (js:=[none]) (j5 (K:=K) rfl (pv 1)) (fun _ _ _ _ _=>(zh (i:=0) (show (["_law_row"]:List Str).Nodup from ∅) rfl (Or.inl rfl))) (fun _ _ _ _ _=>jp) (fun _ _ _ _ _=>v6) (zA rfl) ⟨∅,rfl,∅,∅,rfl,∅⟩)
   (qd (zT Bh rfl (jG rfl c.range_ (qb (qx (jY (K:=K) rfl) (by rfl) c.len_ z9 (qb (pv 1) qc)) qc)) (pgn 4 ze.nd) (qi (zT Bh rfl (j5 (K:=K) rfl (pix K (pix K (pv 1) (pv 4)) qh)) (pgn 5 ze.nd) (qd (pst 6 ze.nd (pdf d_law_holder (qb (pv 1) (qb (pv 4) (qb (pv 5) qc)))))
   (qd (pst 7 ze.nd (pv 4))
   (qd (Jl Bh (qr XL (pv 7) (pv 6) (qz _)) (qd (JX hu (pix K (pv 2) (pv 7)) (pv 5) jw rfl)
   (qi (pst 7 ze.nd (pix K (pix K (pv 1) (pv 7)) qh)))))
   (qi (qK (qr XL (pv 6) (pv 4) (qz _)) (qi (JX hu (pix K (pv 3) (pv 6)) (Jn (K:=K) rfl Ax PySem.F.slot_list_index PySem.F.type_list_index (XT (K:=K) rfl) (pix K (pix K (pv 1) (pv 6)) qh) (qb (pv 5) qc)) jw rfl)) qy))))))))
   (qd (pst 8 ze.nd (zg qc))
   (qd (zT Bh rfl (jG rfl c.range_ (qb (qx (jY (K:=K) rfl) (by rfl) c.len_ z9 (qb (pv 1) qc)) qc)) (pgn 4 ze.nd) (qd (qgd (pix K (pv 1) (pv 4)) (WN (K:=K) (n:=4) rfl rfl (zb (pgn 9 ze.nd) (zb (pgn 10 ze.nd) (zb (pgn 11 ze.nd) (zb (pgn 12 ze.nd) JZ))))))
   (qi (qT (Jn (K:=K) rfl Ax Bu Bs zC (pv 8) (qb (qQ (qb (pv 9) (qb (qW (jL (K:=K) rfl) (by rfl) c.tuple_ zx (qb (pv 10) qc)) (qb (qW (jL (K:=K) rfl) (by rfl) c.tuple_ zx (qb (qx (wx rfl) (by rfl) c.sorted_ Vz (qb (pix K (pv 3) (pv 4)) qc)) qc)) (qb (qW (jL (K:=K) rfl) (by rfl) c.tuple_ zx (qb (qx (ww rfl) (by rfl) c.sorted_ Vz (qb (pix K (pv 2) (pv 4)) qc)) qc)) qc))))) qc))))))
   (qi (qw (pv 8))))))))),?_⟩
 show qB (qP (qG (spAll K) [] E0 (qf (qg 0) qp)) (qm 1)) (Z3 K) _ _ _;clear hu;have R:=Zl hnl hgs hf hp hs ⋯;have few:=XS R hw;have len300:=R.len;refine ⟨_,rfl,x,d,s,t,rfl,hk,hp,hs,ht,fun H1 pr zs g1 hpr rz=>?_⟩;generalize Tre.va++names=L at R few q;generalize Tre.rows (Tre.funs d)=rs at R len300 q hw rz few;have zl:=Cm rz;refine ⟨_,rfl,.inl ⟨pr,rfl,⟨_,SqL.of hpr⟩,?_⟩⟩;refine zD zs.length (fun i ys H'=>∃ as:List Addr,ys=as.map V.ref∧as.length=i∧qv H1 H'∧Tab Sum.inr L H' as (List.replicate i [])∧∀ a∈as,H1 a=none) ⟨[],rfl,rfl,qv.refl _,.nil,fun a h=>by cases h⟩ (fun i ys H' h=>?_) (qU ⋯) (fun i ys H2 hi h=>?_) (fun ys H2 h=>?_)
 ·obtain ⟨as,rfl,hl,_⟩:=h;rw [Ab];omega
 ·obtain ⟨as,rfl,hl,g2,tb,fr⟩:=h;have hx:zs[i]?=some zs[i]:=Af hi;refine ⟨⟨zs,_,SqL.of (g2 _ _ hpr),hx⟩,fun v H3 yl=>?_⟩;obtain ⟨rfl,hv⟩:=yl;intro a ha;refine ⟨as++[a],by rw [Ah];rfl,by rw [Ac,hl];rfl,g2.trans (qe ha _),?_,fun b hb=>?_⟩
  ·rw [← yX];exact tb.snoc (qe ha _) ha upd_same
  ·rcases Az.mp hb with hb | hb
   ·exact fr b hb
   ·cases Am.mp hb;exact g2.free ha
 obtain ⟨ta,rfl,htl,g2,tt,fta⟩:=h;refine ⟨⟨zs,SqL.of (g2 _ _ hpr),Ag _⟩,fun tk htk=>?_⟩;have gk:=qe htk (.lst (ta.map V.ref));have hk2:upd H2 tk (.lst (ta.map V.ref)) tk=some (.lst (ta.map V.ref)):=upd_same;have tt2:=tt.same gk;have g12:=g2.trans gk;dsimp only;generalize upd H2 tk (.lst (ta.map V.ref))=H3 at hk2 tt2 g12 ⊢;clear gk htk tt g2;refine ⟨_,rfl,.inl ⟨pr,rfl,⟨_,SqL.of (g12 _ _ hpr)⟩,?_⟩⟩;refine zD zs.length (fun i ys H'=>∃ as:List Addr,ys=as.map V.ref∧as.length=i∧qv H3 H'∧Tab Sum.inl vG H' as (List.replicate i [])∧∀ a∈as,H3 a=none) ⟨[],rfl,rfl,qv.refl _,.nil,fun a h=>by cases h⟩ (fun i ys H' h=>?_) (qU ⋯) (fun i ys H4 hi h=>?_) (fun ys H4 h=>?_)
 ·obtain ⟨as,rfl,hl,_⟩:=h;rw [Ab];omega
 ·obtain ⟨as,rfl,hl,g4,tb,fr⟩:=h;have hx:zs[i]?=some zs[i]:=Af hi;refine ⟨⟨zs,_,SqL.of (g4 _ _ (g12 _ _ hpr)),hx⟩,fun v H5 yl=>?_⟩;obtain ⟨rfl,hv⟩:=yl;intro a ha;refine ⟨as++[a],by rw [Ah];rfl,by rw [Ac,hl];rfl,g4.trans (qe ha _),?_,fun b hb=>?_⟩
  ·rw [← yX];exact tb.snoc (qe ha _) ha upd_same
  ·rcases Az.mp hb with hb | hb
   ·exact fr b hb
   ·cases Am.mp hb;exact g4.free ha
 obtain ⟨ba,rfl,hbl,g4,tb,fba⟩:=h;refine ⟨⟨zs,SqL.of (g4 _ _ (g12 _ _ hpr)),Ag _⟩,fun bx hbx=>?_⟩;have gb:=qe hbx (.lst (ba.map V.ref));have g34:=g4.trans gb;have g14:=g12.trans g34;have ld0:LD L H pr tk bx zs rs ta ba (upd H4 bx (.lst (ba.map V.ref))) (Za rs.length):=by
  refine ⟨g1.trans g14,g14 _ _ hpr,rz.same g14,g34 _ _ hk2,upd_same,?_,?_,fun a ha b hb e=>?_,fun a ha=>g1.free (fta a ha),fun b hb=>g1.free (g12.free (fba b hb))⟩
  ·have:=tt2.same g34;rw [zl] at this;exact this
  ·have:=tb.same gb;rw [zl] at this;exact this
  ·subst e;obtain ⟨i,hi⟩:=Cn ha;obtain ⟨d,_,e,_⟩:=tt2.get hi;rw [fba a hb] at e;cases e
 dsimp only;generalize upd H4 bx (.lst (ba.map V.ref))=H5 at ld0 ⊢;clear gb g34 g14 g4 tb fba g12 tt2 hk2 fta rz hpr g1;have htl':ta.length=rs.length:=⋯;have hbl':ba.length=rs.length:=⋯;refine ⟨_,rfl,_,_,rfl,.inl ⟨_,SqL.of ld0.hr,rfl⟩,_,rfl,⋯,⋯,?_⟩;refine jZ rs.length (fun j σ H'=>∃ o4 o5 o6 o7,σ=[some x,some (.ref pr),some (.ref tk),some (.ref bx),o4,o5,o6,o7,none,none,none,none,none]∧LD L H pr tk bx zs rs ta ba H' (zU rs j)) ⟨_,_,_,_,rfl,ld0⟩ (fun i σ H6 hi h=>?_) (fun σ H6 h=>?_)
 ·obtain ⟨o4,o5,o6,o7,rfl,ld⟩:=h;refine ⟨show i<(zs.length:Int).toNat by rw [zl];exact hi,fun v H7 yl D' hn _=>?_⟩
  obtain ⟨rfl,ev⟩:=yl;rw [E1] at ev;subst ev;have hri:rs[i]?=some rs[i]:=Af hi;obtain ⟨v,hv,qa,na,ua,rfl,hqa,hna,hua⟩:=vd ld.rz hri;have rok:=R.ok _ (Cd hi);refine ⟨_,rfl,_,rfl,.inl ⟨pr,_,_,_,rfl,rfl,SqL.of ld.hr,qo (j:=i) hv,.inr (.inl ⟨qa,_,2,_,rfl,rfl,SqT.of hqa,qo (j:=2) rfl,.inl ⟨ua,rfl,⟨_,SqL.of hua⟩,?_⟩⟩)⟩⟩;refine jZ rs[i].used.length (fun k σ H'=>∃ o5 o6 o7,σ=[some x,some (.ref pr),some (.ref tk),some (.ref bx),some (.int (i:Nat)),o5,o6,o7,none,none,none,none,none]∧LD L H pr tk bx zs rs ta ba H' (VL rs i (rs[i].used.take k) (zU rs i))∧H' ua=some (.lst (rs[i].used.map V.str))) ⟨_,_,_,rfl,ld,hua⟩ (fun k σ H8 hk' h=>?_) (fun σ H8 h=>?_)
  ·obtain ⟨o5,o6,o7,rfl,ld8,hua8⟩:=h;have ek:rs[i].used[k]?=some rs[i].used[k]:=Af hk';have hxk:(rs[i].used.map V.str)[k]?=some (.str rs[i].used[k]):=by rw [Ar,ek];rfl
   refine ⟨⟨_,_,SqL.of hua8,hxk⟩,fun v H9 yl D2 hn2 _=>?_⟩;obtain ⟨rfl,hv9⟩:=yl;cases hxk.symm.trans (hv9 _ (SqL.of hua8));have hm:rs[i].used[k]∈rs[i].used:=Cd hk';have hmL:=(rok.ul _ hm).2.1;obtain ⟨kk,hkk⟩:=XB hw hri hm;have etk:rs[i].used.take (k+1)=rs[i].used.take k++[rs[i].used[k]]:=by rw [Bb,ek];rfl
   generalize rs[i].used[k]=nm at hmL hkk etk ⊢;rw [etk,yW] at hn2;generalize VL rs i (rs[i].used.take k) (zU rs i)=Z at ld8 hn2;clear hxk hv9 ek etk hm;refine ⟨_,rfl,_,rfl,_,rfl,pr,i,nm,zs,rs,rfl,ld8.hr,ld8.rz,R.bk,hi,?_⟩;rw [hkk];refine ⟨_,rfl,?_⟩;unfold vm at hn2;rw [hkk] at hn2;dsimp only at hn2;refine ⟨fun m σ H'=>∃ j:Nat,m=j∧j<rs.length∧σ=[some x,some (.ref pr),some (.ref tk),some (.ref bx),some (.int (i:Nat)),some (.str nm),some (.int (kk:Nat)),some (.int (j:Nat)),none,none,none,none,none]∧Tre.zI rs j nm=some kk∧H' ua=some (.lst (rs[i].used.map V.str))∧∃ T',LD L H pr tk bx zs rs ta ba H' ⟨Z.B,T'⟩∧jk rs nm kk (j+1) j T'=jk rs nm kk (i+1) i Z.T,⟨i,i,rfl,hi,rfl,hkk,hua8,Z.T,ld8,rfl⟩,?_⟩;rintro m σ HA ⟨j,rfl,hj,rfl,hhj,huaA,T',ldA,eT⟩;refine ⟨_,rfl,_,rfl,rfl,_,rfl,?_⟩;have hrj:rs[m]?=some rs[m]:=Af hj
   by_cases hjk:m=kk
   ·subst hjk;rw [VS] at eT;refine qO (show (!decide _)=false by rw [Al rfl];rfl) ?_
    refine ⟨_,rfl,_,rfl,rfl,_,rfl,?_⟩
    by_cases hmi:m=i
    ·rw [if_pos hmi] at hn2;subst hmi;rw [VS] at eT;subst eT;exact qO (show (!decide _)=false by rw [Al rfl];rfl) (hn2 _ _ ⟨_,_,_,rfl,ldA,huaA⟩)
    rw [if_neg hmi] at hn2;refine qX (show (!decide _)=true by rw [As fun z=>hmi (by have:=V.int.inj z;omega)];rfl) ?_
    obtain ⟨r,hrk,hck⟩:=Tre.V8 _ _ hkk;cases hrj.symm.trans hrk;have hmem:nm∈rs[m].names:=B2.mp hck;have hlen:=few rs[m] (Cd hj);have hidx:rs[m].names.idxOf nm<rs[m].names.length:=List.idxOf_lt_length_iff.mpr hmem;obtain ⟨v,hv,qa2,na2,ua2,rfl,hqa2,hna2,hua2⟩:=vd ldA.rz hrj;have hba:ba[m]?=some (ba[m]'⋯):=Af ⋯;have hba':(ba.map V.ref)[m]?=some (.ref (ba[m]'⋯)):=by rw [Ar,hba];rfl
    obtain ⟨dd,hdd,hdl,ldB⟩:=ldA.box hba (qmv (n:=rs[m].names.idxOf nm) ⋯) (.bl true);have ei:QX rs m nm=rs[m].names.idxOf nm:=by unfold QX;rw [hrj]
    rw [ei,← eT] at hn2;refine ⟨_,rfl,_,rfl,.inl ⟨bx,_,_,_,rfl,rfl,SqL.of ldA.hb,qo (j:=m) hba',?_⟩⟩;refine ⟨_,rfl,_,rfl,.inl ⟨pr,_,_,_,rfl,rfl,SqL.of ldA.hr,qo (j:=m) hv,.inr (.inl ⟨qa2,_,1,_,rfl,rfl,SqT.of hqa2,qo (j:=1) rfl,.inl ⟨rfl,_,SqL.of hna2⟩,_,rfl,na2,rs[m].names,nm,rfl,rfl,SqL.of hna2,hmem,⋯,_,_,rfl,yA.k (k:=Sum.inl _) hdd (jy ⋯),?_⟩)⟩⟩;refine hn2 _ _ ⟨_,_,_,rfl,ldB,?_⟩;exact (Nd.put hdd) _ _ (fun _ z=>by cases z) huaA
   refine qX (show (!decide _)=true by rw [As fun z=>hjk (by have:=V.int.inj z;omega)];rfl) ⟨fun σ' H'=>∃ m',m'<m∧_,fun σ' H' h=>h,?_⟩
   have hta:ta[m]?=some (ta[m]'⋯):=Af ⋯;have hta':(ta.map V.ref)[m]?=some (.ref (ta[m]'⋯)):=by rw [Ar,hta];rfl
   obtain ⟨dd,hdd,hdl,ldB⟩:=ldA.take hta hmL (A0 R.few O0) (.bl true);refine ⟨_,rfl,_,rfl,.inl ⟨tk,_,_,_,rfl,rfl,SqL.of ldA.ht,qo (j:=m) hta',_,rfl,_,_,rfl,yA.k (k:=Sum.inr nm) hdd (jy ⋯),?_⟩⟩;have step:=Tre.JD R.bk (x:=nm) hrj;rw [hhj] at step;have hcn:¬ rs[m].names.contains nm=true:=fun z=>by
    rw [if_pos z] at step;exact hjk (Bg step).symm
   rw [if_neg hcn] at step;have huaB:=(Nd.put (o':= .dK (zG dd (Sum.inr nm) (.bl true))) hdd) _ _ (fun _ z=>by cases z) huaA
   obtain ⟨v,hv,qa2,na2,ua2,rfl,hqa2,hna2,hua2⟩:=vd ldB.rz hrj;refine ⟨_,rfl,_,rfl,.inl ⟨pr,_,_,_,rfl,rfl,SqL.of ldB.hr,qo (j:=m) hv,.inr (.inl ⟨qa2,_,3,_,rfl,rfl,SqT.of hqa2,qo (j:=3) rfl,?_⟩)⟩⟩;cases eo:rs[m].outer with
   | none=>rw [eo] at step;cases step
   | some j'=>
    rw [eo] at step;have hlt:=R.bk m _ hrj j' eo;exact ⟨j',hlt,j',rfl,⋯,rfl,step.symm,huaB,_,ldB,(XE R.bk hjk hrj eo).symm.trans eT⟩
  ·obtain ⟨o5,o6,o7,rfl,ld8,hua8⟩:=h;refine ⟨⟨_,SqL.of hua8,by rw [Ab];exact Ag _⟩,hn _ _ ⟨_,_,_,_,rfl,?_⟩⟩
   have eu:VR rs i=rs[i].used:=by unfold VR;rw [hri]
   rw [VY,eu];rw [Bo] at ld8;exact ld8
 obtain ⟨o4,o5,o6,o7,rfl,ld⟩:=h;refine ⟨show (zs.length:Int).toNat≤rs.length by rw [zl];exact Ag _,?_⟩
 refine ⟨qU O0,fun pf hpf=>?_⟩;have gf:=qe hpf (.lst []);have hl:=wf rs rs.length;have i60:vG.length=60:=∅;have l60:L.length≤60:=A0 R.few O0;refine ⟨_,rfl,_,_,rfl,.inl ⟨_,SqL.of (gf _ _ ld.hr),rfl⟩,_,rfl,⋯,⋯,?_⟩;refine jZ rs.length (fun i σ H'=>∃ o4 o9 o10 o11 o12 ys ds,σ=[some x,some (.ref pr),some (.ref tk),some (.ref bx),o4,o5,o6,o7,some (.ref pf),o9,o10,o11,o12]∧qv H6 H'∧H' pf=some (.lst ys)∧Reps K H' ys ds∧Tre.zH ds=true∧ds.length=i∧∀ (i:Nat) (r:Tre.Row) (b t:List (Key×V)) (d:PyData),rs[i]?=some r→(zU rs rs.length).B[i]?=some b→(zU rs rs.length).T[i]?=some t→ds[i]?=some d→OutOk L r b t d) ⟨_,_,_,_,_,[],[],rfl,gf,upd_same,.nil,rfl,rfl,fun i r b t d _ _ _ h=>by cases h⟩ (fun i σ Ho hi h=>?_) (fun σ H7 h=>?_)
 ·obtain ⟨o4',o9,o10,o11,o12,ys,ds,rfl,g7,hpf7,rd,nol,hd,out⟩:=h;refine ⟨show i<(zs.length:Int).toNat by rw [zl];exact hi,fun v H7 yl D' hn _=>?_⟩
  obtain ⟨rfl,ev⟩:=yl;rw [E1] at ev;subst ev;have ld7:=ld.same g7;have hri:rs[i]?=some rs[i]:=Af hi;have rok:=R.ok _ (Cd hi);have nn:=few rs[i] (Cd hi);obtain ⟨v,hv,qa,na,ua,rfl,hqa,hna,hua⟩:=vd ld7.rz hri;have yl7:=rd.length;refine ⟨_,rfl,_,rfl,.inl ⟨pr,_,_,_,rfl,rfl,SqL.of ld7.hr,qo (j:=i) hv,qa,_,rfl,SqT.of hqa,rfl,_,_,rfl,_,_,rfl,_,_,rfl,_,_,rfl,rfl,?_⟩⟩;have hba:ba[i]?=some (ba[i]'⋯):=Af ⋯;have hba':(ba.map V.ref)[i]?=some (.ref (ba[i]'⋯)):=by rw [Ar,hba];rfl
  have hta:ta[i]?=some (ta[i]'⋯):=Af ⋯;have hta':(ta.map V.ref)[i]?=some (.ref (ta[i]'⋯)):=by rw [Ar,hta];rfl
  obtain ⟨b,hb,eb,kb⟩:=ld7.tb.get hba;obtain ⟨t',ht',et,kt⟩:=ld7.tt.get hta;obtain ⟨ksb,hb1,hb2,_⟩:=kb.len;obtain ⟨kst,ht1,ht2,_,kin⟩:=kt.len;refine ⟨_,rfl,.inl ⟨rfl,_,SqL.of hpf7⟩,_,rfl,_,rfl,na,_,rfl,.inl ⟨SqL.of hna,fun l1 hl1=>?_⟩⟩;have g1:=qe hl1 (.tup (rs[i].names.map V.str));have h1:upd H7 l1 (.tup (rs[i].names.map V.str)) l1=some (.tup (rs[i].names.map V.str)):=upd_same;generalize upd H7 l1 (.tup (rs[i].names.map V.str))=H8 at g1 h1 ⊢;refine ⟨_,rfl,_,rfl,.inl ⟨bx,_,_,_,rfl,rfl,SqL.of (g1 _ _ ld7.hb),qo (j:=i) hba',_,b,ksb,rfl,g1 _ _ eb,hb1,⋯,fun ns pn sn l2 hl2=>⟨l2,_,rfl,.inl ⟨SqL.of upd_same,fun l3 hl3=>?_⟩⟩⟩⟩;have g12:=(qe hl2 (.lst (ns.map V.int))).trans (qe hl3 (.tup (ns.map V.int)));have g2:=g1.trans g12;have h2:upd (upd H8 l2 (.lst (ns.map V.int))) l3 (.tup (ns.map V.int)) l3=some (.tup (ns.map V.int)):=upd_same;have h12:=g12 _ _ h1;generalize upd (upd H8 l2 (.lst (ns.map V.int))) l3 (.tup (ns.map V.int))=H9 at g2 h2 h12 ⊢;refine ⟨_,rfl,_,rfl,.inl ⟨tk,_,_,_,rfl,rfl,SqL.of (g2 _ _ ld7.ht),qo (j:=i) hta',_,t',kst,rfl,g2 _ _ et,ht1,⋯,fun ms pm sm l4 hl4=>⟨l4,_,rfl,.inl ⟨SqL.of upd_same,fun l5 hl5=>?_⟩⟩⟩⟩;have g23:=(qe hl4 (.lst (ms.map V.str))).trans (qe hl5 (.tup (ms.map V.str)));have g3:=g2.trans g23;have h3:upd (upd H9 l4 (.lst (ms.map V.str))) l5 (.tup (ms.map V.str)) l5=some (.tup (ms.map V.str)):=upd_same;have h13:=g23 _ _ h12;have h23:=g23 _ _ h2;generalize upd (upd H9 l4 (.lst (ms.map V.str))) l5 (.tup (ms.map V.str))=HA at g3 h3 h13 h23 ⊢;refine ⟨qU (show 4≤2000 from O0),fun l6 hl6=>?_⟩;have g6:=qe hl6 (.tup [.str rs[i].kind,.ref l1,.ref l3,.ref l5]);have rv:Rep K (upd HA l6 (.tup [.str rs[i].kind,.ref l1,.ref l3,.ref l5])) (.ref l6) (Qz rs[i].kind rs[i].names ns ms):= .tup (SqT.of upd_same) (.cons (.str _) (.cons (.tup (SqT.of (g6 _ _ h13)) (Reps.strs _)) (.cons (.tup (SqT.of (g6 _ _ h23)) (wL _)) (.cons (.tup (SqT.of (g6 _ _ h3)) (Reps.strs _)) .nil))));have gA:=g3.trans g6;have hpfA:=gA _ _ hpf7;have rdA:=rd.same gA;have g7A:=g7.trans gA;generalize upd HA l6 (.tup [.str rs[i].kind,.ref l1,.ref l3,.ref l5])=HB at rv hpfA rdA g7A ⊢;refine ⟨pf,_,_,rfl,rfl,hpfA,jy ⋯,?_⟩;have nout:=qin rs[i].kind rs[i].names ns ms;have nol2:=vg nol nout;refine hn _ _ ⟨_,_,_,_,_,ys++[.ref l6],ds++[Qz rs[i].kind rs[i].names ns ms],rfl,qE g7A hpf _,upd_same,Reps.put hpfA (rdA.append (.cons rv .nil)) nol2,nol2,by rw [Ac,hd];rfl,fun j r b2 t2 d2 k1 k2 k3 k4=>?_⟩
  by_cases hj:j<ds.length
  ·rw [Bp hj] at k4;exact out j r b2 t2 d2 k1 k2 k3 k4
  ·have hji:j=i:=by
    have:=(Be.mp k4).1;rw [Ac] at this;simp at this;omega
   subst hji;rw [Bl ⋯,hd,Da] at k4;cases k4;cases hri.symm.trans k1;cases hb.symm.trans k2;cases ht'.symm.trans k3;exact ⟨ns,ksb,ms,kst,rfl,hb1,pn,sn,ht1,pm,sm,fun m hm=>kin m (pm.mem_iff.mp hm),by have:=pn.length_eq;omega⟩
 obtain ⟨o4',o9,o10,o11,o12,ys,ds,rfl,g7,hpf7,rd,nol,hd,out⟩:=h;refine ⟨show (zs.length:Int).toNat≤rs.length by rw [zl];exact Ag _,_,rfl,q H7 pf ys ds (ld.sm.trans g7) hpf7 rd ⟨hd,out⟩⟩
theorem ZK {n:Nat} {xs:List PyData} (h:∀ x∈xs,Tre.Gd n x):(PyData.list xs).canLay0=true∧(PyData.list xs).depth≤n+1:=by
 obtain ⟨h1,h2,h3⟩:=Tre.Vg h;exact ⟨by rw [PyData.canLay0];exact h2,by rw [PyData.depth];exact B7 h3⟩
theorem Vb {n:Nat} {xs:List PyData} (h:∀ x∈xs,Tre.Gd n x) (hn:n<64):SeqAt.shaped (.list xs)=true:=by
 obtain ⟨a,b⟩:=ZK h;unfold SeqAt.shaped;rw [a,Al ⋯];rfl
theorem qe0 {a:Addr} {te:TE} {σ:St} {H:Hp} {Q:VK} {xs:List V} {ds:List PyData} (hq:SqL K H a xs) (hr:Reps K H xs ds) (hz:ds.length≤sizeLine)
  (step:∀ (x:V) (d:PyData) (R:VK),d∈ds→Rep K H x d→R (.bl true) H→te [some x] H R) (fin:∀ D,H D=none→Q (.ref D) (upd H D (.lst ((ds.map fun _=>true).map V.bl)))):YY (Itl K a) [none] (qm 0) vQ te σ H Q:=by
 have hlen:=hr.length;refine zD ds.length (fun i ys H'=>H'=H∧ys=((ds.take i).map fun _=>true).map V.bl) ⟨rfl,rfl⟩ (fun i ys H' h=>?_) hz (fun i ys H' hi h=>?_) (fun ys H' h=>?_)
 ·rw [h.2,Ab,Ab];exact B0 _ _
 ·obtain ⟨rfl,rfl⟩:=h;have hx:xs[i]?=some (xs[i]'⋯):=Af ⋯;refine ⟨⟨xs,_,hq,hx⟩,fun v H2 yl=>?_⟩;obtain ⟨rfl,hv⟩:=yl;have e:=hx.symm.trans (hv xs hq);cases e;obtain ⟨d,hd,rd⟩:=hr.get hx;refine step _ d _ (Ay hd) rd ⟨rfl,?_⟩;rw [Bb,hd,Ah,Ah];rfl
 ·obtain ⟨rfl,rfl⟩:=h;rw [Bo];exact ⟨⟨xs,hq,⋯⟩,fun D hD=>fin D hD⟩
theorem qdn (ds:List PyData):((ds.map fun _=>true).all id)=true:=by
 rw [C9];exact A8.mpr fun _ _=>rfl
theorem Yj {n:Nat} {xs:List PyData} (h:∀ x∈xs,Tre.Gd n x):Tre.Gd (n+1) (.tuple xs):=by
 obtain ⟨h1,h2,h3⟩:=Tre.Vg h;exact ⟨by rw [Tre.noL];exact h1,by rw [PyData.canLay0];exact h2,by rw [PyData.depth];exact B7 h3⟩
theorem qlg {kd:Str} {names:List Str} {ns:List Int} {ms:List Str} (h1:PyData.strOk kd=true) (h2:∀ x∈names,PyData.strOk x=true) (h3:∀ x∈ms,PyData.strOk x=true):Tre.Gd 2 (Qz kd names ns ms):=by
 have st:∀ l:List Str,(∀ x∈l,PyData.strOk x=true)→Tre.Gd 1 (.tuple (l.map PyData.str)):=fun l h=>Yj (n:=0) fun d hd=>by
  obtain ⟨x,hx,rfl⟩:=Bt.mp hd;exact Tre.wW (h x hx)
 refine Yj (n:=1) fun d hd=>?_;simp only [Ao,Bm,or_false] at hd;rcases hd with rfl | rfl | rfl | rfl
 ·exact Tre.wW h1
 ·exact st _ h2
 ·exact Yj (n:=0) fun d hd=>by
   obtain ⟨x,_,rfl⟩:=Bt.mp hd;exact Tre.ZL
 ·exact st _ h3
theorem OutsOk.get {L:List Str} {rs:List Tre.Row} {n:Nat} {ds:List PyData} (R:RowsOk L rs) (h:OutsOk L rs (zU rs n) ds) {d:PyData} (hd:d∈ds):∃ kd names ns ms,d=Qz kd names ns ms∧Tre.Gd 2 d∧ns.length≤60:=by
 obtain ⟨i,hi⟩:=Cn hd;have hl:=wf rs n;have il:i<rs.length:=by have:=(Be.mp hi).1;have:=h.len;omega
 have e3:rs[i]?=some rs[i]:=Af il;have e4:(zU rs n).B[i]?=some ((zU rs n).B[i]'⋯):=Af _;have e5:(zU rs n).T[i]?=some ((zU rs n).T[i]'⋯):=Af _;obtain ⟨ns,ks,ms,ls,rfl,_,_,_,_,_,_,hm,hn⟩:=(h.all i _ _ _ _ e3 e4 e5 hi).ex;have rm:=Cd il;exact ⟨_,_,ns,ms,rfl,qlg (R.ls _ (R.kd _ rm)) (fun x hx=>((R.ok _ rm).nl x hx).2.2) fun x hx=>R.ls x (hm x hx),hn⟩
theorem qez {a:Addr} {te:TE} {σ:St} {H:Hp} {Q:VK} {xs:List V} {ds:List PyData} (hq:SqT K H a xs) (hr:Reps K H xs ds) (hz:ds.length≤sizeLine)
  (step:∀ (x:V) (d:PyData) (R:VK),d∈ds→Rep K H x d→R (.bl true) H→te [some x] H R) (fin:∀ D,H D=none→Q (.ref D) (upd H D (.lst ((ds.map fun _=>true).map V.bl)))):YY (Itt K a) [none] (qm 0) vQ te σ H Q:=by
 have hlen:=hr.length;refine zD ds.length (fun i ys H'=>H'=H∧ys=((ds.take i).map fun _=>true).map V.bl) ⟨rfl,rfl⟩ (fun i ys H' h=>?_) hz (fun i ys H' hi h=>?_) (fun ys H' h=>?_)
 ·rw [h.2,Ab,Ab];exact B0 _ _
 ·obtain ⟨rfl,rfl⟩:=h;have hx:xs[i]?=some (xs[i]'⋯):=Af ⋯;refine ⟨⟨xs,_,hq,hx⟩,fun v H2 yl=>?_⟩;obtain ⟨rfl,hv⟩:=yl;have e:=hx.symm.trans (hv xs hq);cases e;obtain ⟨d,hd,rd⟩:=hr.get hx;refine step _ d _ (Ay hd) rd ⟨rfl,?_⟩;rw [Bb,hd,Ah,Ah];rfl
 ·obtain ⟨rfl,rfl⟩:=h;rw [Bo];exact ⟨⟨xs,hq,⋯⟩,fun D hD=>fin D hD⟩
inductive spLaw (K:Frag) (vs:List V) (H:Hp) (Q:VK) (E':XK):Prop
 | mk:∀ (a:Addr) (ns:List Int),(vs=[.ref a])→(SqL K H a (ns.map V.int))→(ns.length≤63)→(∀ H',Q (.bl true) H')→spLaw K vs H Q E'
inductive Iv_NamQ8_0 (a:Addr) (d:PyData) (ap:Addr) (pd:Addr) (pf:Addr) (H6:Hp) (i:Nat) (σ:St) (H':Hp):Prop
 | mk:∀ o5 o6 o7 o8,(σ=[some (.ref a),some (.ref ap),some (.str d.shown),some (.ref pd),some (.ref pf),o5,o6,o7,o8])→(qv H6 H')→Iv_NamQ8_0 a d ap pd pf H6 i σ H'
def qi9 (K:Frag):TS:=zJ (Ql (tB (tCB (fun xs H Q=>∃ a bs,xs=[V.ref a]∧SqL K H a (List.map V.bl bs)∧Q (V.bl (bs.all id)) H) (qf (jM (jD K (qg 7)) [none] (qm 0) vQ (WK (tCB (fun xs H Q=>∃ x d T,xs=[x,V.ty T]∧Rep K H x d∧T∈["bool","int","str","list","tuple"]∧Q (V.bl (isi (tyD d) T)) H) (qf (qg 0) (qf (tC (V.ty "int")) qp))) (qjg (tCB (fun xs H Q=>∃ x d T,xs=[x,V.ty T]∧Rep K H x d∧T∈["bool","int","str","list","tuple"]∧Q (V.bl (isi (tyD d) T)) H) (qf (qg 0) (qf (tC (V.ty "bool")) qp)))))) qp)))) (zV (tC (V.bl false))) zu
def qi8 (K:Frag):TS:=zV (WK (tOp (qh5 K) (qG (spScs K) [] E0 (qf (qg 1) qp)) (qg 3)) (WK (tOp (qh5 K) (qg 4) (tOp jh (qg 3) (Ju (qf (tC V.non) qp)))) (tOp rEq (tCB (fun xs H Q=>∃ a d,xs=[V.ref a]∧Rep K H (V.ref a) d∧d.showable=true∧d.hasDict=false∧d.depth≤64∧d.shown.length≤sizeLine∧Q (V.str d.shown) H) (qf (qg 1) qp)) (qg 2))))
def qi7 (K:Frag):TS:=qB (zz (tBM K "list" zM (qg 4) (qf (tC V.non) qp))) (qi8 K)
def qi6 (K:Frag):TS:=qB (Jv (jD K (qg 4)) (W7 K 4 (jb (qm 5) (jb (qm 6) (jb (qm 7) (jb (qm 8) Yl))))) (qi9 K)) (qi7 K)
def qi5 (K:Frag):TS:=qB (zJ (tOr (Ql (tB (tCB (fun xs H Q=>∃ x d T,xs=[x,V.ty T]∧Rep K H x d∧T∈["bool","int","str","list","tuple"]∧Q (V.bl (isi (tyD d) T)) H) (qf (qg 4) (qf (tC (V.ty "list")) qp))))) (tOr (qJ (tOp (qh4 K) (qg 4) (qg 3))) (Ql (tB (tCB (fun xs H Q=>∃ a bs,xs=[V.ref a]∧SqL K H a (List.map V.bl bs)∧Q (V.bl (bs.all id)) H) (qf (jM (jD K (qg 4)) [none] (qm 0) vQ (tCB (fun xs H Q=>∃ x d T,xs=[x,V.ty T]∧Rep K H x d∧T∈["bool","int","str","list","tuple"]∧Q (V.bl (isi (tyD d) T)) H) (qf (qg 0) (qf (tC (V.ty "tuple")) qp)))) qp)))))) (zV (tC (V.bl false))) zu) (qi6 K)
def qi4 (K:Frag):TS:=qB (qP (qG (spScs K) [] E0 (qf (qg 1) qp)) (qm 4)) (qi5 K)
def qi3 (K:Frag):TS:=qB (qP (qG (spDue K) [] E0 (qf (qg 1) qp)) (qm 3)) (qi4 K)
def qi2 (K:Frag):TS:=qB (qP (tCB (fun xs H Q=>∃ a d,xs=[V.ref a]∧Rep K H (V.ref a) d∧d.showable=true∧d.hasDict=false∧d.depth≤64∧d.shown.length≤sizeLine∧Q (V.str d.shown) H) (qf (qg 1) qp)) (qm 2)) (qi3 K)
theorem qkz (F:Fun K "law" "law" VJ f fd) (c:Cs K mg ad) (d_law_program:Def P w K mg base 42 "_law_program" ["_law_script","_law_most"] (spProg K)) (d_law_due:Def P w K mg base 28 "_law_due" ["_law_program_here"] (spDue K)) (d_scopes_of:Def P w K mg base 31 "scopes_of" ["program"] (spScs K)):FnOkG P w K mg base CX0 43 f fd ["_law_script"] (spLaw K):=by
 refine F.okG vw (fun vs H Q E h=>?_) (fun cdv A outer s H vs Q E hgd hr h=>?_)
 ·obtain ⟨a,ns,rfl,_⟩:=h;rfl
 obtain ⟨a,ns,rfl,hS,_,q⟩:=h;have hu80:(A.deeper (PyProof.Rows.envOfC "law" (ql VJ) s.heap.objs.size f cdv)).units+80<cLine:=by have:=hr.un;omega
 have hu64:=hr.units;refine ⟨_,(qd (pst 1 vw.nd (pdf d_law_program (qb (pv 0) (qb qh qc))))
   (qd (pst 2 vw.nd (qW (qjj (K:=K) rfl hgd hu80) (by rfl) c.str_ w4 (qb (pv 1) qc)))
   (qd (pst 3 vw.nd (pdf d_law_due (qb (pv 1) qc)))
   (qd (pst 4 vw.nd (pdf d_scopes_of (qb (pv 1) qc)))
   (qd (qK (PW.pt (JW (jV (jg (qx (jt (K:=K) rfl) (by rfl) c.isinstance_ qH (qb (pv 4) (qb (Js c.list_ vI) qc))))) (JW (qr (qjo (K:=K) rfl hu64) (pv 4) (pv 3) (qz _)) (Jq (jV (jg (qx (qac (K:=K) rfl rfl) (by rfl) c.all_ Yw (qb (zX (sc:=ql VJ) (NX:=["_law_script","_law_program_here","_law_kept","_law_due_here","_law_found","_law_kind","_law_names_here","_law_boxed","_law_taken"]) (N:=["_law_one"]) (js:=[none]) (j5 (K:=K) rfl (pv 4)) (fun _ _ _ _ _=>(zh (i:=0) (show (["_law_one"]:List Str).Nodup from ∅) rfl (Or.inl rfl))) (fun _ _ _ _ _=>jp) (fun _ _ _ _ _=>(qx (jt (K:=K) rfl) (by rfl) c.isinstance_ qH (qb (pv 0) (qb (Js c.tuple_ zx) qc)))) (zA rfl) ⟨∅,rfl,∅,∅,rfl,∅⟩) qc)))))))) (qi (qw jw)) qy)
   (qd (zT Bh rfl (j5 (K:=K) rfl (pv 4)) (WN (K:=K) (n:=4) rfl rfl (zb (pgn 5 vw.nd) (zb (pgn 6 vw.nd) (zb (pgn 7 vw.nd) (zb (pgn 8 vw.nd) JZ))))) (qi (qK (jV (jg (qx (qac (K:=K) rfl rfl) (by rfl) c.all_ Yw (qb (zX (sc:=ql VJ) (NX:=["_law_script","_law_program_here","_law_kept","_law_due_here","_law_found","_law_kind","_law_names_here","_law_boxed","_law_taken"]) (N:=["_law_one"]) (js:=[none]) (j5 (K:=K) rfl (pv 7)) (fun _ _ _ _ _=>(zh (i:=0) (show (["_law_one"]:List Str).Nodup from ∅) rfl (Or.inl rfl))) (fun _ _ _ _ _=>jp) (fun _ _ _ _ _=>(v7 (qx (jt (K:=K) rfl) (by rfl) c.isinstance_ qH (qb (pv 0) (qb (Js c.int_ qhg) qc))) (V1 (qkm (qx (jt (K:=K) rfl) (by rfl) c.isinstance_ qH (qb (pv 0) (qb (Js c.bool_ qdi) qc))))))) (zA rfl) ⟨∅,rfl,∅,∅,rfl,∅⟩) qc)))) (qi (qw jw)) qy)))
   (qd (qT (Jn (K:=K) rfl Ax Bu Bs zC (pv 4) (qb JN qc)))
   (qi (qw (v7 (Jf (qjr (K:=K) rfl hu64) (pdf d_scopes_of (qb (pv 1) qc)) (pv 3) (qz _)) (v7 (Jf (qjr (K:=K) rfl hu64) (pv 4) (qt zi (pv 3) (zg (qb JN qc))) (qz _)) (V1 (Jf zN (qW (qjj (K:=K) rfl hgd hu80) (by rfl) c.str_ w4 (qb (pv 1) qc)) (pv 2) (qz _)))))))))))))),?_⟩
 show qB (qP (qG (spProg K) [] E0 (qf (qg 0) (qf (tC (V.int 40)) qp))) (qm 1)) (qi2 K) _ _ _;clear hu80 hu64;refine ⟨_,rfl,a,ns,_,O0,O0,rfl,hS,fun H1 x d s t names g1 r1 hnl hng hf p1 hs ht scp=>?_⟩;have hgs:∀ x∈names,PyData.strOk x=true:=fun x hx=>Tre.vD (hng x hx);have tr:=p1.tr;have gd:=tr.gd;obtain ⟨able,size⟩:=tr.sz;have nod:=PyData.hasDict_of_canLay _ gd.lay;have dp:d.depth≤64:=A0 gd.dep ⋯;have fits:d.shown.length≤sizeLine:=by
  have e:(10200*300:Nat)≤sizeLine:=O0;have:Tre.sz d=d.shown.length:=rfl;omega
 have R:=Zl hnl hgs hf p1 hs ⋯;have RR:=R;have hw:=Tre.qea p1 hs ⋯ scp;obtain ⟨ap,ex⟩:∃ ap,x= .ref ap:=by
  obtain ⟨⟨_,_,rfl,_⟩,_⟩:=Tre.Vv p1 ⋯;obtain ⟨ap,_,rfl,_⟩:=r1.tup_inv;exact ⟨ap,rfl⟩
 subst ex;have len300:=R.len;refine ⟨_,rfl,ap,_,rfl,r1,able,nod,dp,fits,?_⟩;refine ⟨_,rfl,_,d,s,t,names,rfl,r1,hnl,hgs,hf,p1,hs,ht,hw,fun H2 pd zd ds g2 hpd rd od=>?_⟩;refine ⟨_,rfl,_,d,s,t,names,rfl,r1.same g2,hnl,hgs,hf,p1,hs,⋯,hw,fun H3 pf zf df g3 hpf0 hpf rf of=>?_⟩;cases of.one od;have gF:∀ e∈ds,Tre.Gd 2 e:=fun e he=>by
  obtain ⟨_,_,_,_,_,g,_⟩:=od.get R he;exact g
 have nolF:=(Tre.Vg gF).1;have shp:=Vb gF O0;have rfl1:PyData.eqv (.list ds) (.list ds)=true:=PySem.SeqAt.eqv_refl _ (ZK gF).1;have hl5:=rf.length;have hl4:=rd.length;have dl:=od.len;have hpd3:=g3 _ _ hpd;have rd3:=rd.same g3;have r3:=(r1.same g2).same g3;have nfd:pd≠pf:=fun e=>by rw [e,hpf0] at hpd;cases hpd
 refine ⟨_,rfl,_,.list ds,"list",rfl,.lst (SqL.of hpf) rf,O0,_,rfl,qO (show (!isi "list" "list")=false from O0) ?_⟩;refine ⟨_,rfl,_,rfl,.list ds,.list ds,.lst (SqL.of hpf) rf,.lst (SqL.of hpd3) rd3,shp,shp,_,rfl,qO (by rw [rfl1];rfl) ?_⟩
 refine ⟨_,rfl,.inl ⟨pf,rfl,⟨zf,SqL.of hpf⟩,qe0 (SqL.of hpf) rf (qU ⋯) (fun v e R he re hR=>⟨_,rfl,_,e,"tuple",rfl,re,O0,?_⟩) (fun D6 hD6=>⟨D6,ds.map fun _=>true,rfl,SqL.of upd_same,_,rfl,qO (by rw [qdn];rfl) ?_⟩)⟩⟩
 ·rw [J0];obtain ⟨_,_,_,_,rfl,_⟩:=od.get RR he;exact hR
 have g6:=qe hD6 (.lst ((ds.map fun _=>true).map V.bl));dsimp only;generalize upd H3 D6 (.lst ((ds.map fun _=>true).map V.bl))=H6 at g6 ⊢;have hz6:=g6 _ _ hpf;refine ⟨_,rfl,.inl ⟨pf,rfl,⟨zf,SqL.of hz6⟩,?_⟩⟩;refine jZ ds.length (Iv_NamQ8_0 a d ap pd pf H6) ⟨_,_,_,_,rfl,qv.refl _⟩ (fun i σ Ho hi h=>?_) (fun σ H7 h=>?_)
 ·obtain ⟨o5,o6,o7,o8,rfl,g7⟩:=h;have hx:zf[i]?=some (zf[i]'⋯):=Af ⋯;have hz7:=g7 _ _ hz6;refine ⟨⟨zf,_,SqL.of hz7,hx⟩,fun v H7 yl D' hn _=>?_⟩;obtain ⟨rfl,hv⟩:=yl;cases hx.symm.trans (hv zf (SqL.of hz7));obtain ⟨e,he,re⟩:=(rf.same (g6.trans g7)).get hx;have hem:=Ay he;obtain ⟨kd,nms,ns',ms,rfl,_,hsm⟩:=od.get R hem;refine Rep.tp4 re fun av y1 y2 y3 ev hqv q1 q2 q3=>?_;rw [ev];refine ⟨av,_,rfl,hqv,rfl,_,_,rfl,_,_,rfl,_,_,rfl,_,_,rfl,rfl,?_⟩;obtain ⟨ab,ws,rfl,hqb,rsb⟩:=q2.tup_inv;refine ⟨_,rfl,.inr (.inl ⟨ab,rfl,⟨ws,hqb⟩,qez hqb rsb (qU (by rw [Ab];omega)) (fun v e R he re hR=>?_) (fun D8 hD8=>⟨D8,(ns'.map PyData.int).map fun _=>true,rfl,SqL.of upd_same,_,rfl,qO (by rw [qdn];rfl) (hn _ _ ⟨_,_,_,_,rfl,g7.trans (qe hD8 _)⟩)⟩)⟩)⟩
  obtain ⟨k,_,rfl⟩:=Bt.mp he;cases re;refine ⟨_,rfl,_,.int k,"int",rfl,.int _,O0,_,rfl,qX (show isi "int" "int"=true from O0) ?_⟩;refine ⟨_,rfl,_,.int k,"bool",rfl,.int _,O0,_,rfl,?_⟩;have eb:(!isi (tyD (.int k)) "bool")=true:=(O0:(!isi "int" "bool")=true);rw [eb];exact hR
 obtain ⟨o5,o6,o7,o8,rfl,g7⟩:=h;have hz7:=g7 _ _ hz6;refine ⟨⟨zf,SqL.of hz7,⋯⟩,?_⟩;have g37:=g6.trans g7;refine ⟨_,rfl,.inl ⟨rfl,_,SqL.of hz7⟩,pf,_,_,rfl,rfl,hz7,jy ⋯,?_⟩;have rr9:=Rep.put (o':= .lst (zf++[.non])) hz7 (r3.same g37) gd.nol;have rz9:=Reps.put (o':= .lst (zf++[.non])) hz7 (rd3.same g37) nolF;have ry9:=Reps.put (o':= .lst (zf++[.non])) hz7 (rf.same g37) nolF;have hd9:upd H7 pf (.lst (zf++[.non])) pd=some (.lst zd):=by rw [qk nfd];exact g37 _ _ hpd3
 have hf9:upd H7 pf (.lst (zf++[.non])) pf=some (.lst (zf++[.non])):=upd_same;dsimp only;generalize upd H7 pf (.lst (zf++[.non]))=H9 at rr9 rz9 ry9 hd9 hf9 ⊢;refine ⟨_,rfl,_,d,s,t,names,rfl,rr9,hnl,hgs,hf,p1,hs,⋯,hw,fun Ha pa za da ga hpa0 ha rza oa=>?_⟩;cases oa.one od;refine ⟨_,rfl,.list ds,.list ds,.lst (SqL.of ha) rza,.lst (SqL.of (ga _ _ hd9)) (rz9.same ga),shp,shp,_,rfl,qX rfl1 ?_⟩;refine ⟨_,rfl,_,rfl,(O0:1≤sizeLine),fun pb hpb=>?_⟩;have gb:=qe hpb (.lst [.non]);refine .inr (.inr ⟨pd,pb,zd,[.non],rfl,rfl,(ga.trans gb) _ _ hd9,upd_same,qU (by rw [Av];omega),fun pc hpc=>?_⟩)
 have gc:=qe hpc (.lst (zd++[.non]));have gac:=(ga.trans gb).trans gc;have gFn:∀ e∈ds++[.none],Tre.Gd 2 e:=fun e he=>by
  rcases Az.mp he with h | h
  ·exact gF e h
  ·cases Am.mp h;exact ⟨rfl,rfl,Bw _⟩
 have rfl2:PyData.eqv (.list (ds++[.none])) (.list (ds++[.none]))=true:=PySem.SeqAt.eqv_refl _ (ZK gFn).1;refine ⟨.list (ds++[.none]),.list (ds++[.none]),.lst (SqL.of (gac _ _ hf9)) ((ry9.same gac).append (.cons .non .nil)),.lst (SqL.of upd_same) ((rz9.same gac).append (.cons .non .nil)),Vb gFn O0,Vb gFn O0,_,rfl,qX rfl2 ?_⟩;refine ⟨_,rfl,ap,_,rfl,rr9.same gac,able,nod,dp,fits,_,rfl,rfl,?_⟩;rw [Al rfl];exact q _
end
theorem qlt {l:PySem.W.OpenLaw} {w:World} {K:Frag} {h:Heap} {mg:Str→Option Value} {fa f0 f1 f2 f3 f4 f5 f6 f7 f8 f9 f10 f11 f12 f13 f14 f15 f16 f17 f18 f19 f20 f21 f22 f23 f24 f25 f26 f27 f28 f29 f30 f31 f32 f33 f34 f35 f36 f37 f38 f39 f40 f41:Addr} (X:K.In h) (G:h.Ns mainGlobals mg) (hfa:mg "law"=some (.ref fa))
  {c_LoomError c_BadTree c_BadName c_Scope:Addr}
  {a_SIGNS:Addr} {n_SIGNS:Nat} {k_SIGNS_0 k_SIGNS_1 k_SIGNS_2 k_SIGNS_3 k_SIGNS_4:Tok} {a_FORMS:Addr} {n_FORMS:Nat} {k_FORMS_0 k_FORMS_1 k_FORMS_2 k_FORMS_3 k_FORMS_4 k_FORMS_5 k_FORMS_6 k_FORMS_7 k_FORMS_8 k_FORMS_9 k_FORMS_10 k_FORMS_11 k_FORMS_12 k_FORMS_13 k_FORMS_14 k_FORMS_15 k_FORMS_16:Tok} {a_FORMS0:Addr} {n_FORMS0:Nat} {k_FORMS0_0 k_FORMS0_1:Tok} {a_FORMS1:Addr} {n_FORMS1:Nat} {k_FORMS1_0:Tok} {a_FORMS2:Addr} {n_FORMS2:Nat} {k_FORMS2_0:Tok} {a_FORMS3:Addr} {n_FORMS3:Nat} {k_FORMS3_0 k_FORMS3_1 k_FORMS3_2:Tok} {a_FORMS4:Addr} {n_FORMS4:Nat} {k_FORMS4_0 k_FORMS4_1:Tok} {a_FORMS5:Addr} {n_FORMS5:Nat} {k_FORMS5_0 k_FORMS5_1:Tok} {a_FORMS6:Addr} {n_FORMS6:Nat} {k_FORMS6_0 k_FORMS6_1:Tok} {a_FORMS7:Addr} {n_FORMS7:Nat} {k_FORMS7_0 k_FORMS7_1:Tok} {a_FORMS8:Addr} {n_FORMS8:Nat} {k_FORMS8_0 k_FORMS8_1:Tok} {a_FORMS9:Addr} {n_FORMS9:Nat} {k_FORMS9_0 k_FORMS9_1:Tok} {a_FORMS10:Addr} {n_FORMS10:Nat} {k_FORMS10_0:Tok} {a_FORMS11:Addr} {n_FORMS11:Nat} {k_FORMS11_0 k_FORMS11_1 k_FORMS11_2:Tok} {a_FORMS12:Addr} {n_FORMS12:Nat} {k_FORMS12_0 k_FORMS12_1:Tok} {a_FORMS13:Addr} {n_FORMS13:Nat} {k_FORMS13_0:Tok} {a_FORMS14:Addr} {n_FORMS14:Nat} {k_FORMS14_0:Tok} {a_FORMS15:Addr} {n_FORMS15:Nat} {k_FORMS15_0 k_FORMS15_1:Tok} {a_FORMS16:Addr} {n_FORMS16:Nat} {k_FORMS16_0 k_FORMS16_1 k_FORMS16_2 k_FORMS16_3 k_FORMS16_4:Tok} {a_HEADS:Addr} {n_HEADS:Nat} {k_HEADS_0 k_HEADS_1 k_HEADS_2:Tok} {a_HEADS0:Addr} {n_HEADS0:Nat} {k_HEADS0_0:Tok} {a_HEADS1:Addr} {n_HEADS1:Nat} {k_HEADS1_0 k_HEADS1_1 k_HEADS1_2 k_HEADS1_3 k_HEADS1_4 k_HEADS1_5 k_HEADS1_6:Tok} {a_HEADS2:Addr} {n_HEADS2:Nat} {k_HEADS2_0 k_HEADS2_1 k_HEADS2_2 k_HEADS2_3 k_HEADS2_4 k_HEADS2_5 k_HEADS2_6 k_HEADS2_7 k_HEADS2_8:Tok} {a_MEMBERS:Addr} {n_MEMBERS:Nat} {k_MEMBERS_0 k_MEMBERS_1 k_MEMBERS_2:Tok} {w_MEMBERS_0 w_MEMBERS_1 w_MEMBERS_2:Tok} {a_INNER_KINDS:Addr} {n_INNER_KINDS:Nat} {k_INNER_KINDS_0 k_INNER_KINDS_1:Tok}
  {t_MOST_LETTERS t_GREATEST_NUMBER t_MOST_NAMES t_MOST_TERMS t_MOST_STATEMENTS t_MOST_DEPTH t_MOST_PARTS:Tok}
  (a0:PySem.W.nsIn K mainGlobals "is_name"=some (some (.ref f0))) (l0:FA K f0 "is_name" "is_name" Vq)
  (a1:PySem.W.nsIn K mainGlobals "is_number"=some (some (.ref f1))) (l1:FA K f1 "is_number" "is_number" v1)
  (a2:PySem.W.nsIn K mainGlobals "is_row"=some (some (.ref f2))) (l2:FA K f2 "is_row" "is_row" yU)
  (a3:PySem.W.nsIn K mainGlobals "are_names"=some (some (.ref f3))) (l3:FA K f3 "are_names" "are_names" JV)
  (a4:PySem.W.nsIn K mainGlobals "has_shape"=some (some (.ref f4))) (l4:FA K f4 "has_shape" "has_shape" v3)
  (a5:PySem.W.nsIn K mainGlobals "has_form"=some (some (.ref f5))) (l5:FA K f5 "has_form" "has_form" vB)
  (a6:PySem.W.nsIn K mainGlobals "inner_with_shapes"=some (some (.ref f6))) (l6:FA K f6 "inner_with_shapes" "inner_with_shapes" zW)
  (a7:PySem.W.nsIn K mainGlobals "hands_within"=some (some (.ref f7))) (l7:FA K f7 "hands_within" "hands_within" JL)
  (a8:PySem.W.nsIn K mainGlobals "is_program"=some (some (.ref f8))) (l8:FA K f8 "is_program" "is_program" Jy)
  (a9:PySem.W.nsIn K mainGlobals "need_program"=some (some (.ref f9))) (l9:FA K f9 "need_program" "need_program" JI)
  (a10:PySem.W.nsIn K mainGlobals "inner_of"=some (some (.ref f10))) (l10:FA K f10 "inner_of" "inner_of" vA)
  (a11:PySem.W.nsIn K mainGlobals "functions_of"=some (some (.ref f11))) (l11:FA K f11 "functions_of" "functions_of" jT)
  (a12:PySem.W.nsIn K mainGlobals "brought_by"=some (some (.ref f12))) (l12:FA K f12 "brought_by" "brought_by" Jz)
  (a13:PySem.W.nsIn K mainGlobals "names_of"=some (some (.ref f13))) (l13:FA K f13 "names_of" "names_of" VW)
  (a14:PySem.W.nsIn K mainGlobals "used_in"=some (some (.ref f14))) (l14:FA K f14 "used_in" "used_in" wJ)
  (a15:PySem.W.findIn K (.ref c_Scope) "__init__"=some (some (.ref f15))) (i15:PySem.W.isFn K (.ref f15)=true) (l15:FA K f15 "__init__" "Scope.__init__" yV)
  (a16:PySem.W.findIn K (.ref c_Scope) "shown_scope"=some (some (.ref f16))) (i16:PySem.W.isFn K (.ref f16)=true) (l16:FA K f16 "shown_scope" "Scope.shown_scope" Jp)
  (a17:PySem.W.nsIn K mainGlobals "owner_of"=some (some (.ref f17))) (l17:FA K f17 "owner_of" "owner_of" VU)
  (a18:PySem.W.nsIn K mainGlobals "refuse_names"=some (some (.ref f18))) (l18:FA K f18 "refuse_names" "refuse_names" JH)
  (a19:PySem.W.nsIn K mainGlobals "take_name"=some (some (.ref f19))) (l19:FA K f19 "take_name" "take_name" v0)
  (a20:PySem.W.nsIn K mainGlobals "scopes_of"=some (some (.ref f20))) (l20:FA K f20 "scopes_of" "scopes_of" Jj)
  (a21:PySem.W.nsIn K mainGlobals "_law_cell_at"=some (some (.ref f21))) (l21:FA K f21 "_law_cell_at" "_law_cell_at" J6)
  (a22:PySem.W.nsIn K mainGlobals "_law_next"=some (some (.ref f22))) (l22:FA K f22 "_law_next" "_law_next" VX)
  (a23:PySem.W.nsIn K mainGlobals "_law_names"=some (some (.ref f23))) (l23:FA K f23 "_law_names" "_law_names" Jk)
  (a24:PySem.W.nsIn K mainGlobals "_law_visible"=some (some (.ref f24))) (l24:FA K f24 "_law_visible" "_law_visible" Jd)
  (a25:PySem.W.nsIn K mainGlobals "_law_number"=some (some (.ref f25))) (l25:FA K f25 "_law_number" "_law_number" vy)
  (a26:PySem.W.nsIn K mainGlobals "_law_new_name"=some (some (.ref f26))) (l26:FA K f26 "_law_new_name" "_law_new_name" jQ)
  (a27:PySem.W.nsIn K mainGlobals "_law_function"=some (some (.ref f27))) (l27:FA K f27 "_law_function" "_law_function" jS)
  (a28:PySem.W.nsIn K mainGlobals "_law_term"=some (some (.ref f28))) (l28:FA K f28 "_law_term" "_law_term" JJ)
  (a29:PySem.W.nsIn K mainGlobals "_law_body"=some (some (.ref f29))) (l29:FA K f29 "_law_body" "_law_body" JK)
  (a30:PySem.W.nsIn K mainGlobals "_law_brings"=some (some (.ref f30))) (l30:FA K f30 "_law_brings" "_law_brings" Jx)
  (a31:PySem.W.nsIn K mainGlobals "_law_tried"=some (some (.ref f31))) (l31:FA K f31 "_law_tried" "_law_tried" JT)
  (a32:PySem.W.nsIn K mainGlobals "_law_statement"=some (some (.ref f32))) (l32:FA K f32 "_law_statement" "_law_statement" jA)
  (a33:PySem.W.nsIn K mainGlobals "_law_program"=some (some (.ref f33))) (l33:FA K f33 "_law_program" "_law_program" J5)
  (a34:PySem.W.nsIn K mainGlobals "_law_inner"=some (some (.ref f34))) (l34:FA K f34 "_law_inner" "_law_inner" JU)
  (a35:PySem.W.nsIn K mainGlobals "_law_brought"=some (some (.ref f35))) (l35:FA K f35 "_law_brought" "_law_brought" Je)
  (a36:PySem.W.nsIn K mainGlobals "_law_used"=some (some (.ref f36))) (l36:FA K f36 "_law_used" "_law_used" vx)
  (a37:PySem.W.nsIn K mainGlobals "_law_gathered"=some (some (.ref f37))) (l37:FA K f37 "_law_gathered" "_law_gathered" jR)
  (a38:PySem.W.nsIn K mainGlobals "_law_all"=some (some (.ref f38))) (l38:FA K f38 "_law_all" "_law_all" wK)
  (a39:PySem.W.nsIn K mainGlobals "_law_holder"=some (some (.ref f39))) (l39:FA K f39 "_law_holder" "_law_holder" vz)
  (a40:PySem.W.nsIn K mainGlobals "_law_due"=some (some (.ref f40))) (l40:FA K f40 "_law_due" "_law_due" vc)
  (a41:PySem.W.nsIn K mainGlobals "law"=some (some (.ref f41))) (l41:FA K f41 "law" "law" VJ)
  (z_all:PySem.W.nsIn K mainGlobals "all"=some none)
  (z_isinstance:PySem.W.nsIn K mainGlobals "isinstance"=some none)
  (z_str:PySem.W.nsIn K mainGlobals "str"=some none)
  (z_len:PySem.W.nsIn K mainGlobals "len"=some none)
  (z_bool:PySem.W.nsIn K mainGlobals "bool"=some none)
  (z_int:PySem.W.nsIn K mainGlobals "int"=some none)
  (z_tuple:PySem.W.nsIn K mainGlobals "tuple"=some none)
  (z_set:PySem.W.nsIn K mainGlobals "set"=some none)
  (z_zip:PySem.W.nsIn K mainGlobals "zip"=some none)
  (z_reversed:PySem.W.nsIn K mainGlobals "reversed"=some none)
  (z_list:PySem.W.nsIn K mainGlobals "list"=some none)
  (z_sorted:PySem.W.nsIn K mainGlobals "sorted"=some none)
  (z_range:PySem.W.nsIn K mainGlobals "range"=some none)
  (z_enumerate:PySem.W.nsIn K mainGlobals "enumerate"=some none)
  (z_max:PySem.W.nsIn K mainGlobals "max"=some none)
  (g_MOST_LETTERS:PySem.W.nsIn K mainGlobals "MOST_LETTERS"=some (some (.int 8 t_MOST_LETTERS)))
  (g_GREATEST_NUMBER:PySem.W.nsIn K mainGlobals "GREATEST_NUMBER"=some (some (.int 1000000000000 t_GREATEST_NUMBER)))
  (g_MOST_NAMES:PySem.W.nsIn K mainGlobals "MOST_NAMES"=some (some (.int 4 t_MOST_NAMES)))
  (g_MOST_TERMS:PySem.W.nsIn K mainGlobals "MOST_TERMS"=some (some (.int 4 t_MOST_TERMS)))
  (g_MOST_STATEMENTS:PySem.W.nsIn K mainGlobals "MOST_STATEMENTS"=some (some (.int 12 t_MOST_STATEMENTS)))
  (g_MOST_DEPTH:PySem.W.nsIn K mainGlobals "MOST_DEPTH"=some (some (.int 20 t_MOST_DEPTH)))
  (g_MOST_PARTS:PySem.W.nsIn K mainGlobals "MOST_PARTS"=some (some (.int 300 t_MOST_PARTS)))
  (n_LoomError:PySem.W.nsIn K mainGlobals "LoomError"=some (some (.ref c_LoomError)))
  (n_BadTree:PySem.W.nsIn K mainGlobals "BadTree"=some (some (.ref c_BadTree)))
  (n_BadName:PySem.W.nsIn K mainGlobals "BadName"=some (some (.ref c_BadName)))
  (n_Scope:PySem.W.nsIn K mainGlobals "Scope"=some (some (.ref c_Scope)))
  (h_pg:PySem.W.plainGet K c_Scope Str.empty=true)
  (h_hd:PySem.W.hasDictIn K c_Scope=true)
  (h_po:PySem.W.plainOver K c_Scope=true)
  (h_sa:PySem.W.findIn K (.ref c_Scope) "__setattr__"=some (some (.builtin "object.__setattr__")))
  (h_aK:PySem.W.findIn K (.ref c_Scope) "kind"=some none)
  (h_aO:PySem.W.findIn K (.ref c_Scope) "outer"=some none)
  (h_aN:PySem.W.findIn K (.ref c_Scope) "names"=some none)
  (h_aU:PySem.W.findIn K (.ref c_Scope) "used"=some none)
  (h_aB:PySem.W.findIn K (.ref c_Scope) "boxed"=some none)
  (h_aT:PySem.W.findIn K (.ref c_Scope) "taken"=some none)
  (h_mk:PySem.W.makesIn K c_Scope=true)
  (h_kc:PySem.W.keepIn K (.ref c_Scope)=true)
  (g_SIGNS:PySem.W.nsIn K mainGlobals "SIGNS"=some (some (.ref a_SIGNS)))
  (l_SIGNS:K.lookup a_SIGNS=some {cls:= .type "tuple",data:= .seq ([.str "+" k_SIGNS_0,.str "-" k_SIGNS_1,.str "*" k_SIGNS_2,.str "<" k_SIGNS_3,.str "=" k_SIGNS_4]:List Value).toArray n_SIGNS})
  (g_FORMS:PySem.W.nsIn K mainGlobals "FORMS"=some (some (.ref a_FORMS)))
  (l_FORMS:K.lookup a_FORMS=some {cls:= .type "dict",data:= .dict ([⟨PyData.keyHash w.params "main",.str "main" k_FORMS_0,.ref a_FORMS0⟩,⟨PyData.keyHash w.params "number",.str "number" k_FORMS_1,.ref a_FORMS1⟩,⟨PyData.keyHash w.params "name",.str "name" k_FORMS_2,.ref a_FORMS2⟩,⟨PyData.keyHash w.params "two",.str "two" k_FORMS_3,.ref a_FORMS3⟩,⟨PyData.keyHash w.params "fun",.str "fun" k_FORMS_4,.ref a_FORMS4⟩,⟨PyData.keyHash w.params "loop",.str "loop" k_FORMS_5,.ref a_FORMS5⟩,⟨PyData.keyHash w.params "call",.str "call" k_FORMS_6,.ref a_FORMS6⟩,⟨PyData.keyHash w.params "step",.str "step" k_FORMS_7,.ref a_FORMS7⟩,⟨PyData.keyHash w.params "let",.str "let" k_FORMS_8,.ref a_FORMS8⟩,⟨PyData.keyHash w.params "set",.str "set" k_FORMS_9,.ref a_FORMS9⟩,⟨PyData.keyHash w.params "do",.str "do" k_FORMS_10,.ref a_FORMS10⟩,⟨PyData.keyHash w.params "if",.str "if" k_FORMS_11,.ref a_FORMS11⟩,⟨PyData.keyHash w.params "while",.str "while" k_FORMS_12,.ref a_FORMS12⟩,⟨PyData.keyHash w.params "hand",.str "hand" k_FORMS_13,.ref a_FORMS13⟩,⟨PyData.keyHash w.params "back",.str "back" k_FORMS_14,.ref a_FORMS14⟩,⟨PyData.keyHash w.params "fault",.str "fault" k_FORMS_15,.ref a_FORMS15⟩,⟨PyData.keyHash w.params "try",.str "try" k_FORMS_16,.ref a_FORMS16⟩]:List DictEntry).toArray n_FORMS})
  (l_FORMS0:K.lookup a_FORMS0=some {cls:= .type "tuple",data:= .seq ([.str "names" k_FORMS0_0,.str "body" k_FORMS0_1]:List Value).toArray n_FORMS0})
  (l_FORMS1:K.lookup a_FORMS1=some {cls:= .type "tuple",data:= .seq ([.str "number" k_FORMS1_0]:List Value).toArray n_FORMS1})
  (l_FORMS2:K.lookup a_FORMS2=some {cls:= .type "tuple",data:= .seq ([.str "name" k_FORMS2_0]:List Value).toArray n_FORMS2})
  (l_FORMS3:K.lookup a_FORMS3=some {cls:= .type "tuple",data:= .seq ([.str "sign" k_FORMS3_0,.str "term" k_FORMS3_1,.str "term" k_FORMS3_2]:List Value).toArray n_FORMS3})
  (l_FORMS4:K.lookup a_FORMS4=some {cls:= .type "tuple",data:= .seq ([.str "names" k_FORMS4_0,.str "body" k_FORMS4_1]:List Value).toArray n_FORMS4})
  (l_FORMS5:K.lookup a_FORMS5=some {cls:= .type "tuple",data:= .seq ([.str "names" k_FORMS5_0,.str "body" k_FORMS5_1]:List Value).toArray n_FORMS5})
  (l_FORMS6:K.lookup a_FORMS6=some {cls:= .type "tuple",data:= .seq ([.str "term" k_FORMS6_0,.str "terms" k_FORMS6_1]:List Value).toArray n_FORMS6})
  (l_FORMS7:K.lookup a_FORMS7=some {cls:= .type "tuple",data:= .seq ([.str "term" k_FORMS7_0,.str "term" k_FORMS7_1]:List Value).toArray n_FORMS7})
  (l_FORMS8:K.lookup a_FORMS8=some {cls:= .type "tuple",data:= .seq ([.str "name" k_FORMS8_0,.str "term" k_FORMS8_1]:List Value).toArray n_FORMS8})
  (l_FORMS9:K.lookup a_FORMS9=some {cls:= .type "tuple",data:= .seq ([.str "name" k_FORMS9_0,.str "term" k_FORMS9_1]:List Value).toArray n_FORMS9})
  (l_FORMS10:K.lookup a_FORMS10=some {cls:= .type "tuple",data:= .seq ([.str "term" k_FORMS10_0]:List Value).toArray n_FORMS10})
  (l_FORMS11:K.lookup a_FORMS11=some {cls:= .type "tuple",data:= .seq ([.str "term" k_FORMS11_0,.str "body" k_FORMS11_1,.str "body" k_FORMS11_2]:List Value).toArray n_FORMS11})
  (l_FORMS12:K.lookup a_FORMS12=some {cls:= .type "tuple",data:= .seq ([.str "term" k_FORMS12_0,.str "body" k_FORMS12_1]:List Value).toArray n_FORMS12})
  (l_FORMS13:K.lookup a_FORMS13=some {cls:= .type "tuple",data:= .seq ([.str "term" k_FORMS13_0]:List Value).toArray n_FORMS13})
  (l_FORMS14:K.lookup a_FORMS14=some {cls:= .type "tuple",data:= .seq ([.str "term" k_FORMS14_0]:List Value).toArray n_FORMS14})
  (l_FORMS15:K.lookup a_FORMS15=some {cls:= .type "tuple",data:= .seq ([.str "word" k_FORMS15_0,.str "term" k_FORMS15_1]:List Value).toArray n_FORMS15})
  (l_FORMS16:K.lookup a_FORMS16=some {cls:= .type "tuple",data:= .seq ([.str "body" k_FORMS16_0,.str "name" k_FORMS16_1,.str "name" k_FORMS16_2,.str "body" k_FORMS16_3,.str "body" k_FORMS16_4]:List Value).toArray n_FORMS16})
  (g_HEADS:PySem.W.nsIn K mainGlobals "HEADS"=some (some (.ref a_HEADS)))
  (l_HEADS:K.lookup a_HEADS=some {cls:= .type "dict",data:= .dict ([⟨PyData.keyHash w.params "program",.str "program" k_HEADS_0,.ref a_HEADS0⟩,⟨PyData.keyHash w.params "term",.str "term" k_HEADS_1,.ref a_HEADS1⟩,⟨PyData.keyHash w.params "statement",.str "statement" k_HEADS_2,.ref a_HEADS2⟩]:List DictEntry).toArray n_HEADS})
  (l_HEADS0:K.lookup a_HEADS0=some {cls:= .type "tuple",data:= .seq ([.str "main" k_HEADS0_0]:List Value).toArray n_HEADS0})
  (l_HEADS1:K.lookup a_HEADS1=some {cls:= .type "tuple",data:= .seq ([.str "number" k_HEADS1_0,.str "name" k_HEADS1_1,.str "two" k_HEADS1_2,.str "fun" k_HEADS1_3,.str "loop" k_HEADS1_4,.str "call" k_HEADS1_5,.str "step" k_HEADS1_6]:List Value).toArray n_HEADS1})
  (l_HEADS2:K.lookup a_HEADS2=some {cls:= .type "tuple",data:= .seq ([.str "let" k_HEADS2_0,.str "set" k_HEADS2_1,.str "do" k_HEADS2_2,.str "if" k_HEADS2_3,.str "while" k_HEADS2_4,.str "hand" k_HEADS2_5,.str "back" k_HEADS2_6,.str "fault" k_HEADS2_7,.str "try" k_HEADS2_8]:List Value).toArray n_HEADS2})
  (g_MEMBERS:PySem.W.nsIn K mainGlobals "MEMBERS"=some (some (.ref a_MEMBERS)))
  (l_MEMBERS:K.lookup a_MEMBERS=some {cls:= .type "dict",data:= .dict ([⟨PyData.keyHash w.params "names",.str "names" k_MEMBERS_0,.str "name" w_MEMBERS_0⟩,⟨PyData.keyHash w.params "terms",.str "terms" k_MEMBERS_1,.str "term" w_MEMBERS_1⟩,⟨PyData.keyHash w.params "body",.str "body" k_MEMBERS_2,.str "statement" w_MEMBERS_2⟩]:List DictEntry).toArray n_MEMBERS})
  (g_INNER_KINDS:PySem.W.nsIn K mainGlobals "INNER_KINDS"=some (some (.ref a_INNER_KINDS)))
  (l_INNER_KINDS:K.lookup a_INNER_KINDS=some {cls:= .type "tuple",data:= .seq ([.str "fun" k_INNER_KINDS_0,.str "loop" k_INNER_KINDS_1]:List Value).toArray n_INNER_KINDS}):
  ∃ fd:FuncData,(∀ (s:Shared) (v:Value),BindsTo s fd ⟨[v],[]⟩ [("_law_script",v)])∧∀ base:Heap,K.In base→base.Ns mainGlobals mg→FnOkG l.prog w K mg base CX0 43 fa fd ["_law_script"] (spLaw K):=by
 have e:=hfa.symm.trans (Ap X G a41);cases e;obtain ⟨_,kV41,dc41,pm41,an41,cd41,ct41,_,l41,c41,k41⟩:=l41;have c:Cs K mg ⟨c_LoomError,c_BadTree,c_BadName,c_Scope⟩:=⟨B3 X G z_all,B3 X G z_isinstance,B3 X G z_str,B3 X G z_len,B3 X G z_bool,B3 X G z_int,B3 X G z_tuple,B3 X G z_set,B3 X G z_zip,B3 X G z_reversed,B3 X G z_list,B3 X G z_sorted,B3 X G z_range,B3 X G z_enumerate,B3 X G z_max,⟨_,Ap X G g_MOST_LETTERS,⟨_,rfl⟩⟩,⟨_,Ap X G g_GREATEST_NUMBER,⟨_,rfl⟩⟩,⟨_,Ap X G g_MOST_NAMES,⟨_,rfl⟩⟩,⟨_,Ap X G g_MOST_TERMS,⟨_,rfl⟩⟩,⟨_,Ap X G g_MOST_STATEMENTS,⟨_,rfl⟩⟩,⟨_,Ap X G g_MOST_DEPTH,⟨_,rfl⟩⟩,⟨_,Ap X G g_MOST_PARTS,⟨_,rfl⟩⟩,Ap X G n_LoomError,Ap X G n_BadTree,Ap X G n_BadName,Ap X G n_Scope,⟨h_pg,h_hd,h_po,h_sa⟩,h_aK,h_aO,h_aN,h_aU,h_aB,h_aT,h_mk,h_kc⟩;refine ⟨PySem.W.fnOf "law" "law" (Vx VJ) (J3 VJ) (ql VJ) .none kV41 dc41 pm41 an41 cd41 ct41,fun s v=> .of_eq rfl,fun base _ _=>?_⟩;have T:Tb l.prog w K mg:=⟨⟨_,Ap X G g_SIGNS,(zO (l:=["+","-","*","<","="]) l_SIGNS (.cons ⟨_,rfl⟩ (.cons ⟨_,rfl⟩ (.cons ⟨_,rfl⟩ (.cons ⟨_,rfl⟩ (.cons ⟨_,rfl⟩ .nil))))) (O0:(5:Nat)≤1000))⟩,⟨_,_,Ap X G g_FORMS,Yb l_FORMS (.cons (.cons (.cons (.cons (.cons (.cons (.cons (.cons (.cons (.cons (.cons (.cons (.cons (.cons (.cons (.cons (.cons .nil))))))))))))))))) (show (["main","number","name","two","fun","loop","call","step","let","set","do","if","while","hand","back","fault","try"]:List Str).Nodup from ∅),(.cons (zO (l:=["names","body"]) l_FORMS0 (.cons ⟨_,rfl⟩ (.cons ⟨_,rfl⟩ .nil)) (O0:(2:Nat)≤1000)) (.cons (zO (l:=["number"]) l_FORMS1 (.cons ⟨_,rfl⟩ .nil) (O0:(1:Nat)≤1000)) (.cons (zO (l:=["name"]) l_FORMS2 (.cons ⟨_,rfl⟩ .nil) (O0:(1:Nat)≤1000)) (.cons (zO (l:=["sign","term","term"]) l_FORMS3 (.cons ⟨_,rfl⟩ (.cons ⟨_,rfl⟩ (.cons ⟨_,rfl⟩ .nil))) (O0:(3:Nat)≤1000)) (.cons (zO (l:=["names","body"]) l_FORMS4 (.cons ⟨_,rfl⟩ (.cons ⟨_,rfl⟩ .nil)) (O0:(2:Nat)≤1000)) (.cons (zO (l:=["names","body"]) l_FORMS5 (.cons ⟨_,rfl⟩ (.cons ⟨_,rfl⟩ .nil)) (O0:(2:Nat)≤1000)) (.cons (zO (l:=["term","terms"]) l_FORMS6 (.cons ⟨_,rfl⟩ (.cons ⟨_,rfl⟩ .nil)) (O0:(2:Nat)≤1000)) (.cons (zO (l:=["term","term"]) l_FORMS7 (.cons ⟨_,rfl⟩ (.cons ⟨_,rfl⟩ .nil)) (O0:(2:Nat)≤1000)) (.cons (zO (l:=["name","term"]) l_FORMS8 (.cons ⟨_,rfl⟩ (.cons ⟨_,rfl⟩ .nil)) (O0:(2:Nat)≤1000)) (.cons (zO (l:=["name","term"]) l_FORMS9 (.cons ⟨_,rfl⟩ (.cons ⟨_,rfl⟩ .nil)) (O0:(2:Nat)≤1000)) (.cons (zO (l:=["term"]) l_FORMS10 (.cons ⟨_,rfl⟩ .nil) (O0:(1:Nat)≤1000)) (.cons (zO (l:=["term","body","body"]) l_FORMS11 (.cons ⟨_,rfl⟩ (.cons ⟨_,rfl⟩ (.cons ⟨_,rfl⟩ .nil))) (O0:(3:Nat)≤1000)) (.cons (zO (l:=["term","body"]) l_FORMS12 (.cons ⟨_,rfl⟩ (.cons ⟨_,rfl⟩ .nil)) (O0:(2:Nat)≤1000)) (.cons (zO (l:=["term"]) l_FORMS13 (.cons ⟨_,rfl⟩ .nil) (O0:(1:Nat)≤1000)) (.cons (zO (l:=["term"]) l_FORMS14 (.cons ⟨_,rfl⟩ .nil) (O0:(1:Nat)≤1000)) (.cons (zO (l:=["word","term"]) l_FORMS15 (.cons ⟨_,rfl⟩ (.cons ⟨_,rfl⟩ .nil)) (O0:(2:Nat)≤1000)) (.cons (zO (l:=["body","name","name","body","body"]) l_FORMS16 (.cons ⟨_,rfl⟩ (.cons ⟨_,rfl⟩ (.cons ⟨_,rfl⟩ (.cons ⟨_,rfl⟩ (.cons ⟨_,rfl⟩ .nil))))) (O0:(5:Nat)≤1000)) .nil)))))))))))))))))⟩,⟨_,_,Ap X G g_HEADS,Yb l_HEADS (.cons (.cons (.cons .nil))) (show (["program","term","statement"]:List Str).Nodup from ∅),(.cons (zO (l:=["main"]) l_HEADS0 (.cons ⟨_,rfl⟩ .nil) (O0:(1:Nat)≤1000)) (.cons (zO (l:=["number","name","two","fun","loop","call","step"]) l_HEADS1 (.cons ⟨_,rfl⟩ (.cons ⟨_,rfl⟩ (.cons ⟨_,rfl⟩ (.cons ⟨_,rfl⟩ (.cons ⟨_,rfl⟩ (.cons ⟨_,rfl⟩ (.cons ⟨_,rfl⟩ .nil))))))) (O0:(7:Nat)≤1000)) (.cons (zO (l:=["let","set","do","if","while","hand","back","fault","try"]) l_HEADS2 (.cons ⟨_,rfl⟩ (.cons ⟨_,rfl⟩ (.cons ⟨_,rfl⟩ (.cons ⟨_,rfl⟩ (.cons ⟨_,rfl⟩ (.cons ⟨_,rfl⟩ (.cons ⟨_,rfl⟩ (.cons ⟨_,rfl⟩ (.cons ⟨_,rfl⟩ .nil))))))))) (O0:(9:Nat)≤1000)) .nil)))⟩,⟨_,_,Ap X G g_MEMBERS,Yb l_MEMBERS (.cons (.cons (.cons .nil))) (show (["names","terms","body"]:List Str).Nodup from ∅),(.cons (.cons (.cons .nil)))⟩⟩;have T2:Tb2 K mg:=⟨⟨_,Ap X G g_INNER_KINDS,(zO (l:=["fun","loop"]) l_INNER_KINDS (.cons ⟨_,rfl⟩ (.cons ⟨_,rfl⟩ .nil)) (O0:(2:Nat)≤1000))⟩⟩;obtain ⟨_,F0,k0⟩:=l0.fn;have b0:=F0.binds (ps:=["thing"]) fun _ _ _ _ _ _ us hl=>match us,hl with | [_],_=>rfl
 have d_is_name:Def l.prog w K mg base _ "is_name" ["thing"] _:=⟨_,_,qbn (P:=l.prog) (w:=w) (base:=base) F0 c,b0,k0,Ap X G a0⟩;obtain ⟨_,F1,k1⟩:=l1.fn;have b1:=F1.binds (ps:=["thing"]) fun _ _ _ _ _ _ us hl=>match us,hl with | [_],_=>rfl
 have d_is_number:Def l.prog w K mg base _ "is_number" ["thing"] _:=⟨_,_,Zy (P:=l.prog) (w:=w) (base:=base) F1 c,b1,k1,Ap X G a1⟩;obtain ⟨_,F2,k2⟩:=l2.fn;have b2:=F2.binds (ps:=["thing","most"]) fun _ _ _ _ _ _ us hl=>match us,hl with | [_,_],_=>rfl
 have d_is_row:Def l.prog w K mg base _ "is_row" ["thing","most"] _:=⟨_,_,qd6 (P:=l.prog) (w:=w) (base:=base) F2 c,b2,k2,Ap X G a2⟩;obtain ⟨_,F3,k3⟩:=l3.fn;have b3:=F3.binds (ps:=["thing"]) fun _ _ _ _ _ _ us hl=>match us,hl with | [_],_=>rfl
 have d_are_names:Def l.prog w K mg base _ "are_names" ["thing"] _:=⟨_,_,ZA (P:=l.prog) (w:=w) (base:=base) F3 c d_is_name d_is_row,b3,k3,Ap X G a3⟩;obtain ⟨_,F4,k4⟩:=l4.fn;have b4:=F4.binds (ps:=["thing","shape"]) fun _ _ _ _ _ _ us hl=>match us,hl with | [_,_],_=>rfl
 have d_has_shape:Def l.prog w K mg base _ "has_shape" ["thing","shape"] _:=⟨_,_,Zz (P:=l.prog) (w:=w) (base:=base) F4 c T d_is_name d_is_number d_is_row d_are_names,b4,k4,Ap X G a4⟩;obtain ⟨_,F5,k5⟩:=l5.fn;have b5:=F5.binds (ps:=["thing","shape","hands"]) fun _ _ _ _ _ _ us hl=>match us,hl with | [_,_,_],_=>rfl
 have d_has_form:Def l.prog w K mg base _ "has_form" ["thing","shape","hands"] _:=⟨_,_,QI (P:=l.prog) (w:=w) (base:=base) F5 c T d_has_shape,b5,k5,Ap X G a5⟩;obtain ⟨_,F6,k6⟩:=l6.fn;have b6:=F6.binds (ps:=["part"]) fun _ _ _ _ _ _ us hl=>match us,hl with | [_],_=>rfl
 have d_inner_with_shapes:Def l.prog w K mg base _ "inner_with_shapes" ["part"] _:=⟨_,_,v8 (P:=l.prog) (w:=w) (base:=base) F6 c T,b6,k6,Ap X G a6⟩;obtain ⟨_,F7,k7⟩:=l7.fn;have b7:=F7.binds (ps:=["part","hands"]) fun _ _ _ _ _ _ us hl=>match us,hl with | [_,_],_=>rfl
 have d_hands_within:Def l.prog w K mg base _ "hands_within" ["part","hands"] _:=⟨_,_,W4 (P:=l.prog) (w:=w) (base:=base) F7 c,b7,k7,Ap X G a7⟩;obtain ⟨_,F8,k8⟩:=l8.fn;have b8:=F8.binds (ps:=["thing"]) fun _ _ _ _ _ _ us hl=>match us,hl with | [_],_=>rfl
 have d_is_program:Def l.prog w K mg base _ "is_program" ["thing"] _:=⟨_,_,Y2 (P:=l.prog) (w:=w) (base:=base) F8 c d_has_form d_hands_within d_inner_with_shapes,b8,k8,Ap X G a8⟩;obtain ⟨_,F9,k9⟩:=l9.fn;have b9:=F9.binds (ps:=["thing"]) fun _ _ _ _ _ _ us hl=>match us,hl with | [_],_=>rfl
 have d_need_program:Def l.prog w K mg base _ "need_program" ["thing"] _:=⟨_,_,W0 (P:=l.prog) (w:=w) (base:=base) F9 c d_is_program,b9,k9,Ap X G a9⟩;obtain ⟨_,F10,k10⟩:=l10.fn;have b10:=F10.binds (ps:=["part"]) fun _ _ _ _ _ _ us hl=>match us,hl with | [_],_=>rfl
 have d_inner_of:Def l.prog w K mg base _ "inner_of" ["part"] _:=⟨_,_,QH (P:=l.prog) (w:=w) (base:=base) F10 c d_inner_with_shapes,b10,k10,Ap X G a10⟩;obtain ⟨_,F11,k11⟩:=l11.fn;have b11:=F11.binds (ps:=["program"]) fun _ _ _ _ _ _ us hl=>match us,hl with | [_],_=>rfl
 have d_functions_of:Def l.prog w K mg base _ "functions_of" ["program"] _:=⟨_,_,W5 (P:=l.prog) (w:=w) (base:=base) F11 c T2 d_need_program d_inner_of,b11,k11,Ap X G a11⟩;obtain ⟨_,F12,k12⟩:=l12.fn;have b12:=F12.binds (ps:=["body"]) fun _ _ _ _ _ _ us hl=>match us,hl with | [_],_=>rfl
 have kn_brought_by:Known K mg "brought_by" ["body"] f12 _:=⟨b12,k12,Ap X G a12⟩;have F_brought_by:=F12;have d_brought_by:=qhh (P:=l.prog) (w:=w) (base:=base) F_brought_by kn_brought_by 21;obtain ⟨_,F13,k13⟩:=l13.fn;have b13:=F13.binds (ps:=["params","body"]) fun _ _ _ _ _ _ us hl=>match us,hl with | [_,_],_=>rfl
 have d_names_of:Def l.prog w K mg base _ "names_of" ["params","body"] _:=⟨_,_,QE (P:=l.prog) (w:=w) (base:=base) F13 c d_brought_by,b13,k13,Ap X G a13⟩;obtain ⟨_,F14,k14⟩:=l14.fn;have b14:=F14.binds (ps:=["body"]) fun _ _ _ _ _ _ us hl=>match us,hl with | [_],_=>rfl
 have d_used_in:Def l.prog w K mg base _ "used_in" ["body"] _:=⟨_,_,qbk (P:=l.prog) (w:=w) (base:=base) F14 c T2 d_inner_of,b14,k14,Ap X G a14⟩;obtain ⟨_,F15,k15⟩:=l15.fn;have b15:=F15.binds (ps:=["self","function"]) fun _ _ _ _ _ _ us hl=>match us,hl with | [_,_],_=>rfl
 have d_Scope:MakeA l.prog w K mg base "Scope" c_Scope _ ["self","function"] _:=⟨⟨_,_,qd7 (P:=l.prog) (w:=w) (base:=base) F15 c d_names_of d_used_in,b15,⟨c.mkC,a15,i15,c.kc⟩⟩,c.m_Scope⟩;obtain ⟨_,F16,k16⟩:=l16.fn;have b16:=F16.binds (ps:=["self"]) fun _ _ _ _ _ _ us hl=>match us,hl with | [_],_=>rfl
 have d_S_shown_scope:MethN l.prog w K mg base c_Scope _ "shown_scope" ["self"] _:=⟨⟨_,_,wN (P:=l.prog) (w:=w) (base:=base) F16 c,b16,⟨a16,i16,k16⟩⟩,c.cl⟩;obtain ⟨_,F17,k17⟩:=l17.fn;have b17:=F17.binds (ps:=["scopes","number","name"]) fun _ _ _ _ _ _ us hl=>match us,hl with | [_,_,_],_=>rfl
 have d_owner_of:Def l.prog w K mg base _ "owner_of" ["scopes","number","name"] _:=⟨_,_,QD (P:=l.prog) (w:=w) (base:=base) F17 c,b17,k17,Ap X G a17⟩;obtain ⟨_,F18,k18⟩:=l18.fn;have b18:=F18.binds (ps:=["scopes","number"]) fun _ _ _ _ _ _ us hl=>match us,hl with | [_,_],_=>rfl
 have d_refuse_names:Def l.prog w K mg base _ "refuse_names" ["scopes","number"] _:=⟨_,_,WZ (P:=l.prog) (w:=w) (base:=base) F18 c d_owner_of,b18,k18,Ap X G a18⟩;obtain ⟨_,F19,k19⟩:=l19.fn;have b19:=F19.binds (ps:=["scopes","number","name"]) fun _ _ _ _ _ _ us hl=>match us,hl with | [_,_,_],_=>rfl
 have d_take_name:Def l.prog w K mg base _ "take_name" ["scopes","number","name"] _:=⟨_,_,Zt (P:=l.prog) (w:=w) (base:=base) F19 c d_owner_of,b19,k19,Ap X G a19⟩;obtain ⟨_,F20,k20⟩:=l20.fn;have b20:=F20.binds (ps:=["program"]) fun _ _ _ _ _ _ us hl=>match us,hl with | [_],_=>rfl
 have d_scopes_of:Def l.prog w K mg base _ "scopes_of" ["program"] _:=⟨_,_,Zu (P:=l.prog) (w:=w) (base:=base) F20 c d_Scope d_S_shown_scope d_functions_of d_refuse_names d_take_name,b20,k20,Ap X G a20⟩;obtain ⟨_,F21,k21⟩:=l21.fn;have b21:=F21.binds (ps:=["_law_script","_law_k"]) fun _ _ _ _ _ _ us hl=>match us,hl with | [_,_],_=>rfl
 have d_law_cell_at:Def l.prog w K mg base _ "_law_cell_at" ["_law_script","_law_k"] _:=⟨_,_,y8 (P:=l.prog) (w:=w) (base:=base) F21 c,b21,k21,Ap X G a21⟩;obtain ⟨_,F22,k22⟩:=l22.fn;have b22:=F22.binds (ps:=["_law_state"]) fun _ _ _ _ _ _ us hl=>match us,hl with | [_],_=>rfl
 have d_law_next:Def l.prog w K mg base _ "_law_next" ["_law_state"] _:=⟨_,_,QG (P:=l.prog) (w:=w) (base:=base) F22 c d_law_cell_at,b22,k22,Ap X G a22⟩;obtain ⟨_,F23,k23⟩:=l23.fn;have b23:=F23.binds (ps:=["_law_cell","_law_many"]) fun _ _ _ _ _ _ us hl=>match us,hl with | [_,_],_=>rfl
 have d_law_names:Def l.prog w K mg base _ "_law_names" ["_law_cell","_law_many"] _:=⟨_,_,Zw (P:=l.prog) (w:=w) (base:=base) F23 c,b23,k23,Ap X G a23⟩;obtain ⟨_,F24,k24⟩:=l24.fn;have b24:=F24.binds (ps:=["_law_state"]) fun _ _ _ _ _ _ us hl=>match us,hl with | [_],_=>rfl
 have d_law_visible:Def l.prog w K mg base _ "_law_visible" ["_law_state"] _:=⟨_,_,y0 (P:=l.prog) (w:=w) (base:=base) F24 c,b24,k24,Ap X G a24⟩;obtain ⟨_,F25,k25⟩:=l25.fn;have b25:=F25.binds (ps:=["_law_more"]) fun _ _ _ _ _ _ us hl=>match us,hl with | [_],_=>rfl
 have d_law_number:Def l.prog w K mg base _ "_law_number" ["_law_more"] _:=⟨_,_,Y0 (P:=l.prog) (w:=w) (base:=base) F25 c,b25,k25,Ap X G a25⟩;obtain ⟨_,F26,k26⟩:=l26.fn;have b26:=F26.binds (ps:=["_law_state","_law_more"]) fun _ _ _ _ _ _ us hl=>match us,hl with | [_,_],_=>rfl
 have d_law_new_name:Def l.prog w K mg base _ "_law_new_name" ["_law_state","_law_more"] _:=⟨_,_,W1 (P:=l.prog) (w:=w) (base:=base) F26 c,b26,k26,Ap X G a26⟩;obtain ⟨_,F27,k27⟩:=l27.fn;have b27:=F27.binds (ps:=["_law_state","_law_deep","_law_kind"]) fun _ _ _ _ _ _ us hl=>match us,hl with | [_,_,_],_=>rfl
 have kn_law_function:Known K mg "_law_function" ["_law_state","_law_deep","_law_kind"] f27 _:=⟨b27,k27,Ap X G a27⟩;have F_law_function:=F27;obtain ⟨_,F28,k28⟩:=l28.fn;have b28:=F28.binds (ps:=["_law_state","_law_deep"]) fun _ _ _ _ _ _ us hl=>match us,hl with | [_,_],_=>rfl
 have kn_law_term:Known K mg "_law_term" ["_law_state","_law_deep"] f28 _:=⟨b28,k28,Ap X G a28⟩;have F_law_term:=F28;obtain ⟨_,F29,k29⟩:=l29.fn;have b29:=F29.binds (ps:=["_law_state","_law_deep","_law_may_hand"]) fun _ _ _ _ _ _ us hl=>match us,hl with | [_,_,_],_=>rfl
 have kn_law_body:Known K mg "_law_body" ["_law_state","_law_deep","_law_may_hand"] f29 _:=⟨b29,k29,Ap X G a29⟩;have F_law_body:=F29;obtain ⟨_,F30,k30⟩:=l30.fn;have b30:=F30.binds (ps:=["_law_state","_law_deep","_law_more"]) fun _ _ _ _ _ _ us hl=>match us,hl with | [_,_,_],_=>rfl
 have kn_law_brings:Known K mg "_law_brings" ["_law_state","_law_deep","_law_more"] f30 _:=⟨b30,k30,Ap X G a30⟩;have F_law_brings:=F30;obtain ⟨_,F31,k31⟩:=l31.fn;have b31:=F31.binds (ps:=["_law_state","_law_deep","_law_more","_law_may_hand"]) fun _ _ _ _ _ _ us hl=>match us,hl with | [_,_,_,_],_=>rfl
 have kn_law_tried:Known K mg "_law_tried" ["_law_state","_law_deep","_law_more","_law_may_hand"] f31 _:=⟨b31,k31,Ap X G a31⟩;have F_law_tried:=F31;obtain ⟨_,F32,k32⟩:=l32.fn;have b32:=F32.binds (ps:=["_law_state","_law_deep","_law_may_hand"]) fun _ _ _ _ _ _ us hl=>match us,hl with | [_,_,_],_=>rfl
 have kn_law_statement:Known K mg "_law_statement" ["_law_state","_law_deep","_law_may_hand"] f32 _:=⟨b32,k32,Ap X G a32⟩;have F_law_statement:=F32;have d_law_statement:=(drawn (P:=l.prog) (w:=w) (base:=base) F_law_term F_law_statement F_law_body F_law_function F_law_brings F_law_tried kn_law_term kn_law_statement kn_law_body kn_law_function kn_law_brings kn_law_tried c d_law_next d_law_number d_law_visible d_law_new_name 7).2.1;obtain ⟨_,F33,k33⟩:=l33.fn;have b33:=F33.binds (ps:=["_law_script","_law_most"]) fun _ _ _ _ _ _ us hl=>match us,hl with | [_,_],_=>rfl
 have d_law_program:Def l.prog w K mg base _ "_law_program" ["_law_script","_law_most"] _:=⟨_,_,y6 (P:=l.prog) (w:=w) (base:=base) F33 c d_law_cell_at d_law_names d_law_next d_law_statement,b33,k33,Ap X G a33⟩;obtain ⟨_,F34,k34⟩:=l34.fn;have b34:=F34.binds (ps:=["_law_part"]) fun _ _ _ _ _ _ us hl=>match us,hl with | [_],_=>rfl
 have d_law_inner:Def l.prog w K mg base _ "_law_inner" ["_law_part"] _:=⟨_,_,Zx (P:=l.prog) (w:=w) (base:=base) F34 c,b34,k34,Ap X G a34⟩;obtain ⟨_,F35,k35⟩:=l35.fn;have b35:=F35.binds (ps:=["_law_body_here"]) fun _ _ _ _ _ _ us hl=>match us,hl with | [_],_=>rfl
 have kn_law_brought:Known K mg "_law_brought" ["_law_body_here"] f35 _:=⟨b35,k35,Ap X G a35⟩;have F_law_brought:=F35;have d_law_brought:=Q9 (P:=l.prog) (w:=w) (base:=base) F_law_brought kn_law_brought c 13;obtain ⟨_,F36,k36⟩:=l36.fn;have b36:=F36.binds (ps:=["_law_part"]) fun _ _ _ _ _ _ us hl=>match us,hl with | [_],_=>rfl
 have kn_law_used:Known K mg "_law_used" ["_law_part"] f36 _:=⟨b36,k36,Ap X G a36⟩;have F_law_used:=F36;have d_law_used:=qjd (P:=l.prog) (w:=w) (base:=base) F_law_used kn_law_used c d_law_inner 12;obtain ⟨_,F37,k37⟩:=l37.fn;have b37:=F37.binds (ps:=["_law_part","_law_number_here","_law_found"]) fun _ _ _ _ _ _ us hl=>match us,hl with | [_,_,_],_=>rfl
 have kn_law_gathered:Known K mg "_law_gathered" ["_law_part","_law_number_here","_law_found"] f37 _:=⟨b37,k37,Ap X G a37⟩;have F_law_gathered:=F37;have d_law_gathered:=qc2 (P:=l.prog) (w:=w) (base:=base) F_law_gathered kn_law_gathered c d_law_inner d_law_brought d_law_used 12;obtain ⟨_,F38,k38⟩:=l38.fn;have b38:=F38.binds (ps:=["_law_program_here"]) fun _ _ _ _ _ _ us hl=>match us,hl with | [_],_=>rfl
 have d_law_all:Def l.prog w K mg base _ "_law_all" ["_law_program_here"] _:=⟨_,_,qbm (P:=l.prog) (w:=w) (base:=base) F38 c d_law_brought d_law_used d_law_gathered,b38,k38,Ap X G a38⟩;obtain ⟨_,F39,k39⟩:=l39.fn;have b39:=F39.binds (ps:=["_law_rows","_law_number_here","_law_name"]) fun _ _ _ _ _ _ us hl=>match us,hl with | [_,_,_],_=>rfl
 have d_law_holder:Def l.prog w K mg base _ "_law_holder" ["_law_rows","_law_number_here","_law_name"] _:=⟨_,_,Y1 (P:=l.prog) (w:=w) (base:=base) F39 c,b39,k39,Ap X G a39⟩;obtain ⟨_,F40,k40⟩:=l40.fn;have b40:=F40.binds (ps:=["_law_program_here"]) fun _ _ _ _ _ _ us hl=>match us,hl with | [_],_=>rfl
 have d_law_due:Def l.prog w K mg base _ "_law_due" ["_law_program_here"] _:=⟨_,_,qbl (P:=l.prog) (w:=w) (base:=base) F40 c d_law_all d_law_holder,b40,k40,Ap X G a40⟩;have F41:=qg5 (st:=VJ) l41 c41 k41;exact qkz F41 c d_law_program d_law_due d_scopes_of
theorem walk {l:PySem.W.OpenLaw} {q:Program} {loose:List Str} {XP:(Str→Option Value)→Heap→Prop} {YP:World→Heap→Prop} {d:DefRec} {K:Params→Frag} (hn:l.most=some 63) (hdf:d.params.defaults=[])
  (hY:∀ (w:World) (h:Heap),YP w h→(K w.params).In h)
  (F:∀ (w:World) (mg:Str→Option Value) (fa:Addr) (h:Heap),(K w.params).In h→h.Ns mainGlobals mg→mg d.name=some (.ref fa)→
   ∃ fd:FuncData,(∀ (s:Shared) (u:Value),BindsTo s fd ⟨[u],[]⟩ [("_law_script",u)])∧∀ base:Heap,(K w.params).In base→base.Ns mainGlobals mg→FnOkG l.prog w (K w.params) mg base CX0 43 fa fd ["_law_script"] (spLaw (K w.params))):
  PySem.W.WalkO q loose XP YP l.row.toRowW d [] (fun f vs=>PySem.call f vs):=
 L2.qe9 (n:=63) (k:=43) (x:="_law_script") (CX:=fun _=>CX0) (sp:=fun w=>spLaw (K w.params)) hn O0 hdf ⟨rfl,O0,O0⟩ hY F (fun _ _ a ns hl _ hS=>⟨a,ns,rfl,hS,hl,fun _=>rfl⟩) fun _ _ _ _ _ z=>z
end Mine
set_option Elab.async true
namespace PySem.Challenge.cw_waitloom_k08_names_and_taken_holds
theorem te10810417713235723446:True:=trivial
theorem te13414971815422174403:True:=trivial
theorem te17357659355351251853:True:=trivial
theorem te2811816706913099859:True:=trivial
theorem te17856626981379521946:True:=trivial
theorem te10020377833052107808:True:=trivial
theorem te13038989271041854053:True:=trivial
theorem te3022493909980820587:True:=trivial
theorem te11322288829774803721:True:=trivial
theorem te16293194508142773554:True:=trivial
theorem te3836216998353730683:True:=trivial
theorem te7300704089978323299:True:=trivial
theorem te17093590670967567026:True:=trivial
theorem te15774165274133825107:True:=trivial
theorem te746034935522512285:True:=trivial
theorem te9850949479662399062:True:=trivial
theorem te12562571462131992813:True:=trivial
theorem te18003587092203655850:True:=trivial
theorem te2877017871339531843:True:=trivial
theorem te12342429692460165816:True:=trivial
theorem te6393364460995225134:True:=trivial
theorem te8138489583113013203:True:=trivial
theorem te2348320758470552802:True:=trivial
theorem te8429836372899983119:True:=trivial
theorem te3118854670546484562:True:=trivial
theorem te2686593051231215360:True:=trivial
theorem te2918198051890299850:True:=trivial
theorem te17847333491569636993:True:=trivial
theorem te16782357225299445696:True:=trivial
theorem te13193109082008573467:True:=trivial
theorem te14710316557765373524:True:=trivial
theorem te1951826105512493257:True:=trivial
theorem te18292682056079088414:True:=trivial
theorem te18420886182662921191:True:=trivial
theorem te10272943113577835801:True:=trivial
theorem te6209510075962143780:True:=trivial
theorem te17000270582387829843:True:=trivial
theorem te9235758219994041086:True:=trivial
theorem te8158078224337835196:True:=trivial
theorem te4126445952166805668:True:=trivial
theorem te11828542437731955937:True:=trivial
theorem te1778935512520063085:True:=trivial
theorem te8757383225811268799:True:=trivial
theorem te10424514973189923638:True:=trivial
theorem te15596233181655654835:True:=trivial
theorem te5357594695667948818:True:=trivial
theorem te11356750816553928847:True:=trivial
theorem te7483543197901630523:True:=trivial
theorem te11288193107211952455:True:=trivial
theorem te10064856184685454300:True:=trivial
theorem te11919444163876915198:True:=trivial
theorem te18071620051028117581:True:=trivial
theorem te1373565036103034969:True:=trivial
theorem te12275183824697160952:True:=trivial
theorem te10784839693328940704:True:=trivial
theorem te17130690050043518580:True:=trivial
theorem te9479794049419334968:True:=trivial
theorem te9163024181169565781:True:=trivial
theorem te5155299746772306902:True:=trivial
theorem te13942321970400230460:True:=trivial
theorem te1553377748074329880:True:=trivial
theorem te18107847011901056549:True:=trivial
theorem te13071453961576234465:True:=trivial
theorem te17207268618496380410:True:=trivial
theorem te7422930703656487002:True:=trivial
theorem te18219367203936918709:True:=trivial
theorem te16306293202920691108:True:=trivial
theorem te4328220396823898955:True:=trivial
theorem te3143177719297914760:True:=trivial
theorem te12049966742860953359:True:=trivial
theorem te17082577989320772316:True:=trivial
theorem te8928525731414362602:True:=trivial
theorem te11317820487601746684:True:=trivial
theorem te6468245570097710961:True:=trivial
theorem te9091250143712649058:True:=trivial
theorem te6737930708564876156:True:=trivial
theorem te10606256306788792158:True:=trivial
theorem te2833611414488697656:True:=trivial
theorem te3611029244170515424:True:=trivial
theorem te12402082136696553:True:=trivial
theorem te4018113319250917156:True:=trivial
theorem te495798499745615287:True:=trivial
theorem te18252039940914061507:True:=trivial
theorem te10469256559705213053:True:=trivial
theorem te13506936282174202659:True:=trivial
theorem te317186152824267099:True:=trivial
theorem te10771138392498234613:True:=trivial
theorem te12769709155215184274:True:=trivial
theorem te4747157300470063371:True:=trivial
theorem te11113389280049055033:True:=trivial
theorem te13153587332899622486:True:=trivial
theorem te1330616523642916074:True:=trivial
theorem te13608779679802432554:True:=trivial
theorem te18180107411997366384:True:=trivial
theorem te15491578676136150885:True:=trivial
theorem te18423605074330330808:True:=trivial
theorem te339178010513715601:True:=trivial
theorem te18248813029533481692:True:=trivial
theorem te18151650887118249623:True:=trivial
theorem te16292171676052922287:True:=trivial
theorem te610105073011399781:True:=trivial
theorem te12492001832291411868:True:=trivial
theorem te8330944651393597590:True:=trivial
theorem te6218361911282434964:True:=trivial
theorem te17666769249644345932:True:=trivial
theorem te16155181171552129774:True:=trivial
theorem te15055767928112930115:True:=trivial
theorem te84758013249198292:True:=trivial
theorem te17085800816007511225:True:=trivial
theorem te3220866207024935207:True:=trivial
theorem te9056965239584455020:True:=trivial
theorem te3679572004794472280:True:=trivial
theorem te7161823763960582977:True:=trivial
theorem te6688279966178736046:True:=trivial
theorem te15606110367975681739:True:=trivial
theorem te16872350021526682437:True:=trivial
theorem te2047946405155134754:True:=trivial
theorem te9072004782688009611:True:=trivial
theorem te15389115212507993364:True:=trivial
theorem te17000392187861562066:True:=trivial
theorem te15672202800653682544:True:=trivial
theorem te9838507660575493080:True:=trivial
theorem te11011864496095896346:True:=trivial
theorem te15327744192031542808:True:=trivial
theorem te13731392782510747073:True:=trivial
theorem te6397891027830364451:True:=trivial
theorem te14906849148616780207:True:=trivial
theorem te15772295719943397796:True:=trivial
theorem te3625709028915556110:True:=trivial
theorem te11052968832201833058:True:=trivial
theorem te3524066397790798735:True:=trivial
theorem te3595350961551318043:True:=trivial
theorem te8093145419126362921:True:=trivial
theorem te17979627641764328007:True:=trivial
theorem te18073420288587290687:True:=trivial
theorem te10502163994230277749:True:=trivial
theorem te7618391453915672970:True:=trivial
theorem te1011343833822299938:True:=trivial
theorem te13569840790099081755:True:=trivial
theorem te9411246788305772043:True:=trivial
theorem te10684188152523637133:True:=trivial
theorem te7761799872207231798:True:=trivial
theorem te10796294273529893610:True:=trivial
theorem te9757294901665330028:True:=trivial
theorem te7264033628123948140:True:=trivial
theorem te7181214034594755182:True:=trivial
theorem te42815503653225497:True:=trivial
theorem te2212560847980856017:True:=trivial
theorem te13558021830933487569:True:=trivial
theorem te10408417480215960909:True:=trivial
theorem te2239673956529643948:True:=trivial
theorem te8791667308718315594:True:=trivial
theorem te16487906243037712277:True:=trivial
theorem te4009940133307301029:True:=trivial
theorem te6584842287257337612:True:=trivial
theorem te4809585163226762495:True:=trivial
theorem te11020766299526727016:True:=trivial
theorem te10030904478765959866:True:=trivial
theorem te7612016035730224123:True:=trivial
theorem te12233538115236663156:True:=trivial
theorem te7487153115100046612:True:=trivial
theorem te15111987269945484561:True:=trivial
theorem te7254064120855372440:True:=trivial
theorem te7167218377733087705:True:=trivial
theorem te8761125491532968089:True:=trivial
theorem te3423226274816017831:True:=trivial
theorem te15284043691282061722:True:=trivial
theorem te908067614193728240:True:=trivial
theorem te9457575399120336770:True:=trivial
theorem te18347754165323804630:True:=trivial
theorem te1814238116031152640:True:=trivial
theorem te4373575368367127395:True:=trivial
theorem te1834828123325809811:True:=trivial
theorem te14277211589989180184:True:=trivial
theorem te4061822182631569351:True:=trivial
theorem te15851141080085987462:True:=trivial
theorem te2699359243890755875:True:=trivial
theorem te10034742868874174508:True:=trivial
theorem te8504989604852401171:True:=trivial
theorem te4486784721621265566:True:=trivial
theorem te7004649488812633:True:=trivial
theorem te12401430679432505326:True:=trivial
theorem te4646085365946861986:True:=trivial
theorem te7373120785127911463:True:=trivial
theorem te9769524474107920058:True:=trivial
theorem te15588757133921828345:True:=trivial
theorem te12991706896916898132:True:=trivial
theorem te13166241031393605318:True:=trivial
theorem te6267703982970054496:True:=trivial
theorem te8903151957867302768:True:=trivial
theorem te12439057441106980586:True:=trivial
theorem te8022617468629038282:True:=trivial
theorem te5302783647020915709:True:=trivial
theorem te16009447858504599970:True:=trivial
theorem te4030938355288223167:True:=trivial
theorem te18045450668646017392:True:=trivial
theorem te11699872369655841930:True:=trivial
theorem te4035127265378501621:True:=trivial
theorem te2644871730034821233:True:=trivial
theorem te5149031402436795815:True:=trivial
theorem te9676832970560233694:True:=trivial
theorem te9692701804706184755:True:=trivial
theorem te236575629129827924:True:=trivial
theorem te6503290269468645087:True:=trivial
theorem te12357650241002194744:True:=trivial
theorem te17190431651811606023:True:=trivial
theorem te12971979984295396022:True:=trivial
theorem te1403202665776816405:True:=trivial
theorem te16073929253908020348:True:=trivial
theorem te6122528114314773942:True:=trivial
theorem te15660688508043795387:True:=trivial
theorem te715763963724865887:True:=trivial
theorem te8192201928020436687:True:=trivial
theorem te15576056603217259643:True:=trivial
theorem te3433820663905239842:True:=trivial
theorem te18367877623816289008:True:=trivial
theorem te6089368954725163534:True:=trivial
theorem te16482287979711921358:True:=trivial
theorem te10012241113473100555:True:=trivial
theorem te16645373174811728452:True:=trivial
theorem te4121158108648476240:True:=trivial
theorem te17658261610636746312:True:=trivial
theorem te15846681454419376141:True:=trivial
theorem te12270508578488207725:True:=trivial
theorem te13427584976631797021:True:=trivial
theorem te10845154079585823450:True:=trivial
theorem te11093097661744973904:True:=trivial
theorem te18230284214167596634:True:=trivial
theorem te2036293510564968022:True:=trivial
theorem te18439091540245375808:True:=trivial
theorem te16476186740004995918:True:=trivial
theorem te2887784219989221515:True:=trivial
theorem te17205573890044091459:True:=trivial
theorem te17285334529663785187:True:=trivial
theorem te11803511904943958545:True:=trivial
theorem te4319832318321214511:True:=trivial
theorem te4301625388742791795:True:=trivial
theorem te3305827616488500782:True:=trivial
theorem te9014755630259993888:True:=trivial
theorem te11833109478131221663:True:=trivial
theorem te4421577311266394753:True:=trivial
theorem te3957324315885683830:True:=trivial
theorem te15771856992014099572:True:=trivial
theorem te1335091658141425691:True:=trivial
theorem te1429585990267496111:True:=trivial
theorem te11746056266238423562:True:=trivial
theorem te1983138956632415086:True:=trivial
theorem te14088115043277908828:True:=trivial
theorem te13772066230427616092:True:=trivial
theorem te2379180199540446084:True:=trivial
theorem te8772768853153698079:True:=trivial
theorem te14158760305105634026:True:=trivial
theorem te13945359202069027728:True:=trivial
theorem te13184438178459474061:True:=trivial
theorem te1256847091506571001:True:=trivial
theorem te7435286606714521763:True:=trivial
theorem te15931993505491762031:True:=trivial
theorem te479075810876421587:True:=trivial
theorem te2667310361188984951:True:=trivial
theorem te16806104460420753294:True:=trivial
theorem te6756889717559866612:True:=trivial
theorem te16583553996376397335:True:=trivial
theorem te17416176053816859922:True:=trivial
theorem te13421423847915748132:True:=trivial
theorem te16335627040098238004:True:=trivial
theorem te10776228900630735308:True:=trivial
theorem te3388972706727939385:True:=trivial
theorem te18231823438783515669:True:=trivial
theorem te11858131860227374729:True:=trivial
theorem te16750083074454080831:True:=trivial
theorem te16971569893072275228:True:=trivial
theorem te9355792513605931314:True:=trivial
theorem te5621725800142100083:True:=trivial
theorem te2268801532150151025:True:=trivial
theorem te688865494199863901:True:=trivial
theorem te12041767969544519998:True:=trivial
theorem te2209390389027955706:True:=trivial
theorem te11144171782201893128:True:=trivial
theorem te2715347658968726328:True:=trivial
theorem te5927155225742917594:True:=trivial
theorem te18418580206785266190:True:=trivial
theorem te3294234277549274518:True:=trivial
theorem te14035555137278044366:True:=trivial
theorem te10394130530110929998:True:=trivial
theorem te12730428718512039293:True:=trivial
theorem te16317315691859465022:True:=trivial
theorem te9600986908390887054:True:=trivial
theorem te9024394200041322955:True:=trivial
theorem te12010206796801747495:True:=trivial
theorem te17376403939488691034:True:=trivial
theorem te9234660734582587446:True:=trivial
theorem te9979030415674679855:True:=trivial
theorem te3766965829263786897:True:=trivial
theorem te15162318523609817687:True:=trivial
theorem te11814686166778465778:True:=trivial
theorem te766797764593524418:True:=trivial
theorem te8950142044716922349:True:=trivial
theorem te4300422620754632412:True:=trivial
theorem te11091019081046209054:True:=trivial
theorem te3345363905141370949:True:=trivial
theorem te12364831955170505823:True:=trivial
theorem te416703450027863699:True:=trivial
theorem te2960118297387505140:True:=trivial
theorem te16909708298576766624:True:=trivial
theorem te11356023104029022318:True:=trivial
theorem te11624415982039461232:True:=trivial
theorem te912112443210872437:True:=trivial
theorem te7880235790344298102:True:=trivial
theorem te14462188967003575325:True:=trivial
theorem te2833145475093219350:True:=trivial
theorem te17045623890269748770:True:=trivial
theorem te7336236512994996623:True:=trivial
theorem te2215993364277171798:True:=trivial
theorem te9170193683915193219:True:=trivial
theorem te14285512166360669843:True:=trivial
theorem te834245686178542384:True:=trivial
theorem te4185591000620147904:True:=trivial
end PySem.Challenge.cw_waitloom_k08_names_and_taken_holds
def PySem.Challenge.cw_waitloom_k08_names_and_taken_holds.tw13822018518677195909:PySem.Program:=PySem.Challenge.pw_waitloom_k08_names_and_taken
theorem PySem.Challenge.cw_waitloom_k08_names_and_taken_holds.te13822018518677195909:PySem.Challenge.pw_waitloom_k08_names_and_taken=PySem.Challenge.cw_waitloom_k08_names_and_taken_holds.tw13822018518677195909:=rfl
open PySem PySem.W PyProof.Rows
set_option maxRecDepth 100000 in
set_option maxHeartbeats 0 in
theorem PySem.Challenge.cw_waitloom_k08_names_and_taken_holds : PySem.Challenge.rw_waitloom_k08_names_and_taken.Holds := by
 w_on;o_law;k_head;(case hw=>w_witness2)
 k_fill
 refine Mine.walk (l:=PySem.Challenge.rw_waitloom_k08_names_and_taken) rfl rfl (fun w h Y=>PySem.W.kIn_of Y) ?F
 case F=>
  intro w mg fa h KX G hmg;refine' Mine.qlt KX G hmg ?a0 ?l0 ?a1 ?l1 ?a2 ?l2 ?a3 ?l3 ?a4 ?l4 ?a5 ?l5 ?a6 ?l6 ?a7 ?l7 ?a8 ?l8 ?a9 ?l9 ?a10 ?l10 ?a11 ?l11 ?a12 ?l12 ?a13 ?l13 ?a14 ?l14 ?a15 ?i15 ?l15 ?a16 ?i16 ?l16 ?a17 ?l17 ?a18 ?l18 ?a19 ?l19 ?a20 ?l20 ?a21 ?l21 ?a22 ?l22 ?a23 ?l23 ?a24 ?l24 ?a25 ?l25 ?a26 ?l26 ?a27 ?l27 ?a28 ?l28 ?a29 ?l29 ?a30 ?l30 ?a31 ?l31 ?a32 ?l32 ?a33 ?l33 ?a34 ?l34 ?a35 ?l35 ?a36 ?l36 ?a37 ?l37 ?a38 ?l38 ?a39 ?l39 ?a40 ?l40 ?a41 ?l41 ?z_all ?z_isinstance ?z_str ?z_len ?z_bool ?z_int ?z_tuple ?z_set ?z_zip ?z_reversed ?z_list ?z_sorted ?z_range ?z_enumerate ?z_max ?g_MOST_LETTERS ?g_GREATEST_NUMBER ?g_MOST_NAMES ?g_MOST_TERMS ?g_MOST_STATEMENTS ?g_MOST_DEPTH ?g_MOST_PARTS ?n_LoomError ?n_BadTree ?n_BadName ?n_Scope ?h_pg ?h_hd ?h_po ?h_sa ?h_aK ?h_aO ?h_aN ?h_aU ?h_aB ?h_aT ?h_mk ?h_kc ?g_SIGNS ?l_SIGNS ?g_FORMS ?l_FORMS ?l_FORMS0 ?l_FORMS1 ?l_FORMS2 ?l_FORMS3 ?l_FORMS4 ?l_FORMS5 ?l_FORMS6 ?l_FORMS7 ?l_FORMS8 ?l_FORMS9 ?l_FORMS10 ?l_FORMS11 ?l_FORMS12 ?l_FORMS13 ?l_FORMS14 ?l_FORMS15 ?l_FORMS16 ?g_HEADS ?l_HEADS ?l_HEADS0 ?l_HEADS1 ?l_HEADS2 ?g_MEMBERS ?l_MEMBERS ?g_INNER_KINDS ?l_INNER_KINDS
  (case n_LoomError=>k_is)
  (case n_BadTree=>k_is)
  (case n_BadName=>k_is)
  (case n_Scope=>k_is)
  (case a0=>k_is)
  (case l0=>exact ⟨_,_,_,_,_,_,_,_,by k_is,by k_is,by k_is⟩)
  (case a1=>k_is)
  (case l1=>exact ⟨_,_,_,_,_,_,_,_,by k_is,by k_is,by k_is⟩)
  (case a2=>k_is)
  (case l2=>exact ⟨_,_,_,_,_,_,_,_,by k_is,by k_is,by k_is⟩)
  (case a3=>k_is)
  (case l3=>exact ⟨_,_,_,_,_,_,_,_,by k_is,by k_is,by k_is⟩)
  (case a4=>k_is)
  (case l4=>exact ⟨_,_,_,_,_,_,_,_,by k_is,by k_is,by k_is⟩)
  (case a5=>k_is)
  (case l5=>exact ⟨_,_,_,_,_,_,_,_,by k_is,by k_is,by k_is⟩)
  (case a6=>k_is)
  (case l6=>exact ⟨_,_,_,_,_,_,_,_,by k_is,by k_is,by k_is⟩)
  (case a7=>k_is)
  (case l7=>exact ⟨_,_,_,_,_,_,_,_,by k_is,by k_is,by k_is⟩)
  (case a8=>k_is)
  (case l8=>exact ⟨_,_,_,_,_,_,_,_,by k_is,by k_is,by k_is⟩)
  (case a9=>k_is)
  (case l9=>exact ⟨_,_,_,_,_,_,_,_,by k_is,by k_is,by k_is⟩)
  (case a10=>k_is)
  (case l10=>exact ⟨_,_,_,_,_,_,_,_,by k_is,by k_is,by k_is⟩)
  (case a11=>k_is)
  (case l11=>exact ⟨_,_,_,_,_,_,_,_,by k_is,by k_is,by k_is⟩)
  (case a12=>k_is)
  (case l12=>exact ⟨_,_,_,_,_,_,_,_,by k_is,by k_is,by k_is⟩)
  (case a13=>k_is)
  (case l13=>exact ⟨_,_,_,_,_,_,_,_,by k_is,by k_is,by k_is⟩)
  (case a14=>k_is)
  (case l14=>exact ⟨_,_,_,_,_,_,_,_,by k_is,by k_is,by k_is⟩)
  (case a15=>k_is)
  (case i15=>k_is)
  (case l15=>exact ⟨_,_,_,_,_,_,_,_,by k_is,by k_is,by k_is⟩)
  (case a16=>k_is)
  (case i16=>k_is)
  (case l16=>exact ⟨_,_,_,_,_,_,_,_,by k_is,by k_is,by k_is⟩)
  (case a17=>k_is)
  (case l17=>exact ⟨_,_,_,_,_,_,_,_,by k_is,by k_is,by k_is⟩)
  (case a18=>k_is)
  (case l18=>exact ⟨_,_,_,_,_,_,_,_,by k_is,by k_is,by k_is⟩)
  (case a19=>k_is)
  (case l19=>exact ⟨_,_,_,_,_,_,_,_,by k_is,by k_is,by k_is⟩)
  (case a20=>k_is)
  (case l20=>exact ⟨_,_,_,_,_,_,_,_,by k_is,by k_is,by k_is⟩)
  (case a21=>k_is)
  (case l21=>exact ⟨_,_,_,_,_,_,_,_,by k_is,by k_is,by k_is⟩)
  (case a22=>k_is)
  (case l22=>exact ⟨_,_,_,_,_,_,_,_,by k_is,by k_is,by k_is⟩)
  (case a23=>k_is)
  (case l23=>exact ⟨_,_,_,_,_,_,_,_,by k_is,by k_is,by k_is⟩)
  (case a24=>k_is)
  (case l24=>exact ⟨_,_,_,_,_,_,_,_,by k_is,by k_is,by k_is⟩)
  (case a25=>k_is)
  (case l25=>exact ⟨_,_,_,_,_,_,_,_,by k_is,by k_is,by k_is⟩)
  (case a26=>k_is)
  (case l26=>exact ⟨_,_,_,_,_,_,_,_,by k_is,by k_is,by k_is⟩)
  (case a27=>k_is)
  (case l27=>exact ⟨_,_,_,_,_,_,_,_,by k_is,by k_is,by k_is⟩)
  (case a28=>k_is)
  (case l28=>exact ⟨_,_,_,_,_,_,_,_,by k_is,by k_is,by k_is⟩)
  (case a29=>k_is)
  (case l29=>exact ⟨_,_,_,_,_,_,_,_,by k_is,by k_is,by k_is⟩)
  (case a30=>k_is)
  (case l30=>exact ⟨_,_,_,_,_,_,_,_,by k_is,by k_is,by k_is⟩)
  (case a31=>k_is)
  (case l31=>exact ⟨_,_,_,_,_,_,_,_,by k_is,by k_is,by k_is⟩)
  (case a32=>k_is)
  (case l32=>exact ⟨_,_,_,_,_,_,_,_,by k_is,by k_is,by k_is⟩)
  (case a33=>k_is)
  (case l33=>exact ⟨_,_,_,_,_,_,_,_,by k_is,by k_is,by k_is⟩)
  (case a34=>k_is)
  (case l34=>exact ⟨_,_,_,_,_,_,_,_,by k_is,by k_is,by k_is⟩)
  (case a35=>k_is)
  (case l35=>exact ⟨_,_,_,_,_,_,_,_,by k_is,by k_is,by k_is⟩)
  (case a36=>k_is)
  (case l36=>exact ⟨_,_,_,_,_,_,_,_,by k_is,by k_is,by k_is⟩)
  (case a37=>k_is)
  (case l37=>exact ⟨_,_,_,_,_,_,_,_,by k_is,by k_is,by k_is⟩)
  (case a38=>k_is)
  (case l38=>exact ⟨_,_,_,_,_,_,_,_,by k_is,by k_is,by k_is⟩)
  (case a39=>k_is)
  (case l39=>exact ⟨_,_,_,_,_,_,_,_,by k_is,by k_is,by k_is⟩)
  (case a40=>k_is)
  (case l40=>exact ⟨_,_,_,_,_,_,_,_,by k_is,by k_is,by k_is⟩)
  (case a41=>k_is)
  (case l41=>exact ⟨_,_,_,_,_,_,_,_,by k_is,by k_is,by k_is⟩)
  (case z_all=>k_is)
  (case z_isinstance=>k_is)
  (case z_str=>k_is)
  (case z_len=>k_is)
  (case z_bool=>k_is)
  (case z_int=>k_is)
  (case z_tuple=>k_is)
  (case z_set=>k_is)
  (case z_zip=>k_is)
  (case z_reversed=>k_is)
  (case z_list=>k_is)
  (case z_sorted=>k_is)
  (case z_range=>k_is)
  (case z_enumerate=>k_is)
  (case z_max=>k_is)
  (case g_MOST_LETTERS=>k_is)
  (case g_GREATEST_NUMBER=>k_is)
  (case g_MOST_NAMES=>k_is)
  (case g_MOST_TERMS=>k_is)
  (case g_MOST_STATEMENTS=>k_is)
  (case g_MOST_DEPTH=>k_is)
  (case g_MOST_PARTS=>k_is)
  (case h_pg=>k_is)
  (case h_hd=>k_is)
  (case h_po=>k_is)
  (case h_sa=>k_is)
  (case h_aK=>k_is)
  (case h_aO=>k_is)
  (case h_aN=>k_is)
  (case h_aU=>k_is)
  (case h_aB=>k_is)
  (case h_aT=>k_is)
  (case h_mk=>k_is)
  (case h_kc=>k_is)
  (case g_SIGNS=>k_is)
  (case l_SIGNS=>k_is)
  (case g_FORMS=>k_is)
  (case l_FORMS=>k_is)
  (case l_FORMS0=>k_is)
  (case l_FORMS1=>k_is)
  (case l_FORMS2=>k_is)
  (case l_FORMS3=>k_is)
  (case l_FORMS4=>k_is)
  (case l_FORMS5=>k_is)
  (case l_FORMS6=>k_is)
  (case l_FORMS7=>k_is)
  (case l_FORMS8=>k_is)
  (case l_FORMS9=>k_is)
  (case l_FORMS10=>k_is)
  (case l_FORMS11=>k_is)
  (case l_FORMS12=>k_is)
  (case l_FORMS13=>k_is)
  (case l_FORMS14=>k_is)
  (case l_FORMS15=>k_is)
  (case l_FORMS16=>k_is)
  (case g_HEADS=>k_is)
  (case l_HEADS=>k_is)
  (case l_HEADS0=>k_is)
  (case l_HEADS1=>k_is)
  (case l_HEADS2=>k_is)
  (case g_MEMBERS=>k_is)
  (case l_MEMBERS=>k_is)
  (case g_INNER_KINDS=>k_is)
  (case l_INNER_KINDS=>k_is)
