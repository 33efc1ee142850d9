import PyProof.Rows.All
import Wide.All
import OpenK.AllK
import Wide.FinOn
import PyProof.EqAt
import PyProof.EqKinds
import PyProof.TupleCall
import KE.BitLaws
import Open.SpecLaws
import KE.OsHead
import KE.OsGo
import PyVamato
import PyProof.Rows.SetFrom
import PyProof.SetRoads
import PySem.Challenge.RW_cellpaint_s01_answers
set_option Elab.async false
set_option linter.all false
set_option maxRecDepth 100000
set_option maxHeartbeats 4000000
open Array renaming length_toList → ZT, getElem?_toList → Y2, mem_toList_iff → VB, getD_eq_getD_getElem? → V4
open Bool renaming and_eq_true → Zv, false_ne_true → ZM, false_eq_true → ZR, eq_iff_iff → Yd, or_eq_false_iff → YY, not_eq_true' → Xw, and_false → X4, and_eq_false_iff → Vz, not_true → VC
open Classical renaming byContradiction → ZY
open Eq renaming trans → X0
open Int renaming toNat_of_nonneg → V5
open List renaming length_map → Za, getElem?_eq_some_iff → Zd, mem_cons_of_mem → Ze, length_append → Zj, mem_cons_self → Zm, length_cons → Zo, mem_of_getElem? → Zp, mem_append → Zs, getElem?_eq_getElem → Zu, mem_cons → Zw, mem_iff_getElem? → Zx, getElem?_map → ZA, map_cons → ZB, size_toArray → ZH, mem_singleton → ZI, map_append → ZJ, mem_map → ZS, length_drop → Z5, length_singleton → Z6, getElem?_eq_none → Z7, getD_eq_getElem?_getD → Z8, take_of_length_le → Ya, length_nil → Yc, mem_range → Ye, map_map → Yg, length_take → Yj, filter_cons_of_neg → Yk, filter_cons_of_pos → Yl, mem_append_left → Yo, any_cons → Yt, mem_filter → Yv, mem_append_right → YA, nodup_cons → YB, range_succ → YC, length_range → YF, take_length → YM, length_filter_le → YS, append_nil → Y6, foldl_cons → Y7, filter_append → Y9, lookup_cons → Xc, all_eq_true → Xd, not_mem_nil → Xe, map_congr_left → Xh, getElem?_append_left → Xk, pairwise_iff_getElem → Xl, mem_flatten → Xp, append_assoc → Xv, getElem?_append_right → XI, getElem?_drop → XJ, getElem?_reverse → XN, flatten_cons → XW, mem_of_mem_take → XX, all_cons → XZ, countP_cons → X3, find?_cons → Wf, nodup_nil → Wv, map_nil → Wz, any_eq_true → WA, getElem?_zip_eq_some → WC, replicate_succ → WE, map_drop → WM, getElem?_set_self → W8, any_eq_false → W9, nodup_append → Va, foldl_append → Vb, length_pos_of_mem → Vc, drop_eq_nil_of_le → Vd, ext_getElem? → Ve, getElem?_set_ne → VE, mem_of_mem_drop → VF, nil_append → VQ, filter_nil → VR, length_reverse → V3
open Nat renaming le_trans → Zi, le_refl → Zl, zero_le → ZG, lt_of_lt_of_le → ZX, ne_of_lt → Z0, lt_of_le_of_lt → Z3, mul_le_mul → YE, lt_irrefl → YZ, mul_comm → Y0, le_add_right → Y1, pow_succ → XE, lt_trans → Wa, not_lt_zero → WN, add_sub_cancel → WY, add_comm → Vl, lt_succ_of_lt → Vm, pow_le_pow_right → VM
open Ne renaming symm → Yq
open Option renaming map_eq_some_iff → XC
open Option.some renaming inj → ZC
open Prod.mk renaming injEq → XU
open PyProof.Rows renaming callWith_type1 → Ym
open PyProof.Rows.F renaming plain_set_update_loop → Wg
open PySem renaming wpAny_bind → Zc, wpAny_pure → Zq, mem_of_lookup → Yb, wpAny_holding → YV, wpAny_truthy_bool → YX, wpAny_setState_of → Y8, boot_len → Xz, wpAny_mono → XF, wpAny_Call_Name_kw → Wn, wpAny_passesOwn → Wt, codeAny_builtin → Vf
open PySem.Around renaming under_plainId → Wo
open PySem.Calls renaming spliced_cons → X8, spliced_nil → Wh
open PySem.F renaming plainAttrs_list → Z9, slot_list_append → YK, type_list_append → YL, slot_list_extend → XS, type_list_extend → XT, called_set → WG, slot_list_getattribute → Vn
open PySem.Heap renaming get?_push_of_some → Zz, lt_size → ZF, get?_push_size → ZW, size_push → YD, get?_update_self → Vy
open PySem.Heap.SameBut renaming update → Vo
open PySem.Paired renaming length → Zy
open PySem.PassesOwn renaming never → YH
open PySem.W renaming mg_of → Zg, mg_none_of → ZK
section
namespace L2
open PySem PySem.Spec PyProof.Rows
noncomputable abbrev Key:=Sum Int Str
noncomputable def QJ:Key->Value->Bool
 | .inl k,v=>Value.isInt k v
 | .inr x,v=>Value.isStrOf x v
noncomputable def keyH(w:World):Key->Int
 | .inl k=>hashInt k
 | .inr x=>hashStr w x
theorem XB:∀{k:Key}{v:Value},QJ k v=true->(∃i t,k=Sum.inl i/\v=Value.int i t)\/(∃x t,k=Sum.inr x/\v=Value.str x t)
 | .inl i,v,h=>by
  obtain⟨t,e⟩:=Value.isInt_shape (k:=i) (v:=v) h
  exact .inl ⟨i,t,rfl,e⟩
 | .inr x,v,h=>by
  obtain⟨t,e⟩:=Value.isStrOf_shape (x:=x) (v:=v) h
  exact .inr ⟨x,t,rfl,e⟩
theorem KE(i:Int)(t:Tok):QJ (.inl i) (.int i t)=true:=by simp[QJ,Value.isInt]
theorem KD(x:Str)(t:Tok):QJ (.inr x) (.str x t)=true:=by simp[QJ,Value.isStrOf]
theorem key_ll(a b:Int):decide ((Sum.inl a:Key)=Sum.inl b)=(a==b):=by
 by_cases e:a=b
 ·subst e;simp
 ·have h:¬(Sum.inl a:Key)=Sum.inl b:=fun q=>e (Sum.inl.inj q)
  rw[decide_eq_false h]
  exact(beq_eq_false_iff_ne.mpr e).symm
theorem key_rr(a b:Str):decide ((Sum.inr a:Key)=Sum.inr b)=decide (a=b):=by
 by_cases e:a=b
 ·subst e;simp
 ·have h:¬(Sum.inr a:Key)=Sum.inr b:=fun q=>e (Sum.inr.inj q)
  rw[decide_eq_false h,decide_eq_false e]
theorem key_lr(a:Int)(b:Str):decide ((Sum.inl a:Key)=Sum.inr b)=false:=decide_eq_false (fun q=>nomatch q)
theorem key_rl(a:Str)(b:Int):decide ((Sum.inr a:Key)=Sum.inl b)=false:=decide_eq_false (fun q=>nomatch q)
noncomputable def YJ(prog:Program)(w:World):PySem.KeyKind prog w Key where
 is:=QJ
 hash:=keyH w
 inj:=fun v a b ha hb=>by
  rcases XB ha with⟨i,t,rfl,rfl⟩|⟨x,t,rfl,rfl⟩
  ·rcases XB hb with⟨j,u,rfl,e⟩|⟨y,u,rfl,e⟩
   ·injection e with e1 _;rw[e1]
   ·exact nomatch e
  ·rcases XB hb with⟨j,u,rfl,e⟩|⟨y,u,rfl,e⟩
   ·exact nomatch e
   ·injection e with e1 _;rw[e1]
 byValue:=fun k v h=>by
  rcases XB h with⟨i,t,rfl,rfl⟩|⟨x,t,rfl,rfl⟩<;>rfl
 pyHash:=fun hv h=>by
  rcases XB hv with⟨i,t,rfl,rfl⟩|⟨x,t,rfl,rfl⟩
  ·exact wpAny_pyHash_int h
  ·exact wpAny_pyHash_str h
 eqBool:=fun hu hv h=>by
  rcases XB hu with⟨i,t,rfl,rfl⟩|⟨x,t,rfl,rfl⟩
  ·rcases XB hv with⟨j,u,rfl,rfl⟩|⟨y,u,rfl,rfl⟩
   ·rw[key_ll]at h;exact wpAny_eqBool_int h
   ·rw[key_lr]at h;exact SeqAt.EqAt.int_str i t y u _ _ _ _ h
  ·rcases XB hv with⟨j,u,rfl,rfl⟩|⟨y,u,rfl,rfl⟩
   ·rw[key_rl]at h;exact SeqAt.EqAt.str_int x t j u _ _ _ _ h
   ·rw[key_rr]at h;exact wpAny_eqBool_str h
 «strs»:=fun k x t v h=>by
  rcases XB h with⟨i,u,rfl,e⟩|⟨y,u,rfl,e⟩
  ·exact nomatch e
  ·injection e with e1 _
   subst e1
   cases v<;>rfl
theorem UV(prog:Program)(w:World)(i:Int)(t:Tok):(YJ prog w).is (.inl i) (.int i t)=true:=KE i t
theorem NZ(prog:Program)(w:World)(x:Str)(t:Tok):(YJ prog w).is (.inr x) (.str x t)=true:=KD x t
end L2
namespace L2
open PySem PySem.Spec PyProof.Rows
inductive V where
 |non|bl (b:Bool)|int (i:Int)|str (x:Str)|byt (b:Array UInt8)|flt (b:UInt64)|ref (a:Addr)|ty (n:String)
 deriving DecidableEq
noncomputable def RelV:V->Value->Prop
 | .non,u=>u=Value.none
 | .bl b,u=>u=Value.bool b
 | .int i,u=>∃t,u=Value.int i t
 | .str x,u=>∃t,u=Value.str x t
 | .byt b,u=>∃t,u=Value.bytes b t
 | .flt b,u=>∃t,u=Value.float b t
 | .ref a,u=>u=Value.ref a
 | .ty n,u=>u=Value.type n
noncomputable abbrev Vals:List V->List Value->Prop:=Paired RelV
theorem Vals.length{xs:List V}{us:List Value}(r:Vals xs us):xs.length=us.length:=Zy r
theorem Vals.get:∀{xs:List V}{us:List Value}{i:Nat}{x:V},Vals xs us->xs[i]?=some x->∃u,us[i]?=some u/\RelV x u
 |_,_,_,_,.nil,e=>by simp at e
 |_,_,0,_,.cons r _,e=>by simp at e;subst e;exact⟨_,rfl,r⟩
 |_,_,i+1,x,.cons _ t,e=>by
  obtain⟨u,h1,h2⟩:=Vals.get (i:=i) (x:=x) t (by simpa using e)
  exact⟨u,by simpa using h1,h2⟩
theorem Vals.set{x:V}{u:Value}(r:RelV x u):∀{xs:List V}{us:List Value}(i:Nat),Vals xs us->Vals (xs.set i x) (us.set i u)
 |_,_,_,.nil=>.nil
 |_,_,0,.cons _ t=>.cons r t
 |_,_,i+1,.cons q t=>.cons q (Vals.set r i t)
theorem Vals.append:∀{xs ys:List V}{us ws:List Value},Vals xs us->Vals ys ws->Vals (xs++ys) (us++ws)
 |_,_,_,_,.nil,s=>s
 |_,_,_,_,.cons r t,s=>.cons r (Vals.append t s)
theorem Vals.take:∀{xs:List V}{us:List Value}(n:Nat),Vals xs us->Vals (xs.take n) (us.take n)
 |_,_,0,_=>.nil
 |_,_,_+1,.nil=>.nil
 |_,_,n+1,.cons r t=>.cons r (Vals.take n t)
theorem Vals.drop:∀{xs:List V}{us:List Value}(n:Nat),Vals xs us->Vals (xs.drop n) (us.drop n)
 |_,_,0,r=>r
 |_,_,_+1,.nil=>.nil
 |_,_,n+1,.cons _ t=>Vals.drop n t
noncomputable def RelO:Option V->Option Value->Prop
 |some v,some u=>RelV v u
 |none,none=>True
 |_,_=>False
noncomputable def KV{κ:Type}:List (κ×V)->List (κ×Value)->Prop:=Paired fun(p:κ×V) (q:κ×Value)=>p.1=q.1/\RelV p.2 q.2
noncomputable def kV:Key->V
 | .inl i=>.int i
 | .inr x=>.str x
inductive HO where
 |lst (xs:List V)
 |tup (xs:List V)
 |dK (kvs:List (Key×V))|dT (kvs:List (List Key×V))
 |set (S:Int->Bool) (n:Nat)
 |ins (C dx:Addr) (fs:List (Str×V))
 |own (x:Addr)
 |xd (fs:List (Str×V))
 |met (f x:Addr)
 |rng (lo hi:Int)
 |frz (o:Obj) (u:HO)
 |tbl (ps:Array Value)
 |ext (φ:Heap->Prop)
noncomputable abbrev Hp:=Addr->Option HO
noncomputable def upd(H:Hp)(a:Addr)(o:HO):Hp:=fun b=>if b=a then some o else H b
theorem Zf{H:Hp}{a:Addr}{o:HO}:upd H a o a=some o:=by unfold upd;rw[if_pos rfl]
theorem Zt{H:Hp}{a b:Addr}{o:HO}(h:b≠a):upd H a o b=H b:=by unfold upd;rw[if_neg h]
theorem We{H:Hp}{a b:Addr}{o u:HO}(h:H a=some o)(h':H b=some u)(d:o≠u):a≠b:=by
 intro e;subst e;rw[h]at h';exact d (ZC h')
theorem ZD{H:Hp}{a b:Addr}{o:HO}(h:H a=some o)(h':H b=none):a≠b:=by
 intro e;subst e;rw[h]at h';cases h'
section
variable(P:Program)(w:World)
noncomputable def Wu(H:Hp)(h:Heap)(a:Addr):HO->Prop
 | .lst xs=>xs.length<=sizeLine/\∃(its:List Value)(n:Nat),Vals xs its/\h.get? a=some {cls:=.type "list",data:=.seq its.toArray n}
 | .tup xs=>xs.length<=sizeLine/\∃its:List Value,Vals xs its/\IsTup h a its.toArray
 | .dK kvs=>kvs.length<=sizeLine/\(a==sysModules)=false/\∃vs,KV kvs vs/\h.DictOf (YJ P w) a vs
 | .dT kvs=>kvs.length<=sizeLine/\(a==sysModules)=false/\∃xs:List (List Key×Addr×Value),
   Paired (fun(p:List Key×V) (q:List Key×Addr×Value)=>p.1=q.1/\H q.2.1=some (.tup (p.1.map kV))/\RelV p.2 q.2.2) kvs xs/\
   ∃o es ep,h.get? a=some o/\o.ExactDict/\o.data=.dict es ep/\es.toList=xs.map (entryOfKey (tupleKind (YJ P w)))/\(xs.map (·.1)).Nodup
 | .set S n=>h.SetOf (intKind P w) a S n
 | .ins C dx fs=>H dx=some (.own a)/\fs.length<=1000/\dx≠a/\h.get? a=some (PySem.W.instObj C dx)/\
   ∃mA,h.Ns1 dx mA/\(∀f,RelO (fs.lookup f) (mA f))/\PySem.Within mA (fs.map (·.1))
 | .own _=>∃o,h.get? a=some o
 | .xd fs=>∃mA,h.Ns1 a mA/\∀f,RelO (fs.lookup f) (mA f)
 | .rng lo hi=>∃t u v,h.get? a=some {cls:=.type "range",data:=.fields #[.int lo t,.int hi u,.int 1 v]}
 | .frz o u=>h.get? a=some o/\Wu H h a u
 | .tbl ps=>h.get? a=some {cls:=.none,data:=.fields ps}
 | .met f x=>h.get? a=some (PySem.W.methodObj (.ref f) (.ref x))
 | .ext φ=>φ h/\(∃o,h.get? a=some o)/\∀h1 h2:Heap,φ h1->(∀o,h1.get? a=some o->h2.get? a=some o)->φ h2
noncomputable def HOk(H:Hp)(h:Heap):Prop:=∀a o,H a=some o->Wu P w H h a o
end
section
variable{P:Program}{w:World}{H H':Hp}{h h':Heap}{a:Addr}{o:HO}
theorem Wu.lt(x:Wu P w H h a o):a<h.objs.size:=by
 cases o with
 |lst xs=>obtain⟨_,_,_,_,e⟩:=x;exact ZF e
 |tup xs=>obtain⟨_,_,_,p⟩:=x;exact p.lt
 |dK kvs=>obtain⟨_,_,_,_,o,_,_,e,_⟩:=x;exact ZF e
 |dT kvs=>obtain⟨_,_,_,_,o,_,_,e,_⟩:=x;exact ZF e
 |set S n=>obtain⟨o,_,_,_,e,_⟩:=x;exact ZF e
 |ins C dx fs=>obtain⟨_,_,_,e,_⟩:=x;exact ZF e
 |own y=>obtain⟨_,e⟩:=x;exact ZF e
 |xd fs=>obtain⟨_,⟨_,_,_,e,_⟩,_⟩:=x;exact ZF e
 |rng lo hi=>obtain⟨_,_,_,e⟩:=x;exact ZF e
 |frz ob u=>obtain⟨e,_⟩:=x;exact ZF e
 |tbl ps=>exact ZF (show h.get? a=some _ from x)
 |met f y=>exact ZF (show h.get? a=some _ from x)
 |ext φ=>obtain⟨_,⟨_,e⟩,_⟩:=x;exact ZF e
theorem Paired.mapP{α β:Type}{F G:α->β->Prop}:∀{l₁:List α}{l₂:List β},Paired F l₁ l₂->(∀a b,F a b->G a b)->Paired G l₁ l₂
 |_,_,.nil,_=>.nil
 |_,_,.cons r t,f=>.cons (f _ _ r) (Paired.mapP t f)
theorem Wu.stay(x:Wu P w H h a o)(k:∀b u,(b=a\/H b=some (.own a))->h.get? b=some u->h'.get? b=some u)
  (ho:∀b,H b=some (.own a)->H' b=some (.own a)) (ht:∀b xs,H b=some (.tup xs)->H' b=some (.tup xs)):Wu P w H' h' a o:=by
 induction o with
 |lst xs=>obtain⟨z,its,n,r,e⟩:=x;exact⟨z,its,n,r,k _ _ (.inl rfl) e⟩
 |tup xs=>obtain⟨z,its,r,ob,e,c⟩:=x;exact⟨z,its,r,ob,k _ _ (.inl rfl) e,c⟩
 |dK kvs=>obtain⟨z,y,vs,r,ob,es,ep,e,c⟩:=x;exact⟨z,y,vs,r,ob,es,ep,k _ _ (.inl rfl) e,c⟩
 |dT kvs=>
  obtain⟨z,y,xs,r,ob,es,ep,e,c⟩:=x
  exact⟨z,y,xs,Paired.mapP r fun p q z=>⟨z.1,ht _ _ z.2.1,z.2.2⟩,ob,es,ep,k _ _ (.inl rfl) e,c⟩
 |set S n=>obtain⟨ob,es,ep,t,e,c⟩:=x;exact⟨ob,es,ep,t,k _ _ (.inl rfl) e,c⟩
 |ins C dx fs=>
  obtain⟨d,z,ne,e,mA,⟨od,es,ep,e2,c⟩,r⟩:=x
  exact⟨ho _ d,z,ne,k _ _ (.inl rfl) e,mA,⟨od,es,ep,k _ _ (.inr d) e2,c⟩,r⟩
 |own y=>obtain⟨ob,e⟩:=x;exact⟨ob,k _ _ (.inl rfl) e⟩
 |xd fs=>obtain⟨mA,⟨od,es,ep,e,c⟩,r⟩:=x;exact⟨mA,⟨od,es,ep,k _ _ (.inl rfl) e,c⟩,r⟩
 |rng lo hi=>obtain⟨t,u,v,e⟩:=x;exact⟨t,u,v,k _ _ (.inl rfl) e⟩
 |frz ob u ih=>obtain⟨e,q⟩:=x;exact⟨k _ _ (.inl rfl) e,ih q⟩
 |tbl ps=>
  have e:h.get? a=some {cls:=.none,data:=.fields ps}:=x
  show h'.get? a=some {cls:=.none,data:=.fields ps}
  exact k a _ (.inl rfl) e
 |met f y=>
  have e:h.get? a=some (PySem.W.methodObj (.ref f) (.ref y)):=x
  show h'.get? a=some (PySem.W.methodObj (.ref f) (.ref y))
  exact k a _ (.inl rfl) e
 |ext φ=>obtain⟨p,⟨o,e⟩,st⟩:=x;exact⟨st _ _ p fun o q=>k _ _ (.inl rfl) q,⟨o,k _ _ (.inl rfl) e⟩,st⟩
theorem HOk.lt(x:HOk P w H h)(e:H a=some o):a<h.objs.size:=(x a o e).lt
theorem HOk.fresh(x:HOk P w H h)(e:h.objs.size<=a):H a=none:=by
 cases q:H a with
 |none=>rfl
 |some u=>exact absurd (ZX (x.lt q) e) (YZ _)
theorem HOk.kept(x:HOk P w H h)(k:∀b u,h.get? b=some u->h'.get? b=some u):HOk P w H h':=fun a o e=>
 (x a o e).stay (fun b u _ q=>k b u q) (fun _ q=>q) fun _ _ q=>q
theorem HOk.laid(x:HOk P w H h)(k:∀b u,h.get? b=some u->h'.get? b=some u)(hp:h.objs.size<=a)(new:Wu P w (upd H a o) h' a o):HOk P w (upd H a o) h':=fun b u e=>by
 have hn:=x.fresh hp
 by_cases hb:b=a
 ·subst hb;rw[Zf]at e;cases e;exact new
 ·rw[Zt hb]at e
  exact(x b u e).stay (fun c v _ q=>k c v q) (fun c q=>by rw[Zt (ZD q hn)];exact q) fun c xs q=>by rw[Zt (ZD q hn)];exact q
end
noncomputable def Rd(H:Hp)(a:Addr)(u:HO):Prop:=H a=some u\/∃o,H a=some (.frz o u)
theorem Rd.ok{P:Program}{w:World}{H:Hp}{h:Heap}{a:Addr}{u:HO}(r:Rd H a u)(x:HOk P w H h):Wu P w H h a u:=by
 rcases r with r|⟨o,r⟩
 ·exact x a u r
 ·obtain⟨_,q⟩:=x a _ r
  exact q
noncomputable def Mut:Option HO->Prop
 |some (.lst _)=>True
 |some (.dK _)=>True
 |some (.dT _)=>True
 |some (.set _ _)=>True
 |some (.ins _ _ _)=>True
 |some (.ext _)=>True
 |_=>False
section
variable{P:Program}{w:World}{H:Hp}{h h':Heap}{x e:Addr}{o':HO}
theorem HOk.write(ok:HOk P w H h)(mu:Mut (H x))(he:e=x\/H e=some (.own x))(k:∀b u,b≠e->h.get? b=some u->h'.get? b=some u)(heo:∃u,h'.get? e=some u)
  (new:Wu P w (upd H x o') h' x o'):HOk P w (upd H x o') h':=fun b u q=>by
 have nown:∀c y,H c=some (.own y)->c≠x:=fun c y r z=>by subst z;rw[r]at mu;exact mu
 have ntup:∀c xs,H c=some (.tup xs)->c≠x:=fun c xs r z=>by subst z;rw[r]at mu;exact mu
 by_cases hb:b=x
 ·subst hb;rw[Zf]at q;cases q;exact new
 ·rw[Zt hb]at q
  by_cases hbe:b=e
  ·have q':H b=some (.own x):=by
    rcases he with z|z
    ·exact absurd (hbe.trans z) hb
    ·rw[hbe];exact z
   rw[q]at q';cases q'
   obtain⟨v,hv⟩:=heo
   exact⟨v,by rw[hbe];exact hv⟩
  ·refine(ok b u q).stay (fun c v hc r=>k c v ?_ r) (fun c r=>by rw[Zt (nown c b r)];exact r) fun c xs r=>by rw[Zt (ntup c xs r)];exact r
   rcases hc with rfl|hc
   ·exact hbe
   ·rintro rfl
    rcases he with z|z
    ·exact nown c b hc z
    ·rw[hc]at z;cases z;exact hb rfl
end
structure Un(fs ex:List Addr)(H H':Hp)(h h':Heap):Prop where
 keep:∀b o,h.get? b=some o->H b=none->b∉fs->b∉ex->h'.get? b=some o
 slot:∀b o,h.get? b=some o->H b=none->b∈fs->b∉ex->∃sl,h'.get? b=some {o with slots:=sl}
 free:∀b o,h.get? b=some o->H b=none->b∉ex->H' b=none
 there:∀b o,h.get? b=some o->b∉ex->∃o',h'.get? b=some o'
 tups:∀b xs,H b=some (.tup xs)->H' b=some (.tup xs)
 frzs:∀b o u,H b=some (.frz o u)->H' b=some (.frz o u)
 tbls:∀b ps,H b=some (.tbl ps)->∃more,H' b=some (.tbl (ps++more))
section
variable{fs fs' ex ex':List Addr}{H H1 H2:Hp}{h h1 h2 h':Heap}{a x e:Addr}{o:HO}
theorem Un.any(u:Un fs ex H H1 h h1){b:Addr}{ob:Obj}(q:h.get? b=some ob)(n:H b=none)(hx:b∉ex):∃sl,h1.get? b=some {ob with slots:=sl}:=by
 by_cases hb:b∈fs
 ·exact u.slot b ob q n hb hx
 ·exact⟨ob.slots,u.keep b ob q n hb hx⟩
theorem Un.kept(k:∀b u,h.get? b=some u->h'.get? b=some u):Un fs ex H H h h':=
 ⟨fun b ob q _ _ _=>k b ob q,fun b ob q _ _ _=>⟨ob.slots,k b ob q⟩,fun _ _ _ n _=>n,fun b ob q _=>⟨ob,k b ob q⟩,fun _ _ q=>q,fun _ _ _ q=>q,fun _ ps q=>⟨#[],by rw[q];simp⟩⟩
theorem Un.refl:Un fs ex H H h h:=Un.kept fun _ _ q=>q
theorem Un.laid(k:∀b u,h.get? b=some u->h'.get? b=some u)(hp:h.objs.size<=a)(hn:H a=none):Un fs ex H (upd H a o) h h' where
 keep:=fun b u q _ _ _=>k b u q
 slot:=fun b u q _ _ _=>⟨u.slots,k b u q⟩
 free:=fun b u q n _=>by rw[Zt (Z0 (ZX (ZF q) hp))];exact n
 there:=fun b u q _=>⟨u,k b u q⟩
 tups:=fun b xs q=>by rw[Zt (ZD q hn)];exact q
 frzs:=fun b u xs q=>by rw[Zt (ZD q hn)];exact q
 tbls:=fun b ps q=>⟨#[],by rw[Zt (ZD q hn),q];simp⟩
theorem Un.write(mu:Mut (H x))(he:e=x\/H e=some (.own x))(k:∀b u,b≠e->h.get? b=some u->h'.get? b=some u)(heo:∃u,h'.get? e=some u):Un fs ex H (upd H x o) h h':=by
 have hx:∀b,H b=none->b≠x:=fun b n z=>by subst z;rw[n]at mu;exact mu
 have hb:∀b,H b=none->b≠e:=fun b n z=>by
  subst z
  rcases he with r|r
  ·exact hx b n r
  ·rw[n]at r;cases r
 have hm:∀b u,H b=some u->¬Mut (some u)->b≠x:=fun b u q nm z=>by subst z;rw[q]at mu;exact nm mu
 refine⟨fun b u q n _ _=>k b u (hb b n) q,fun b u q n _ _=>⟨u.slots,k b u (hb b n) q⟩,fun b u q n _=>by rw[Zt (hx b n)];exact n,fun b u q _=>?_,
  fun b xs q=>by rw[Zt (hm b _ q fun z=>z)];exact q,fun b u xs q=>by rw[Zt (hm b _ q fun z=>z)];exact q,fun b ps q=>⟨#[],by rw[Zt (hm b _ q fun z=>z),q];simp⟩⟩
 by_cases hbe:b=e
 ·subst hbe;exact heo
 ·exact⟨u,k b u hbe q⟩
end
noncomputable def trk(h:Heap)(H:Hp):List Addr:=(List.range h.objs.size).filter fun a=>(H a).isSome
noncomputable def hidT(h:Heap)(H:Hp):Heap:=PySem.W.hideAll h (trk h H)
theorem KG(h:Heap)(H:Hp):(hidT h H).objs.size=h.objs.size:=PySem.W.hideAll_size _ _
theorem hidT_get{h:Heap}{H:Hp}{b:Addr}{o:Obj}(e:h.get? b=some o)(n:H b=none):(hidT h H).get? b=some o:=
 PySem.W.hideAll_get _ e fun hm=>by
  have q:(H b).isSome=true:=(Yv.mp hm).2
  rw[n]at q;simp at q
theorem of_hidT{h:Heap}{H:Hp}{b:Addr}{o:Obj}(e:(hidT h H).get? b=some o):h.get? b=some o/\H b=none:=by
 have e':h.get? b=some o:=PySem.W.of_hideAll (trk h H) e
 refine⟨e',?_⟩
 cases q:H b with
 |none=>rfl
 |some x=>
  have hm:b∈trk h H:=Yv.mpr ⟨Ye.mpr (ZF e'),by simp[q]⟩
  have z:(hidT h H).get? b=none:=PySem.W.hideAll_none (trk h H) hm
  rw[z]at e;cases e
end L2
namespace L2
open PySem PySem.Spec PyProof.Rows
structure Mod(K:PySem.W.Frag)(mg:Str->Option Value)(base:Heap):Prop where
 kin:K.In base
 glob:base.Ns mainGlobals mg
 blt:∃mb,base.Ns builtinsNs mb/\∀x:Str,x≠"__name__"->mb x=bootBuiltins x
 nolimit:base.NoLimit
structure Cx where
 prog:Program
 w:World
 K:PySem.W.Frag
 mg:Str->Option Value
 base:Heap
 A:Around
 N:List Str
 s_0:Shared
 H_0:Hp
 env:Env
 outer:List Env
 stack:List Env
 ex:List Addr
 fn:Str->Bool
 calm:Bool
 pn:List (Addr×Obj)
 xe:Value->Shared->Prop
noncomputable def frs(l:List Env):List Addr:=l.filterMap (·.frame)
noncomputable abbrev Cx.fs(X:Cx):List Addr:=frs X.outer
noncomputable def Vis(sc:Scope)(x:Str):Prop:=sc.names.lookup x=some .local\/sc.names.lookup x=some .cell\/sc.names.lookup x=some .free
noncomputable def Loc(sc:Scope)(x:Str):Prop:=sc.names.lookup x=some .local\/sc.names.lookup x=some .cell
noncomputable def Look(env:Env)(h:Heap)(m:Str->Option Value)(x:Str)(u:Value):Prop:=
 (env.kindOf x=some .local/\m x=some u)\/((env.kindOf x=some .cell\/env.kindOf x=some .free)/\∃c,env.cells.lookup x=some c/\h.IsCell c (some u))
structure Cx.Ok(X:Cx):Prop where
 mod:Mod X.K X.mg X.base
 kind:X.env.scope.kind=.function
 glob:X.env.globals=mainGlobals
 blt:X.env.builtins=builtinsNs
 above:X.s_0.heap.objs.size<=X.env.locals
 inj:∀x y c,X.env.cells.lookup x=some c->X.env.cells.lookup y=some c->x=y
 has:∀x,(X.env.kindOf x=some .cell\/X.env.kindOf x=some .free)->∃c,X.env.cells.lookup x=some c
 cab:∀x c,X.fn x=true->X.env.cells.lookup x=some c->X.s_0.heap.objs.size<=c
 hd:X.calm=true->X.A.handled=none
 frames:X.A.frames=some X.stack
 stk:X.stack=X.outer\/(X.stack=X.env::X.outer/\X.env.frame=some X.env.locals)
 exf:∀b∈X.ex,b≠X.env.locals/\∀x c,X.env.cells.lookup x=some c->c≠b
 bs:∀b o,X.base.get? b=some o->X.s_0.heap.get? b=some o/\X.H_0 b=none
 bsz:X.base.objs.size<=X.s_0.heap.objs.size
 noex:∀b o,X.base.get? b=some o->b∉X.ex
 exfs:∀b∈X.ex,b∉X.fs
 funs:X.s_0.heap.FunFrames X.base X.outer
 frf:∀b∈X.fs,X.H_0 b=none
structure Inv(X:Cx)(pins:List (Addr×Obj))(σ:List (Option V))(H:Hp)(s:Shared):Prop where
 ok:X.Ok
 os:s.os=X.s_0.os
 bare:AllBare s.gens
 base:Un X.fs X.ex X.H_0 H X.s_0.heap s.heap
 loc:∃m,s.heap.Ns X.env.locals m/\∀(i:Nat)(x:Str)(v:V),X.N[i]?=some x->σ[i]?=some (some v)->Vis X.env.scope x->∃u,RelV v u/\Look X.env s.heap m x u
 cell:∀x c,X.env.cells.lookup x=some c->∃v,s.heap.IsCell c v
 free:H X.env.locals=none
 freeC:∀x c,X.env.cells.lookup x=some c->H c=none
 pin:∀p∈X.pn++pins,s.heap.get? p.1=some p.2/\H p.1=none/\p.1≠X.env.locals/\p.1∉X.fs/\∀v,p.2.data≠ .cell v
 hok:HOk X.prog X.w H s.heap
 len:σ.length=X.N.length
section
variable{X:Cx}{pins:List (Addr×Obj)}{σ:List (Option V)}{H H':Hp}{s:Shared}{h':Heap}
theorem Cx.Ok.nofr(ok:X.Ok){b:Addr}{o:Obj}(e:X.base.get? b=some o):b∉X.fs:=fun hb=>by
 have:=(ok.funs.mem hb).1
 rw[e]at this;cases this
theorem Inv.bs(I:Inv X pins σ H s):∀b o,X.base.get? b=some o->s.heap.get? b=some o/\H b=none:=fun b o e=>
 ⟨I.base.keep b o (I.ok.bs b o e).1 (I.ok.bs b o e).2 (I.ok.nofr e) (I.ok.noex b o e),I.base.free b o (I.ok.bs b o e).1 (I.ok.bs b o e).2 (I.ok.noex b o e)⟩
theorem Inv.bk(I:Inv X pins σ H s):∀b o,X.base.get? b=some o->s.heap.get? b=some o:=fun b o e=>(I.bs b o e).1
theorem Inv.mod(I:Inv X pins σ H s):Mod X.K X.mg X.base:=I.ok.mod
theorem Inv.kIn(I:Inv X pins σ H s):X.K.In s.heap:=I.ok.mod.kin.keeps I.bk
theorem Inv.lt(I:Inv X pins σ H s):X.env.locals<s.heap.objs.size:=let⟨_,hn,_⟩:=I.loc;hn.lt
theorem Inv.sz(I:Inv X pins σ H s):X.s_0.heap.objs.size<=s.heap.objs.size:=Zi I.ok.above (Nat.le_of_lt I.lt)
theorem Inv.nofs(I:Inv X pins σ H s){a:Addr}(h:s.heap.objs.size<=a):a∉X.fs:=fun hb=>by
 obtain⟨_,o,ho,_⟩:=I.ok.funs.mem hb
 exact absurd (ZX (ZF ho) (Zi I.sz h)) (YZ _)
theorem Inv.cne(I:Inv X pins σ H s):∀x c,X.env.cells.lookup x=some c->c≠X.env.locals:=fun x c e z=>by
 obtain⟨v,o,ho,hd⟩:=I.cell x c e
 obtain⟨m,⟨o',es,ep,ho',hd',_⟩,_⟩:=I.loc
 rw[z,ho']at ho;cases ho;rw[hd']at hd;cases hd
theorem Inv.funs(I:Inv X pins σ H s):s.heap.FunFrames X.base X.outer:=by
 have all:∀(l:List Env),(∀b∈frs l,b∈X.fs)->X.s_0.heap.FunFrames X.base l->s.heap.FunFrames X.base l:=by
  intro l
  induction l with
  |nil=>intro _ _;trivial
  |cons env r ih=>
   intro hs hl
   obtain⟨hk,⟨L,o,hf,hn,ho,hd⟩,hr⟩:=hl
   have hL:L∈X.fs:=hs L (by unfold frs;rw[List.filterMap_cons,hf];exact Zm)
   obtain⟨sl,e⟩:=I.base.slot L o ho (I.ok.frf L hL) hL fun z=>I.ok.exfs L z hL
   exact⟨hk,⟨L,_,hf,hn,e,hd⟩,ih (fun b hb=>hs b (by unfold frs;rw[List.filterMap_cons,hf];exact Ze _ hb)) hr⟩
 exact all X.outer (fun _ hb=>hb) I.ok.funs
theorem Inv.stack(I:Inv X pins σ H s):s.heap.FunFrames X.base X.stack:=by
 rcases I.ok.stk with e|⟨e,hf⟩
 ·rw[e];exact I.funs
 ·rw[e]
  obtain⟨m,hn,_⟩:=I.loc
  refine .cons (by rw[I.ok.kind];decide) hf hn ?_ I.funs
  exact Heap.get?_none_of_le (Zi I.ok.bsz I.ok.above)
theorem Inv.stkSub(I:Inv X pins σ H s):∀b∈frs X.stack,b∈X.env.locals::X.fs:=fun b hb=>by
 rcases I.ok.stk with e|⟨e,hf⟩
 ·rw[e]at hb;exact Ze _ hb
 ·rw[e]at hb
  unfold frs at hb
  rw[List.filterMap_cons,hf]at hb
  exact hb
theorem Inv.stkFree(I:Inv X pins σ H s):∀b∈frs X.stack,H b=none:=fun b hb=>by
 rcases Zw.mp (I.stkSub b hb)with e|hb
 ·rw[e];exact I.free
 ·obtain⟨_,o,ho,_⟩:=I.ok.funs.mem hb
  exact I.base.free b o ho (I.ok.frf b hb) fun z=>I.ok.exfs b z hb
theorem Inv.step{g':Array GenState}{t':Nat}{d':Drawn}{ch:List Addr}(I:Inv X pins σ H s)
  (hch:∀b∈ch,(b∈X.ex\/X.s_0.heap.objs.size<=b)/\b≠X.env.locals/\(∀x c,X.env.cells.lookup x=some c->c≠b)/\∀p∈X.pn++pins,p.1≠b)
  (keep:∀b o,b≠X.env.locals->b∉X.fs->b∉ch->s.heap.get? b=some o->H b=none->h'.get? b=some o)
  (slot:∀b o,b≠X.env.locals->b∈X.fs->b∉ch->s.heap.get? b=some o->H b=none->∃sl,h'.get? b=some {o with slots:=sl}) (free:∀b o,b∉ch->s.heap.get? b=some o->H b=none->H' b=none)
  (there:∀b o,b∉ch->s.heap.get? b=some o->∃o',h'.get? b=some o')
  (tups:∀b xs,H b=some (.tup xs)->H' b=some (.tup xs)) (frzs:∀b o u,H b=some (.frz o u)->H' b=some (.frz o u)) (tbls:∀b ps,H b=some (.tbl ps)->∃more,H' b=some (.tbl (ps++more)))
  (ns:∀m,s.heap.Ns X.env.locals m->h'.Ns X.env.locals m) (hok:HOk X.prog X.w H' h') (hg:AllBare g'):
  Inv X pins σ H' {s with heap:=h',gens:=g',drawn:=d',toks:=t'}:=by
 have neL:∀b o,X.s_0.heap.get? b=some o->b≠X.env.locals:=fun b o e=>Z0 (ZX (ZF e) I.ok.above)
 have neC:∀b o,X.s_0.heap.get? b=some o->b∉X.ex->b∉ch:=fun b o e hx hb=>by
  rcases(hch b hb).1 with z|z
  ·exact hx z
  ·exact absurd (ZX (ZF e) z) (YZ _)
 have cellK:∀x c,X.env.cells.lookup x=some c->∀v,s.heap.IsCell c v->h'.IsCell c v:=fun x c e v ⟨o,ho,hd⟩=>by
  have nch:c∉ch:=fun z=>(hch c z).2.2.1 x c e rfl
  by_cases hc:c∈X.fs
  ·obtain⟨sl,q⟩:=slot c o (I.cne x c e) hc nch ho (I.freeC x c e)
   exact⟨_,q,hd⟩
  ·exact⟨o,keep c o (I.cne x c e) hc nch ho (I.freeC x c e),hd⟩
 refine⟨I.ok,I.os,hg,⟨fun b o e n hb hx=>?_,fun b o e n hb hx=>?_,fun b o e n hx=>?_,fun b o e hx=>?_,fun b xs e=>tups b xs (I.base.tups b xs e),fun b o xs e=>frzs b o xs (I.base.frzs b o xs e),fun b ps e=>?_⟩,?_,fun x c e=>?_,?_,fun x c e=>?_,fun p hp=>?_,hok,I.len⟩
 ·exact keep b o (neL b o e) hb (neC b o e hx) (I.base.keep b o e n hb hx) (I.base.free b o e n hx)
 ·obtain⟨sl,e1⟩:=I.base.slot b o e n hb hx
  obtain⟨sl',e2⟩:=slot b _ (neL b o e) hb (neC b o e hx) e1 (I.base.free b o e n hx)
  exact⟨sl',e2⟩
 ·obtain⟨o',e1⟩:=I.base.there b o e hx
  exact free b o' (neC b o e hx) e1 (I.base.free b o e n hx)
 ·obtain⟨o',e1⟩:=I.base.there b o e hx
  exact there b o' (neC b o e hx) e1
 ·obtain⟨m1,e1⟩:=I.base.tbls b ps e
  obtain⟨m2,e2⟩:=tbls b _ e1
  exact⟨m1++m2,by rw[e2,Array.append_assoc]⟩
 ·obtain⟨m,hn,hl⟩:=I.loc
  refine⟨m,ns m hn,fun i x v e1 e2 e3=>?_⟩
  obtain⟨u,r,l⟩:=hl i x v e1 e2 e3
  refine⟨u,r,?_⟩
  rcases l with l|⟨k,c,e,z⟩
  ·exact .inl l
  ·exact .inr ⟨k,c,e,cellK x c e _ z⟩
 ·obtain⟨v,z⟩:=I.cell x c e
  exact⟨v,cellK x c e v z⟩
 ·obtain⟨m,⟨o,_,_,ho,_⟩,_⟩:=I.loc
  exact free _ o (fun z=>(hch _ z).2.1 rfl) ho I.free
 ·obtain⟨v,o,ho,hd⟩:=I.cell x c e
  exact free c o (fun z=>(hch c z).2.2.1 x c e rfl) ho (I.freeC x c e)
 ·obtain⟨e,n,ne,nf,d⟩:=I.pin p hp
  have nch:p.1∉ch:=fun z=>(hch p.1 z).2.2.2 p hp rfl
  exact⟨keep p.1 p.2 ne nf nch e n,free p.1 p.2 nch e n,ne,nf,d⟩
theorem Inv.un{t':Nat}(I:Inv X pins σ H s)(u:Un X.fs [] H H' s.heap h')(hok:HOk X.prog X.w H' h'):Inv X pins σ H' {s with heap:=h',toks:=t'}:=by
 obtain⟨m,⟨o,es,ep,ho,r⟩,_⟩:=id I.loc
 obtain⟨sl,hL⟩:=u.any ho I.free (by simp)
 exact I.step (g':=s.gens) (d':=s.drawn) (ch:=[]) (fun _ z=>nomatch z) (fun b o _ hb _ e n=>u.keep b o e n hb (by simp)) (fun b o _ hb _ e n=>u.slot b o e n hb (by simp)) (fun b o _ e n=>u.free b o e n (by simp)) (fun b o _ e=>u.there b o e (by simp)) u.tups u.frzs u.tbls (fun m' hm=>by
  obtain⟨o',es',ep',ho',r'⟩:=hm
  rw[ho]at ho';cases ho'
  exact⟨_,es',ep',hL,r'⟩) hok I.bare
theorem Inv.call{g':Array GenState}{t':Nat}{d':Drawn}{ch:List Addr}(I:Inv X pins σ H s)(u:Un (frs X.stack) ch H H' s.heap h')(hok:HOk X.prog X.w H' h')(hg:AllBare g')
  (hch:∀b∈ch,(b∈X.ex\/X.s_0.heap.objs.size<=b)/\b≠X.env.locals/\(∀x c,X.env.cells.lookup x=some c->c≠b)/\∀p∈X.pn++pins,p.1≠b):
  Inv X pins σ H' {s with heap:=h',gens:=g',drawn:=d',toks:=t'}:=by
 obtain⟨m,⟨o,es,ep,ho,r⟩,_⟩:=id I.loc
 obtain⟨sl,hL⟩:=u.any ho I.free fun z=>(hch _ z).2.1 rfl
 exact I.step (ch:=ch) hch (fun b o hL hb hc e n=>u.keep b o e n (fun z=>(Zw.mp (I.stkSub b z)).elim hL hb) hc) (fun b o _ _ hc e n=>u.any e n hc) (fun b o hc e n=>u.free b o e n hc) (fun b o hc e=>u.there b o e hc) u.tups u.frzs u.tbls (fun m' hm=>by
  obtain⟨o',es',ep',ho',r'⟩:=hm
  rw[ho]at ho';cases ho'
  exact⟨_,es',ep',hL,r'⟩) hok hg
theorem Inv.turned{t':Nat}{it:Addr}(I:Inv X pins σ H s)(k:∀b o,b≠it->s.heap.get? b=some o->h'.get? b=some o)(hn:H it=none)(hL:it≠X.env.locals)
  (h1:it∈X.ex\/X.s_0.heap.objs.size<=it) (h2:∀x c,X.env.cells.lookup x=some c->c≠it) (h3:∀p∈X.pn++pins,p.1≠it):Inv X pins σ H {s with heap:=h',toks:=t'}:=by
 have nit:∀b u,H b=some u->b≠it:=fun b u e z=>by rw[z,hn]at e;cases e
 refine I.step (g':=s.gens) (d':=s.drawn) (ch:=[it]) (fun b hb=>?_) (fun b o _ _ hc e _=>k b o (fun z=>hc (by simp[z])) e) (fun b o _ _ hc e _=>⟨o.slots,k b o (fun z=>hc (by simp[z])) e⟩) (fun _ _ _ _ n=>n)
  (fun b o hc e=>⟨o,k b o (fun z=>hc (by simp[z])) e⟩) (fun _ _ e=>e) (fun _ _ _ e=>e) (fun b ps e=>⟨#[],by rw[e];simp⟩) (fun m hm=>?_) (fun b u e=>?_) I.bare
 ·have e:b=it:=by simpa using hb
  subst e
  exact⟨h1,hL,h2,h3⟩
 ·obtain⟨o,es,ep,ho,r⟩:=hm
  exact⟨o,es,ep,k _ o (Yq hL) ho,r⟩
 ·refine(I.hok b u e).stay (fun c v hc q=>k c v ?_ q) (fun _ q=>q) fun _ _ q=>q
  rcases hc with z|z
  ·rw[z];exact nit b u e
  ·exact nit c _ z
theorem Inv.tok(I:Inv X pins σ H s)(t:Nat):Inv X pins σ H {s with toks:=t}:=I.un (h':=s.heap) (t':=t) Un.refl I.hok
theorem Inv.kept{t':Nat}(I:Inv X pins σ H s)(k:∀b u,s.heap.get? b=some u->h'.get? b=some u):Inv X pins σ H {s with heap:=h',toks:=t'}:=I.un (Un.kept k) (I.hok.kept k)
theorem Inv.laid{a:Addr}{o:HO}{t':Nat}(I:Inv X pins σ H s)(k:∀b u,s.heap.get? b=some u->h'.get? b=some u)(hp:s.heap.objs.size<=a)(new:Wu X.prog X.w (upd H a o) h' a o):
  Inv X pins σ (upd H a o) {s with heap:=h',toks:=t'}:=I.un (Un.laid k hp (I.hok.fresh hp)) (I.hok.laid k hp new)
theorem Inv.write{x e:Addr}{o:HO}{t':Nat}(I:Inv X pins σ H s)(mu:Mut (H x))(he:e=x\/H e=some (.own x))(k:∀b u,b≠e->s.heap.get? b=some u->h'.get? b=some u)(heo:∃u,h'.get? e=some u)
  (new:Wu X.prog X.w (upd H x o) h' x o):Inv X pins σ (upd H x o) {s with heap:=h',toks:=t'}:=I.un (Un.write mu he k heo) (I.hok.write mu he k heo new)
theorem Inv.weak{σ':List (Option V)}(I:Inv X pins σ H s)(hl:σ'.length=σ.length)(w:∀(i:Nat) v,σ'[i]?=some (some v)->σ[i]?=some (some v)):Inv X pins σ' H s:=
 ⟨I.ok,I.os,I.bare,I.base,let⟨m,hn,hl'⟩:=I.loc;⟨m,hn,fun i x v e1 e2 e3=>hl' i x v e1 (w i v e2) e3⟩,I.cell,I.free,I.freeC,I.pin,I.hok,hl.trans I.len⟩
theorem Inv.pins_of{pins':List (Addr×Obj)}(I:Inv X pins σ H s)(h:∀p∈pins',s.heap.get? p.1=some p.2/\H p.1=none/\p.1≠X.env.locals/\p.1∉X.fs/\∀v,p.2.data≠ .cell v):Inv X pins' σ H s:=
 ⟨I.ok,I.os,I.bare,I.base,I.loc,I.cell,I.free,I.freeC,fun p hp=>(Zs.mp hp).elim (fun z=>I.pin p (Yo _ z)) (h p),I.hok,I.len⟩
theorem QB{N:List Str}(hN:N.Nodup){i j:Nat}{x:Str}(a:N[i]?=some x)(b:N[j]?=some x):i=j:=by
 obtain⟨h1,e1⟩:=Zd.mp a
 obtain⟨h2,e2⟩:=Zd.mp b
 exact(List.getElem_inj hN).mp (e1.trans e2.symm)
theorem Pt{M:Model}{A:Around}{E:Value->Shared->Prop}{i:Nat}{x:Str}{v:V}{u:Value}{Q:Unit->Shared->Prop}(I:Inv X pins σ H s)(hN:X.N.Nodup)(hi:X.N[i]?=some x)(hx:Loc X.env.scope x)(r:RelV v u)
  (h:∀s',Inv X pins (σ.set i (some v)) H s'->(∃a,Heap.SameBut a s.heap s'.heap/\(a=X.env.locals\/X.env.cells.lookup x=some a))->Q () s') (hf:X.fn x=true\/X.env.scope.names.lookup x=some .local:=by first|exact .inl rfl|exact .inr rfl|assumption):wpAny M A (storeName X.env x u) Q E s:=by
 obtain⟨m,hn,hl⟩:=id I.loc
 have hcls:(X.env.scope.kind== .class||(X.env.scope.kind== .module&&X.env.locals !=X.env.globals))=false:=by rw[I.ok.kind];rfl
 have hiσ:i<σ.length:=by rw[I.len];exact(Zd.mp hi).1
 have cne:=I.cne
 have tracked:∀{a:Addr}{h':Heap},(∃o,s.heap.get? a=some o/\H a=none)->Heap.SameBut a s.heap h'->HOk X.prog X.w H h':=fun{a h'} ha hs b ob e=>by
  obtain⟨_,_,hfree⟩:=ha
  refine(I.hok b ob e).stay (fun c w' hc q=>(hs.2 c ?_).trans q) (fun _ q=>q) fun _ _ q=>q
  rintro rfl
  rcases hc with rfl|hc
  ·rw[hfree]at e;cases e
  ·rw[hfree]at hc;cases hc
 rcases hx with hk|hk
 ·refine wpAny_storeName_local hk hn (fun h' hn' hs=>?_) hcls
  obtain⟨oL,_,_,hoL,_⟩:=id hn
  refine h _ ⟨I.ok,I.os,I.bare,⟨fun b o e n hb hx=>?_,fun b o e n hb hx=>?_,I.base.free,fun b o e hx=>?_,I.base.tups,I.base.frzs,I.base.tbls⟩,⟨_,hn',fun j y v' e1 e2 e3=>?_⟩,fun y c e=>?_,I.free,I.freeC,fun p hp=>?_,tracked ⟨oL,hoL,I.free⟩ hs,by simpa using I.len⟩ ⟨_,hs,.inl rfl⟩
  ·exact(hs.2 b (Z0 (ZX (ZF e) I.ok.above))).trans (I.base.keep b o e n hb hx)
  ·obtain⟨sl,e1⟩:=I.base.slot b o e n hb hx
   exact⟨sl,(hs.2 b (Z0 (ZX (ZF e) I.ok.above))).trans e1⟩
  ·obtain⟨o',e1⟩:=I.base.there b o e hx
   exact⟨o',(hs.2 b (Z0 (ZX (ZF e) I.ok.above))).trans e1⟩
  ·by_cases hj:j=i
   ·subst hj
    rw[hi]at e1;cases e1
    rw[W8 hiσ]at e2
    cases e2
    exact⟨u,r,.inl ⟨hk,by simp⟩⟩
   ·rw[VE (Yq hj)]at e2
    obtain⟨u',r',q⟩:=hl j y v' e1 e2 e3
    refine⟨u',r',?_⟩
    rcases q with⟨k,e⟩|⟨k,c,e,z⟩
    ·refine .inl ⟨k,?_⟩
     have:y≠x:=fun e=>hj (QB hN e1 (e▸hi))
     simp[this,e]
    ·exact .inr ⟨k,c,e,z.sameBut hs (cne y c e)⟩
  ·obtain⟨w',z⟩:=I.cell y c e
   exact⟨w',z.sameBut hs (cne y c e)⟩
  ·obtain⟨e,n,ne,nf,d⟩:=I.pin p hp
   exact⟨(hs.2 p.1 ne).trans e,n,ne,nf,d⟩
 ·have hfn:X.fn x=true:=by
   rcases hf with z|z
   ·exact z
   ·rw[z]at hk;cases hk
  obtain⟨c,hc⟩:=I.ok.has x (.inl hk)
  obtain⟨w',z⟩:=I.cell x c hc
  refine wpAny_storeName_cell I.ok.kind hk hc z (fun h' hc' hs=>?_)
  obtain⟨oc,hoc,hocd⟩:=id z
  refine h {s with heap:=h'} ⟨I.ok,I.os,I.bare,⟨fun b o e n hb hx=>?_,fun b o e n hb hx=>?_,I.base.free,fun b o e hx=>?_,I.base.tups,I.base.frzs,I.base.tbls⟩,⟨m,hn.sameBut hs (Yq (cne x c hc)),fun j y v' e1 e2 e3=>?_⟩,fun y c' e=>?_,I.free,I.freeC,fun p hp=>?_,tracked ⟨oc,hoc,I.freeC x c hc⟩ hs,by simpa using I.len⟩ ⟨c,hs,.inr hc⟩
  ·exact(hs.2 b (Z0 (ZX (ZF e) (I.ok.cab x c hfn hc)))).trans (I.base.keep b o e n hb hx)
  ·obtain⟨sl,e1⟩:=I.base.slot b o e n hb hx
   exact⟨sl,(hs.2 b (Z0 (ZX (ZF e) (I.ok.cab x c hfn hc)))).trans e1⟩
  ·obtain⟨o',e1⟩:=I.base.there b o e hx
   exact⟨o',(hs.2 b (Z0 (ZX (ZF e) (I.ok.cab x c hfn hc)))).trans e1⟩
  ·by_cases hj:j=i
   ·subst hj
    rw[hi]at e1;cases e1
    rw[W8 hiσ]at e2
    cases e2
    exact⟨u,r,.inr ⟨.inl hk,c,hc,hc'⟩⟩
   ·rw[VE (Yq hj)]at e2
    obtain⟨u',r',q⟩:=hl j y v' e1 e2 e3
    refine⟨u',r',?_⟩
    rcases q with q|⟨k,c',e,z'⟩
    ·exact .inl q
    ·refine .inr ⟨k,c',e,z'.sameBut hs ?_⟩
     rintro rfl
     exact hj (QB hN e1 (I.ok.inj _ _ _ e hc▸hi))
  ·by_cases hcc:c'=c
   ·subst hcc;exact⟨_,hc'⟩
   ·obtain⟨w2,z2⟩:=I.cell y c' e
    exact⟨w2,z2.sameBut hs hcc⟩
  ·obtain⟨e,n,ne,nf,d⟩:=I.pin p hp
   refine⟨(hs.2 p.1 ?_).trans e,n,ne,nf,d⟩
   intro q
   rw[q,hoc]at e
   have q':oc=p.2:=ZC e
   exact d w' (by rw[<-q'];exact hocd)
theorem Qc{M:Model}{A:Around}{E:Value->Shared->Prop}{i:Nat}{x:Str}{v:V}{u:Value}{Q:Unit->Shared->Prop}(I:Inv X pins σ H s)(hN:X.N.Nodup)(hi:X.N[i]?=some x)(hx:Loc X.env.scope x)(r:RelV v u)
  (h:∀s',Inv X pins (σ.set i (some v)) H s'->Q () s') (hf:X.fn x=true\/X.env.scope.names.lookup x=some .local:=by first|exact .inl rfl|exact .inr rfl|assumption):wpAny M A (storeName X.env x u) Q E s:=
 Pt I hN hi hx r (fun s' I' _=>h s' I') hf
theorem Inv.call'{s':Shared}{ch:List Addr}(I:Inv X pins σ H s)(ho:s'.os=s.os)(u:Un (frs X.stack) ch H H' s.heap s'.heap)(hok:HOk X.prog X.w H' s'.heap)(hg:AllBare s'.gens)
  (hch:∀b∈ch,(b∈X.ex\/X.s_0.heap.objs.size<=b)/\b≠X.env.locals/\(∀x c,X.env.cells.lookup x=some c->c≠b)/\∀p∈X.pn++pins,p.1≠b):Inv X pins σ H' s':=by
 obtain⟨h',g',d',t',o'⟩:=s'
 have e:o'=s.os:=ho
 subst e
 exact I.call (g':=g') (t':=t') (d':=d') u hok hg hch
end
noncomputable abbrev XK:=Value->Option Addr->Hp->Prop
noncomputable abbrev St:=List (Option V)
noncomputable abbrev VK:=V->Hp->Prop
noncomputable abbrev TE:=St->Hp->VK->Prop
noncomputable abbrev TT:=St->Hp->(Bool->Hp->Prop)->Prop
noncomputable abbrev TA:=St->Hp->(List V->Hp->Prop)->Prop
structure Ends where
 nx:St->Hp->Prop
 rt:VK
 bk:St->Hp->Prop:=fun _ _=>False
 ct:St->Hp->Prop:=fun _ _=>False
noncomputable abbrev TS:=Ends->St->Hp->Prop
noncomputable def EP(X:Cx)(pins:List (Addr×Obj))(σ:St)(Q:VK)(u:Value)(s':Shared):Prop:=∃v H',Inv X pins σ H' s'/\RelV v u/\Q v H'
noncomputable def TP(X:Cx)(pins:List (Addr×Obj))(σ:St)(Q:Bool->Hp->Prop)(b:Bool)(s':Shared):Prop:=∃H',Inv X pins σ H' s'/\Q b H'
noncomputable def AP(X:Cx)(pins:List (Addr×Obj))(σ:St)(Q:List V->Hp->Prop)(us:List Value)(s':Shared):Prop:=∃vs H',Inv X pins σ H' s'/\Vals vs us/\Q vs H'
noncomputable def SP(X:Cx)(pins:List (Addr×Obj))(D:Ends)(f:Flow)(s':Shared):Prop:=
 match f with
 | .next=>∃σ' H',Inv X pins σ' H' s'/\D.nx σ' H'
 | .brk=>∃σ' H',Inv X pins σ' H' s'/\D.bk σ' H'
 | .cont=>∃σ' H',Inv X pins σ' H' s'/\D.ct σ' H'
 | .ret u=>∃v σ' H',Inv X pins σ' H' s'/\RelV v u/\D.rt v H'
noncomputable def PE(X:Cx)(e:Expr)(t:TE):Prop:=
 ∀(pins:List (Addr×Obj))(s:Shared)(σ:St)(H:Hp)(Q:VK),Inv X pins σ H s->t σ H Q->wpAny (model X.prog X.w) X.A (eval e X.env) (EP X pins σ Q) X.xe s
noncomputable def PT(X:Cx)(e:Expr)(t:TT):Prop:=
 ∀(pins:List (Addr×Obj))(s:Shared)(σ:St)(H:Hp)(Q:Bool->Hp->Prop),Inv X pins σ H s->t σ H Q->wpAny (model X.prog X.w) X.A (isTrue e X.env (eval e X.env)) (TP X pins σ Q) X.xe s
noncomputable def PW(X:Cx)(e:Expr)(t:TT):Prop:=
 ∀(whole:Sem Value)(pins:List (Addr×Obj))(s:Shared)(σ:St)(H:Hp)(Q:Bool->Hp->Prop),Inv X pins σ H s->t σ H Q->wpAny (model X.prog X.w) X.A (isTrue e X.env whole) (TP X pins σ Q) X.xe s
theorem PW.pt{X:Cx}{e:Expr}{t:TT}(h:PW X e t):PT X e t:=h _
noncomputable def PA(X:Cx)(es:List Expr)(t:TA):Prop:=
 ∀(pos:Pos)(pins:List (Addr×Obj))(s:Shared)(σ:St)(H:Hp)(Q:List V->Hp->Prop),Inv X pins σ H s->t σ H Q->wpAny (model X.prog X.w) X.A (spliced (backTo pos (starEach es X.env))) (AP X pins σ Q) X.xe s
noncomputable def PS(X:Cx)(st:Stmt)(t:TS):Prop:=
 ∀(pins:List (Addr×Obj))(s:Shared)(σ:St)(H:Hp)(D:Ends),Inv X pins σ H s->t D σ H->wpAny (model X.prog X.w) X.A (exec st X.env) (SP X pins D) X.xe s
noncomputable def PSs(X:Cx)(st:List Stmt)(t:TS):Prop:=
 ∀(pins:List (Addr×Obj))(s:Shared)(σ:St)(H:Hp)(D:Ends),Inv X pins σ H s->t D σ H->wpAny (model X.prog X.w) X.A (execs st X.env) (SP X pins D) X.xe s
theorem thn{α:Type}{t:Sem α}{Q Q':α->Shared->Prop}{M:Model}{A:Around}{E:Value->Shared->Prop}{s:Shared}(h:wpAny M A t Q E s)(hQ:∀a s,Q a s->Q' a s):wpAny M A t Q' E s:=XF h hQ fun _ _ x=>x
end L2
namespace L2
open PySem PySem.Spec PyProof.Rows
section
variable{X:Cx}
noncomputable def tVar(i:Nat):TE:=fun σ H Q=>∃v,σ[i]?=some (some v)/\Q v H
noncomputable def tC(v:V):TE:=fun _ H Q=>Q v H
theorem pe_var{i:Nat}{x:Str}{pos:Pos}(hN:X.N[i]?=some x)(hv:Vis X.env.scope x)(hd:(x==("__debug__":Str))=false:=by decide)(hcd:(x==("__classdict__":Str))=false:=by decide):PE X (.Name x pos) (tVar i):=by
 intro pins s σ H Q I h
 obtain⟨v,e,h⟩:=h
 obtain⟨m,hn,hl⟩:=I.loc
 obtain⟨u,r,l⟩:=hl i x v hN e hv
 have fin:EP X pins σ Q u s:=⟨v,H,I,r,h⟩
 rcases l with⟨hk,hm⟩|⟨hk,c,hc,hcell⟩
 ·exact wpAny_Name (wpAny_loadName_local I.ok.kind hk hn hm fin) hd
 ·rcases hk with hk|hk
  ·exact wpAny_Name (wpAny_loadName_cell I.ok.kind hk hc hcell fin) hd
  ·exact wpAny_Name (wpAny_loadName_free I.ok.kind hk hc hcell fin hcd) hd
theorem ZE{i j pos}:PE X (.Constant (.int i) j pos) (tC (.int i)):=fun _ _ _ H _ I h=>wpAny_Constant_int ⟨.int i,H,I.tok _,⟨_,rfl⟩,h⟩
theorem pe_bl{b j pos}:PE X (.Constant (.bool b) j pos) (tC (.bl b)):=fun _ _ _ H _ I h=>Constant_bool ⟨.bl b,H,I,rfl,h⟩
theorem Wk{j pos}:PE X (.Constant .none j pos) (tC .non):=fun _ _ _ H _ I h=>Constant_none ⟨.non,H,I,rfl,h⟩
noncomputable def Gl(X:Cx)(x:Str):Prop:=X.env.kindOf x=some .globalImplicit
theorem RW{E:Value->Shared->Prop}{pins:List (Addr×Obj)}{s:Shared}{σ:St}{H:Hp}{x:Str}{u:Value}{pos:Pos}{Q:Value->Shared->Prop}(I:Inv X pins σ H s)(hg:Gl X x)(hm:X.mg x=some u)(h:Q u s)
  (hd:(x==("__debug__":Str))=false:=by decide):wpAny (model X.prog X.w) X.A (eval (.Name x pos) X.env) Q E s:=
 Calls.Name_function_global I.ok.kind hg (Calls.loadGlobal_global (by rw[I.ok.glob];exact I.mod.glob.keeps I.bk) hm h) hd
theorem VY{E:Value->Shared->Prop}{pins:List (Addr×Obj)}{s:Shared}{σ:St}{H:Hp}{x:Str}{u:Value}{pos:Pos}{Q:Value->Shared->Prop}(I:Inv X pins σ H s)(hg:Gl X x)(hm:X.mg x=none)(hv:bootBuiltins x=some u)(h:Q u s)
  (hn:x≠"__name__":=by decide) (hd:(x==("__debug__":Str))=false:=by decide):wpAny (model X.prog X.w) X.A (eval (.Name x pos) X.env) Q E s:=by
 obtain⟨mb,h1,h2⟩:=I.mod.blt
 exact Calls.Name_function_global I.ok.kind hg (Calls.loadGlobal_builtin (by rw[I.ok.glob];exact I.mod.glob.keeps I.bk) hm (by rw[I.ok.blt];exact h1.keeps I.bk) ((h2 x hn).trans hv) h) hd
theorem pe_glob{x:Str}{v:V}{u:Value}{pos:Pos}(hg:Gl X x)(hm:X.mg x=some u)(r:RelV v u)(hd:(x==("__debug__":Str))=false:=by decide):PE X (.Name x pos) (tC v):=
 fun _ _ _ H _ I h=>RW I hg hm ⟨v,H,I,r,h⟩ hd
variable{a b:Expr}{ta tb:TE}{pos:Pos}
noncomputable def PC(X:Cx)(op:CmpOp)(a b:Expr)(t:TE):Prop:=
 ∀(pins:List (Addr×Obj))(s:Shared)(σ:St)(H:Hp)(Q:VK),Inv X pins σ H s->t σ H Q->
  wpAny (model X.prog X.w) X.A (eval a X.env) (fun v s₁=>wpAny (model X.prog X.w) X.A (eval b X.env) (fun u s₂=>wpAny (model X.prog X.w) X.A (compareOp op v u) (EP X pins σ Q) X.xe s₂) X.xe s₁) X.xe s
theorem NX(b:Expr){op:CmpOp}(h:op≠ .In)(h2:op≠ .NotIn):behindInMarks op b=false:=by
 have e1:(op==CmpOp.In)=false:=by cases op<;>first|rfl|exact absurd rfl h
 have e2:(op==CmpOp.NotIn)=false:=by cases op<;>first|rfl|exact absurd rfl h2
 cases b<;>simp[behindInMarks,e1,e2]
noncomputable def tIsN(ta:TE):TE:=fun σ H Q=>ta σ H fun x H1=>Q (.bl (decide (x=.non))) H1
noncomputable def tNotN(ta:TE):TE:=fun σ H Q=>ta σ H fun x H1=>Q (.bl (!decide (x=.non))) H1
theorem RelV.none_iff{x:V}{v:Value}(r:RelV x v):(v==Value.none)=decide (x=.non):=by
 cases x with
 |non=>cases r;rfl
 |bl _=>cases r;rfl
 |int _=>obtain⟨t,rfl⟩:=r;rfl
 |str _=>obtain⟨t,rfl⟩:=r;rfl
 |byt _=>obtain⟨t,rfl⟩:=r;rfl
 |flt _=>obtain⟨t,rfl⟩:=r;rfl
 |ref _=>cases r;rfl
 |ty _=>cases r;rfl
theorem Qx{j pos'}(ha:PE X a ta):PC X .Is a (.Constant .none j pos') (tIsN ta):=by
 intro pins s σ H Q I h
 refine thn (ha pins s σ H _ I h) fun v s1 ⟨x,H1,I1,r1,q1⟩=>?_
 exact Constant_none (is_none_gen ⟨.bl _,H1,I1,by rw[r1.none_iff];rfl,q1⟩)
theorem pc_notN{j pos'}(ha:PE X a ta):PC X .IsNot a (.Constant .none j pos') (tNotN ta):=by
 intro pins s σ H Q I h
 refine thn (ha pins s σ H _ I h) fun v s1 ⟨x,H1,I1,r1,q1⟩=>?_
 exact Constant_none (isnot_none_gen ⟨.bl _,H1,I1,by rw[r1.none_iff];rfl,q1⟩)
noncomputable def tB(t:TE):TT:=fun σ H Q=>t σ H fun x H1=>∃c,x=.bl c/\Q c H1
theorem pe_cmp{op:CmpOp}{t:TE}(h:PC X op a b t)(h1:behindInMarks op b=false:=by first|exact NX _ (by decide) (by decide)|rfl):PE X (.Compare a [op] [b] pos) t:=fun pins s σ H Q I hw=>wpAny_Compare1 (h pins s σ H Q I hw) h1
theorem TY{op:CmpOp}{t:TE}(h:PC X op a b t)(h1:behindInMarks op b=false:=by first|exact NX _ (by decide) (by decide)|rfl):PT X (.Compare a [op] [b] pos) (tB t):=by
 intro pins s σ H Q I hw
 refine wpAny_isTrue_Compare1 (thn (h pins s σ H _ I hw) fun v s1 h1=>thn h1 fun u s2 h2=>thn h2 fun c s3 ⟨x,H1,I1,r1,q1⟩=>?_) h1
 obtain⟨d,rfl,q⟩:=q1
 cases r1
 exact YX ⟨H1,I1,q⟩
theorem Wj{e:Expr}{t:TE}(h:PE X e t)(he:∀whole,isTrue e X.env whole=(do let v<-whole;standAt e.pos;holding [v] (truthy v)):=by intro _;rfl):PT X e (tB t):=by
 intro pins s σ H Q I hw
 refine isTrue_plain (thn (h pins s σ H _ I hw) fun v s1 ⟨x,H1,I1,r1,q1⟩=>?_) (he _)
 obtain⟨d,rfl,q⟩:=q1
 cases r1
 exact YX ⟨H1,I1,q⟩
variable{tA tB':TT}{rest:List Expr}
noncomputable def tAnd(t u:TT):TT:=fun σ H Q=>t σ H fun c H1=>if c=true then u σ H1 Q else Q false H1
noncomputable def tOr(t u:TT):TT:=fun σ H Q=>t σ H fun c H1=>if c=true then Q true H1 else u σ H1 Q
noncomputable def tNot(t:TT):TT:=fun σ H Q=>t σ H fun c H1=>Q (!c) H1
theorem O3(ha:PT X a tA):PW X (.BoolOp .And [a] pos) tA:=by
 intro wh pins s σ H Q I h
 refine isTrue_and (thn (ha pins s σ H Q I h) fun c s1 e=>?_)
 cases c with
 |true=>exact isTrue_and_nil e
 |false=>exact e
theorem UR(ha:PT X a tA):PW X (.BoolOp .Or [a] pos) tA:=by
 intro wh pins s σ H Q I h
 refine isTrue_or (thn (ha pins s σ H Q I h) fun c s1 e=>?_)
 cases c with
 |false=>exact isTrue_or_nil e
 |true=>exact e
theorem O4(ha:PT X a tA)(hb:PW X (.BoolOp .And (b::rest) pos) tB'):PW X (.BoolOp .And (a::b::rest) pos) (tAnd tA tB'):=by
 intro wh pins s σ H Q I h
 refine isTrue_and (thn (ha pins s σ H _ I h) fun c s1 ⟨H1,I1,q1⟩=>?_)
 cases c with
 |true=>exact hb wh pins s1 σ H1 Q I1 q1
 |false=>exact⟨H1,I1,q1⟩
theorem Rz(ha:PT X a tA)(hb:PW X (.BoolOp .Or (b::rest) pos) tB'):PW X (.BoolOp .Or (a::b::rest) pos) (tOr tA tB'):=by
 intro wh pins s σ H Q I h
 refine isTrue_or (thn (ha pins s σ H _ I h) fun c s1 ⟨H1,I1,q1⟩=>?_)
 cases c with
 |true=>exact⟨H1,I1,q1⟩
 |false=>exact hb wh pins s1 σ H1 Q I1 q1
theorem Vh(ha:PT X a tA):PT X (.UnaryOp .Not a pos) (tNot tA):=by
 intro pins s σ H Q I h
 exact isTrue_not (ha pins s σ H (fun c H1=>Q (!c) H1) I h)
noncomputable def tAndV(ta tb:TE):TE:=fun σ H Q=>ta σ H fun x H1=>∃c,x=.bl c/\if c=true then tb σ H1 Q else Q (.bl false) H1
noncomputable def tOrV(ta tb:TE):TE:=fun σ H Q=>ta σ H fun x H1=>∃c,x=.bl c/\if c=true then Q (.bl true) H1 else tb σ H1 Q
noncomputable def tNotV(ta:TE):TE:=fun σ H Q=>ta σ H fun x H1=>∃c,x=.bl c/\Q (.bl (!c)) H1
theorem S8{op}{t:TE}(h:PE X a t):PE X (.BoolOp op [a] pos) t:=fun pins s σ H Q I hw=>BoolOp_one (h pins s σ H Q I hw)
theorem S9(ha:PE X a ta)(hb:PE X (.BoolOp .And (b::rest) pos) tb):PE X (.BoolOp .And (a::b::rest) pos) (tAndV ta tb):=by
 intro pins s σ H Q I h
 refine BoolOp_and (thn (ha pins s σ H _ I h) fun v s1 ⟨x,H1,I1,r1,q1⟩=>?_)
 obtain⟨c,rfl,q1⟩:=q1
 cases r1
 refine YX ?_
 cases c with
 |true=>exact hb pins s1 σ H1 Q I1 q1
 |false=>exact⟨.bl false,H1,I1,rfl,q1⟩
theorem pe_or(ha:PE X a ta)(hb:PE X (.BoolOp .Or (b::rest) pos) tb):PE X (.BoolOp .Or (a::b::rest) pos) (tOrV ta tb):=by
 intro pins s σ H Q I h
 refine BoolOp_or (thn (ha pins s σ H _ I h) fun v s1 ⟨x,H1,I1,r1,q1⟩=>?_)
 obtain⟨c,rfl,q1⟩:=q1
 cases r1
 refine YX ?_
 cases c with
 |false=>exact hb pins s1 σ H1 Q I1 q1
 |true=>exact⟨.bl true,H1,I1,rfl,q1⟩
theorem pe_not(ha:PE X a ta):PE X (.UnaryOp .Not a pos) (tNotV ta):=by
 intro pins s σ H Q I h
 refine UnaryOp_ (thn (ha pins s σ H _ I h) fun v s1 ⟨x,H1,I1,r1,q1⟩=>?_)
 obtain⟨c,rfl,q1⟩:=q1
 cases r1
 exact not_of (YX ⟨.bl (!c),H1,I1,rfl,q1⟩)
noncomputable def tIf(t:TT)(ta tb:TE):TE:=fun σ H Q=>t σ H fun c H1=>if c=true then ta σ H1 Q else tb σ H1 Q
theorem Vs{c:Expr}(hc:PT X c tA)(ha:PE X a ta)(hb:PE X b tb):PE X (.IfExp c a b pos) (tIf tA ta tb):=by
 intro pins s σ H Q I h
 refine wpAny_IfExp (thn (hc pins s σ H _ I h) fun d s1 ⟨H1,I1,q1⟩=>?_)
 cases d with
 |true=>exact ha pins s1 σ H1 Q I1 q1
 |false=>exact hb pins s1 σ H1 Q I1 q1
end
end L2
namespace L2
open PySem PySem.Spec PyProof.Rows
noncomputable def SqL(K:PySem.W.Frag)(H:Hp)(a:Addr)(xs:List V):Prop:=
 Rd H a (.lst xs)\/
  ∃(o:Obj)(its:Array Value)(n:Nat),K.lookup a=some o/\o.cls=.type "list"/\o.dict=none/\o.data=.seq its n/\its.size<=sizeLine/\Vals xs its.toList
noncomputable def SqT(K:PySem.W.Frag)(H:Hp)(a:Addr)(xs:List V):Prop:=
 Rd H a (.tup xs)\/
  ∃(o:Obj)(its:Array Value)(n:Nat),K.lookup a=some o/\o.cls=.type "tuple"/\o.data=.seq its n/\its.size<=sizeLine/\Vals xs its.toList
noncomputable def absV:Value->Option V
 | .none=>some .non
 | .bool b=>some (.bl b)
 | .int i _=>some (.int i)
 | .str x _=>some (.str x)
 | .bytes b _=>some (.byt b)
 | .float b _=>some (.flt b)
 | .ref a=>some (.ref a)
 | .type n=>some (.ty n)
 |_=>none
theorem RelV.abs{x:V}{u:Value}(r:RelV x u):absV u=some x:=by
 cases x with
 |non=>cases r;rfl
 |bl _=>cases r;rfl
 |int _=>obtain⟨t,rfl⟩:=r;rfl
 |str _=>obtain⟨t,rfl⟩:=r;rfl
 |byt _=>obtain⟨t,rfl⟩:=r;rfl
 |flt _=>obtain⟨t,rfl⟩:=r;rfl
 |ref _=>cases r;rfl
 |ty _=>cases r;rfl
theorem RelV.inj{x y:V}{u:Value}(r:RelV x u)(q:RelV y u):x=y:=ZC (r.abs.symm.trans q.abs)
theorem Vals.inj:∀{xs ys:List V}{us:List Value},Vals xs us->Vals ys us->xs=ys
 |_,_,_,.nil,.nil=>rfl
 |_,_,_,.cons r t,.cons r' t'=>by rw[r.inj r',Vals.inj t t']
section
variable{X:Cx}{pins:List (Addr×Obj)}{σ:St}{H:Hp}{s:Shared}{a:Addr}{xs ys:List V}
theorem SqL.of{K:PySem.W.Frag}(h:H a=some (.lst xs)):SqL K H a xs:=.inl (.inl h)
theorem SqT.of{K:PySem.W.Frag}(h:H a=some (.tup xs)):SqT K H a xs:=.inl (.inl h)
theorem Inv.list(I:Inv X pins σ H s)(h:SqL X.K H a xs):∃its:List Value,Vals xs its/\PlainL s.heap a its.toArray/\xs.length<=sizeLine:=by
 rcases h with h|⟨o,its,n,hk,hc,hd,hs,hz,r⟩
 ·obtain⟨z,its,n,r,e⟩:=h.ok I.hok
  exact⟨its,r,⟨_,n,e,rfl,rfl,rfl⟩,z⟩
 ·refine⟨its.toList,r,⟨o,n,I.kIn a o hk,hc,hd,by simpa using hs⟩,?_⟩
  have e:=r.length
  simp only[ZT]at e
  omega
theorem Inv.tuple(I:Inv X pins σ H s)(h:SqT X.K H a xs):∃its:List Value,Vals xs its/\IsTup s.heap a its.toArray/\xs.length<=sizeLine:=by
 rcases h with h|⟨o,its,n,hk,hc,hs,hz,r⟩
 ·obtain⟨z,its,r,p⟩:=h.ok I.hok
  exact⟨its,r,p,z⟩
 ·refine⟨its.toList,r,⟨o,I.kIn a o hk,hc,n,by simpa using hs⟩,?_⟩
  have e:=r.length
  simp only[ZT]at e
  omega
theorem Inv.list_inj(I:Inv X pins σ H s)(h:SqL X.K H a xs)(h':SqL X.K H a ys):xs=ys:=by
 obtain⟨its,r,⟨o,n,e,_,_,d⟩,_⟩:=I.list h
 obtain⟨its',r',⟨o',n',e',_,_,d'⟩,_⟩:=I.list h'
 rw[e]at e';cases e'
 rw[d]at d'
 injection d' with d1 _
 have:its=its':=by simpa using congrArg Array.toList d1
 subst this
 exact r.inj r'
theorem Inv.tuple_inj(I:Inv X pins σ H s)(h:SqT X.K H a xs)(h':SqT X.K H a ys):xs=ys:=by
 obtain⟨its,r,⟨o,e,_,n,d⟩,_⟩:=I.tuple h
 obtain⟨its',r',⟨o',e',_,n',d'⟩,_⟩:=I.tuple h'
 rw[e]at e';cases e'
 rw[d]at d'
 injection d' with d1 _
 have:its=its':=by simpa using congrArg Array.toList d1
 subst this
 exact r.inj r'
end
noncomputable abbrev Cx.wish(X:Cx)(E:Value->Shared->Prop):Cx:={X with xe:=E}
noncomputable abbrev Cx.nox(X:Cx):Cx:=X.wish fun _ _=>False
theorem Cx.Ok.wish{X:Cx}(ok:X.Ok)(E:Value->Shared->Prop):(X.wish E).Ok:=
 ⟨ok.mod,ok.kind,ok.glob,ok.blt,ok.above,ok.inj,ok.has,ok.cab,ok.hd,ok.frames,ok.stk,ok.exf,ok.bs,ok.bsz,ok.noex,ok.exfs,ok.funs,ok.frf⟩
theorem Cx.Ok.unwish{X:Cx}{E:Value->Shared->Prop}(ok:(X.wish E).Ok):X.Ok:=
 ⟨ok.mod,ok.kind,ok.glob,ok.blt,ok.above,ok.inj,ok.has,ok.cab,ok.hd,ok.frames,ok.stk,ok.exf,ok.bs,ok.bsz,ok.noex,ok.exfs,ok.funs,ok.frf⟩
section
variable{X:Cx}{pins:List (Addr×Obj)}{σ:St}{H:Hp}{s:Shared}{E:Value->Shared->Prop}
theorem Inv.wish(I:Inv X pins σ H s)(E:Value->Shared->Prop):Inv (X.wish E) pins σ H s:=⟨I.ok.wish E,I.os,I.bare,I.base,I.loc,I.cell,I.free,I.freeC,I.pin,I.hok,I.len⟩
theorem Inv.unwish(I:Inv (X.wish E) pins σ H s):Inv X pins σ H s:=⟨I.ok.unwish,I.os,I.bare,I.base,I.loc,I.cell,I.free,I.freeC,I.pin,I.hok,I.len⟩
theorem SP.unwish{D:Ends}{f:Flow}{s':Shared}(h:SP (X.wish E) pins D f s'):SP X pins D f s':=by
 cases f with
 |next=>obtain⟨σ',H',I,q⟩:=h;exact⟨σ',H',I.unwish,q⟩
 |brk=>obtain⟨σ',H',I,q⟩:=h;exact⟨σ',H',I.unwish,q⟩
 |cont=>obtain⟨σ',H',I,q⟩:=h;exact⟨σ',H',I.unwish,q⟩
 |ret u=>obtain⟨v,σ',H',I,r,q⟩:=h;exact⟨v,σ',H',I.unwish,r,q⟩
theorem PSs.nox{st:List Stmt}{t:TS}(h:PSs X.nox st t):PSs X st t:=fun pins s σ H D I hw=>
 XF (h pins s σ H D (I.wish _) hw) (fun _ _ q=>q.unwish) fun _ _ z=>False.elim z
end
section
variable{X:Cx}{st:Stmt}{rest:List Stmt}{t u:TS}{e:Expr}{te:TE}{pos:Pos}
noncomputable def tNext:TS:=fun D σ H=>D.nx σ H
noncomputable def tSeq(t u:TS):TS:=fun D σ H=>t {D with nx:=u D} σ H
theorem Yy:PSs X [] tNext:=fun _ _ σ H _ I h=>wpAny_execs_nil ⟨σ,H,I,h⟩
theorem Zk(h1:PS X st t)(h2:PSs X rest u):PSs X (st::rest) (tSeq t u):=by
 intro pins s σ H D I h
 refine wpAny_execs_cons (thn (h1 pins s σ H {D with nx:=u D} I h) fun f s1 q=>?_)
 cases f with
 |next=>
  obtain⟨σ',H',I',q⟩:=q
  exact h2 pins s1 σ' H' D I' q
 |ret v=>exact q
 |brk=>exact q
 |cont=>exact q
theorem Zr(h1:PS X st t):PSs X [st] t:=by
 intro pins s σ H D I h
 refine wpAny_execs_cons (thn (h1 pins s σ H D I h) fun f s1 q=>?_)
 cases f with
 |next=>exact wpAny_execs_nil q
 |ret v=>exact q
 |brk=>exact q
 |cont=>exact q
theorem Inv.quiet{pins:List (Addr×Obj)}{σ:St}{H:Hp}{s:Shared}(I:Inv X pins σ H s):interactive X.env=false:=by simp[interactive,I.ok.kind]
noncomputable def tDrop(te:TE):TS:=fun D σ H=>te σ H fun _ H1=>D.nx σ H1
theorem Xx(he:PE X e te)(hs:swapsWith e none pos.line X.env=pure false:=by rfl):PS X (.Expr e pos) (tDrop te):=by
 intro pins s σ H D I h
 exact wpAny_Expr_any (thn (he pins s σ H _ I h) fun v s1 ⟨x,H1,I1,r1,q1⟩=>⟨σ,H1,I1,q1⟩) I.quiet hs
noncomputable def tRet(te:TE):TS:=fun D σ H=>te σ H D.rt
theorem ZN(he:PE X e te):PS X (.Return (some e) pos) (tRet te):=by
 intro pins s σ H D I h
 exact wpAny_Return_some (thn (he pins s σ H _ I h) fun v s1 ⟨x,H1,I1,r1,q1⟩=>⟨x,σ,H1,I1,r1,q1⟩)
noncomputable def tIfS(c:TT)(t u:TS):TS:=fun D σ H=>c σ H fun b H1=>if b=true then t D σ H1 else u D σ H1
theorem Xm{c:Expr}{a b:List Stmt}{tc:TT}(hc:PT X c tc)(ha:PSs X a t)(hb:PSs X b u):PS X (.If c a b pos) (tIfS tc t u):=by
 intro pins s σ H D I h
 refine wpAny_If (thn (hc pins s σ H _ I h) fun d s1 ⟨H1,I1,q1⟩=>?_)
 cases d with
 |true=>exact ha pins s1 σ H1 D I1 q1
 |false=>exact hb pins s1 σ H1 D I1 q1
end
noncomputable abbrev TG:=V->St->Hp->(St->Hp->Prop)->Prop
noncomputable abbrev TGs:=List V->St->Hp->(St->Hp->Prop)->Prop
noncomputable def PG(X:Cx)(target:Expr)(t:TG):Prop:=
 ∀(pins:List (Addr×Obj))(s:Shared)(σ:St)(H:Hp)(v:V)(u:Value)(Q:St->Hp->Prop),Inv X pins σ H s->RelV v u->t v σ H Q->
  wpAny (model X.prog X.w) X.A (assign target X.env u) (fun _ s'=>∃σ' H',Inv X pins σ' H' s'/\Q σ' H') X.xe s
noncomputable def PGs(X:Cx)(ts:List Expr)(t:TGs):Prop:=
 ∀(pins:List (Addr×Obj))(s:Shared)(σ:St)(H:Hp)(vs:List V)(us:List Value)(Q:St->Hp->Prop),Inv X pins σ H s->Vals vs us->t vs σ H Q->
  wpAny (model X.prog X.w) X.A (assignInOrder ((assignEach ts X.env).map (·.2)) us) (fun _ s'=>∃σ' H',Inv X pins σ' H' s'/\Q σ' H') X.xe s
noncomputable abbrev TSet:=V->V->V->Hp->(Hp->Prop)->Prop
noncomputable def PSet(X:Cx)(t:TSet):Prop:=
 ∀(pins:List (Addr×Obj))(s:Shared)(σ:St)(H:Hp)(o i v:V)(ov iv u:Value)(Q:Hp->Prop),Inv X pins σ H s->RelV o ov->RelV i iv->RelV v u->t o i v H Q->
  wpAny (model X.prog X.w) X.A (setItem ov iv u) (fun _ s'=>∃H',Inv X pins σ H' s'/\Q H') X.xe s
noncomputable abbrev TIp:=V->V->Hp->VK->Prop
noncomputable def PIp(X:Cx)(op:Operator)(t:TIp):Prop:=
 ∀(pins:List (Addr×Obj))(s:Shared)(σ:St)(H:Hp)(x y:V)(v u:Value)(Q:VK),Inv X pins σ H s->RelV x v->RelV y u->t x y H Q->
  wpAny (model X.prog X.w) X.A (inplaceOp op v u) (EP X pins σ Q) X.xe s
section
variable{X:Cx}{pos:Pos}
noncomputable def VD(i:Nat):TG:=fun v σ H Q=>Q (σ.set i (some v)) H
theorem Z2{i:Nat}{x:Str}(hN:X.N.Nodup)(hi:X.N[i]?=some x)(hx:Loc X.env.scope x)(hf:X.fn x=true\/X.env.scope.names.lookup x=some .local:=by first|exact .inl rfl|exact .inr rfl|assumption):PG X (.Name x pos) (VD i):=by
 intro pins s σ H v u Q I r h
 exact wpAny_assign_Name (Qc I hN hi hx r (fun s' I'=>⟨_,H,I',h⟩) hf)
noncomputable def gNil:TGs:=fun vs σ H Q=>vs=[]/\Q σ H
noncomputable def gCons(t:TG)(u:TGs):TGs:=fun vs σ H Q=>∃v r,vs=v::r/\t v σ H fun σ' H'=>u r σ' H' Q
theorem WD:PGs X [] gNil:=by
 intro pins s σ H vs us Q I r h
 obtain⟨e,h⟩:=h
 subst e
 cases r
 exact assignInOrder_nil ⟨σ,H,I,h⟩
theorem YO{e:Expr}{es:List Expr}{t:TG}{u:TGs}(h1:PG X e t)(h2:PGs X es u)
  (hs:(assignEach (e::es) X.env).map (·.2)=assign e X.env::(assignEach es X.env).map (·.2):=by rfl):PGs X (e::es) (gCons t u):=by
 intro pins s σ H vs us Q I r h
 obtain⟨v,vr,e1,h⟩:=h
 subst e1
 cases r with
 |cons r rr=>
  rw[hs]
  refine assignInOrder_cons (thn (h1 pins s σ H _ _ _ I r h) fun _ s1 ⟨σ1,H1,I1,q1⟩=>?_)
  exact h2 pins s1 σ1 H1 _ _ Q I1 rr q1
noncomputable def gTup(K:PySem.W.Frag)(n:Nat)(t:TGs):TG:=fun v σ H Q=>∃a xs,v=.ref a/\SqT K H a xs/\xs.length=n/\t xs σ H Q
theorem Qv{es:List Expr}{k:Nat}{t:TGs}{n:Nat}(hc:X.calm=true)(h:PGs X es t)
  (hn:(assignEach es X.env).length=n:=by rfl) (hst:(assignEach es X.env).findIdx? (·.1)=none:=by rfl):PG X (.Tuple es k pos) (gTup X.K n t):=by
 intro pins s σ H v u Q I r hw
 obtain⟨a,xs,e1,hq,hl,hw⟩:=hw
 subst e1
 cases r
 obtain⟨its,rv,ht,hz⟩:=I.tuple hq
 refine assign_Tuple_tuple (I.ok.hd hc) ht (by simp[hn,<-hl,rv.length]) hst fun h' hx=>?_
 have I1:Inv X pins σ H {s with heap:=h'}:=I.kept (t':=s.toks) fun b o e=>hx b o (Z0 (ZF e)) e
 exact h pins _ σ H xs _ Q I1 (by simpa using rv) hw
noncomputable def gSub(to ti:TE)(t:TSet):TG:=fun v σ H Q=>to σ H fun o H1=>ti σ H1 fun i H2=>t o i v H2 fun H3=>Q σ H3
theorem pg_sub{o i:Expr}{to ti:TE}{t:TSet}(ho:PE X o to)(hi:PE X i ti)(hs:PSet X t)
  (ha:∀v,assign (.Subscript o i pos) X.env v=(do
   let ov<-holding [v] (eval o X.env)
   let iv<-holding [v,ov] (eval i X.env)
   standAt pos
   holding [v,ov,iv] (setItem ov iv v)
   release [v,ov,iv] []):=by intro _;rfl):PG X (.Subscript o i pos) (gSub to ti t):=by
 intro pins s σ H v u Q I r h
 rw[ha]
 refine Zc (YV (thn (ho pins s σ H _ I h) fun ov s1 ⟨x,H1,I1,r1,q1⟩=>?_))
 refine Zc (YV (thn (hi pins s1 σ H1 _ I1 q1) fun iv s2 ⟨y,H2,I2,r2,q2⟩=>?_))
 refine Zc (wpAny_standAt (Zc (YV (thn (hs pins s2 σ H2 x y v ov iv u _ I2 r1 r2 r q2) fun _ s3 ⟨H3,I3,q3⟩=>?_))))
 exact wpAny_release ⟨σ,H3,I3,q3⟩
noncomputable def tAsg(te:TE)(g:TG):TS:=fun D σ H=>te σ H fun x H1=>g x σ H1 D.nx
theorem ps_asg{tg e:Expr}{te:TE}{g:TG}(he:PE X e te)(hg:PG X tg g)(hs:swapsWithSole [tg] e pos.line X.env=pure false:=by rfl)(hw:swappedStores [tg] e X.env=pure none:=by rfl)
  (h1:(assignEach [tg] X.env).map (·.2)=[assign tg X.env]:=by rfl):PS X (.Assign [tg] e pos) (tAsg te g):=by
 intro pins s σ H D I h
 refine wpAny_Assign_stores (thn (he pins s σ H _ I h) fun v s1 ⟨x,H1,I1,r1,q1⟩=>?_) hs hw
 rw[h1]
 exact thn (hg pins s1 σ H1 x v _ I1 r1 q1) fun _ s2 q=>q
theorem ZZ{i:Nat}{x:Str}{e:Expr}{te:TE}{pos':Pos}(hN:X.N.Nodup)(hi:X.N[i]?=some x)(hx:Loc X.env.scope x)(he:PE X e te)(hs:swapsWith e (some (.Name x pos')) pos.line X.env=pure false:=by rfl)(hf:X.fn x=true\/X.env.scope.names.lookup x=some .local:=by first|exact .inl rfl|exact .inr rfl|assumption):
  PS X (.Assign [.Name x pos'] e pos) (tAsg te (VD i)):=by
 intro pins s σ H D I h
 refine wpAny_Assign_Name (thn (he pins s σ H _ I h) fun v s1 ⟨y,H1,I1,r1,q1⟩=>?_) hs
 exact Qc I1 hN hi hx r1 (fun s2 I2=>⟨_,H1,I2,q1⟩) hf
noncomputable def tAug(i:Nat)(te:TE)(ti:TIp):TS:=fun D σ H=>∃x,σ[i]?=some (some x)/\te σ H fun y H1=>ti x y H1 fun z H2=>D.nx (σ.set i (some z)) H2
theorem MO{i:Nat}{x:Str}{e:Expr}{te:TE}{op:Operator}{ti:TIp}{pos':Pos}(hN:X.N.Nodup)(hi:X.N[i]?=some x)(hx:Loc X.env.scope x)(he:PE X e te)(ho:PIp X op ti)(hf:X.fn x=true\/X.env.scope.names.lookup x=some .local:=by first|exact .inl rfl|exact .inr rfl|assumption):
  PS X (.AugAssign (.Name x pos') op e pos) (tAug i te ti):=by
 intro pins s σ H D I h
 obtain⟨v,e1,h⟩:=h
 obtain⟨m,hn,hl⟩:=I.loc
 have vis:Vis X.env.scope x:=by rcases hx with k|k;exact .inl k;exact .inr (.inl k)
 obtain⟨u,r,l⟩:=hl i x v hi e1 vis
 refine wpAny_AugAssign_Name ?_
 have go:wpAny (model X.prog X.w) X.A (eval e X.env) (fun w s₂=>wpAny (model X.prog X.w) X.A (inplaceOp op u w) (fun r s₃=>wpAny (model X.prog X.w) X.A (storeName X.env x r) (fun _=>SP X pins D .next) X.xe s₃) X.xe s₂) X.xe s:=by
  refine thn (he pins s σ H _ I h) fun w s1 ⟨y,H1,I1,r1,q1⟩=>?_
  refine thn (ho pins s1 σ H1 v y u w _ I1 r r1 q1) fun z s2 ⟨zv,H2,I2,r2,q2⟩=>?_
  exact Qc I2 hN hi hx r2 (fun s3 I3=>⟨_,H2,I3,q2⟩) hf
 rcases l with⟨hk,hm⟩|⟨hk,c,hc,hcell⟩
 ·exact wpAny_loadName_local I.ok.kind hk hn hm go
 ·rcases hk with hk|hk
  ·exact wpAny_loadName_cell I.ok.kind hk hc hcell go
  ·rcases hx with k|k
   ·have:X.env.scope.names.lookup x=some .free:=hk
    rw[k]at this;cases this
   ·have:X.env.scope.names.lookup x=some .free:=hk
    rw[k]at this;cases this
noncomputable def ipI(f:Int->Int->Int):TIp:=fun x y H Q=>∃i j,x=.int i/\y=.int j/\Q (.int (f i j)) H
theorem M8:PIp X .Add (ipI fun i j=>i+j):=by
 intro pins s σ H x y v u Q I r1 r2 h
 obtain⟨i,j,e1,e2,q⟩:=h
 subst e1;subst e2
 obtain⟨t,rfl⟩:=r1
 obtain⟨t',rfl⟩:=r2
 exact iadd_int ⟨.int _,H,I.tok _,⟨_,rfl⟩,q⟩
end
section
variable{X:Cx}{pos:Pos}
noncomputable def tWhile(c:TT)(tb:TS):TS:=fun D σ H=>∃W:Nat->St->Hp->Prop,(∃m,W m σ H)/\∀m σ H,W m σ H->
 c σ H fun b H1=>if b=true then∃N:St->Hp->Prop,(∀σ' H',N σ' H'->∃m',m'<m/\W m' σ' H')/\tb {D with nx:=N,ct:=N,bk:=D.nx} σ H1 else D.nx σ H1
theorem NP{c:Expr}{body:List Stmt}{tc:TT}{tb:TS}(hp:PassesOwn (model X.prog X.w) X.A X.env X.xe)(hc:PT X c tc)(hb:PSs X body tb):PS X (.While c body [] pos) (tWhile tc tb):=by
 intro pins s σ H D I h
 obtain⟨W,⟨m0,w0⟩,turn⟩:=h
 refine wpAny_While (codeAny_whileLoop (fun n s'=>∃σ' H',Inv X pins σ' H' s'/\W n σ' H') ?_ m0 ⟨σ,H,I,w0⟩)
 rintro n s1 ⟨σ1,H1,I1,w1⟩
 refine Wt hp (thn (hc pins s1 σ1 H1 _ I1 (turn n σ1 H1 w1)) fun b s2 ⟨H2,I2,q2⟩=>?_)
 cases b with
 |true=>
  obtain⟨N,hN,q2⟩:=q2
  rw[if_pos rfl]
  refine Wt hp (thn (hb pins s2 σ1 H2 _ I2 q2) fun f s3 q3=>?_)
  cases f with
  |next=>
   obtain⟨σ3,H3,I3,n3⟩:=q3
   obtain⟨m',hm,w3⟩:=hN σ3 H3 n3
   exact⟨m',hm,σ3,H3,I3,w3⟩
  |cont=>
   obtain⟨σ3,H3,I3,n3⟩:=q3
   obtain⟨m',hm,w3⟩:=hN σ3 H3 n3
   exact⟨m',hm,σ3,H3,I3,w3⟩
  |brk=>exact q3
  |ret v=>exact q3
 |false=>
  rw[if_neg ZM]
  exact wpAny_execs_nil ⟨σ1,H2,I2,q2⟩
end
structure It where
 go:Nat->Hp->Prop
 yld:Nat->Hp->V->Hp->Prop
 stop:Nat->Hp->Prop
noncomputable def FpOk(X:Cx)(pins:List (Addr×Obj))(H:Hp)(b:Addr):Prop:=
 H b=none/\b≠X.env.locals/\b∉X.fs/\(b∈X.ex\/X.s_0.heap.objs.size<=b)/\(∀x c,X.env.cells.lookup x=some c->c≠b)/\∀p∈X.pn++pins,p.1≠b
theorem Inv.fpOk{X:Cx}{pins:List (Addr×Obj)}{σ:St}{H H':Hp}{s:Shared}{b:Addr}(I:Inv X pins σ H s)(hb:s.heap.objs.size<=b)(hn:H' b=none):FpOk X pins H' b:=by
 refine⟨hn,Nat.ne_of_gt (ZX I.lt hb),I.nofs hb,.inr (Zi I.sz hb),fun x c e z=>?_,fun p hp z=>?_⟩
 ·obtain⟨v,q⟩:=I.cell x c e
  exact absurd (ZX q.lt (by rw[z];exact hb)) (YZ _)
 ·exact absurd (ZX (ZF (I.pin p hp).1) (by rw[z];exact hb)) (YZ _)
structure Turn(P:Program)(w:World)(K:PySem.W.Frag)(tg:Expr)(J:It)(fp:List Addr)(it:Addr)(tn:Nat->Heap->Prop):Prop where
 mem:it∈fp
 obj:∀i h,tn i h->∀b∈fp,∃o,h.get? b=some o/\∀v,o.data≠ .cell v
 keep:∀i h h',tn i h->(∀b∈fp,∀o,h.get? b=some o->h'.get? b=some o)->tn i h'
 item:∀(X:Cx),X.prog=P->X.w=w->X.K=K->X.calm=true->∀(i:Nat)(pins:List (Addr×Obj))(s:Shared)(σ:St)(H:Hp)(E:Value->Shared->Prop),Inv X pins σ H s->(∀b∈fp,FpOk X pins H b)->tn i s.heap->J.go i H->
  wpAny (model P w) X.A (pyNext (.ref it)) (fun r s1=>∃u,r=some u/\
   wpAny (model P w) X.A (letOwnedTupleGo tg (.ref it) u) (fun _ s2=>∃x H',Inv X pins σ H' s2/\RelV x u/\J.yld i H x H'/\tn (i+1) s2.heap/\∀b∈fp,H' b=none) E s1) E s
 done:∀(X:Cx),X.prog=P->X.w=w->X.K=K->X.calm=true->∀(i:Nat)(pins:List (Addr×Obj))(s:Shared)(σ:St)(H:Hp)(E:Value->Shared->Prop),Inv X pins σ H s->(∀b∈fp,FpOk X pins H b)->tn i s.heap->J.stop i H->
  wpAny (model P w) X.A (pyNext (.ref it)) (fun r s1=>r=none/\Inv X pins σ H s1) E s
 self:∀(A:Around)(i:Nat)(s:Shared)(Q:Value->Shared->Prop)(E:Value->Shared->Prop),tn i s.heap->Q (.ref it) s->wpAny (model P w) A (pyIter (.ref it)) Q E s
noncomputable abbrev TI:=St->Hp->(It->Hp->Prop)->Prop
noncomputable def PIE(X:Cx)(pins:List (Addr×Obj))(σ:St)(tg:Expr)(R:It->Hp->Prop)(itv:Value)(s2:Shared):Prop:=
 ∃(it:Addr)(fp:List Addr)(tn:Nat->Heap->Prop)(J:It)(H':Hp),itv=.ref it/\Inv X pins σ H' s2/\Turn X.prog X.w X.K tg J fp it tn/\tn 0 s2.heap/\(∀b∈fp,FpOk X pins H' b)/\R J H'
noncomputable def PI(X:Cx)(tg iter:Expr)(wi:TI):Prop:=
 ∀(pins:List (Addr×Obj))(s:Shared)(σ:St)(H:Hp)(R:It->Hp->Prop),Inv X pins σ H s->wi σ H R->
  wpAny (model X.prog X.w) X.A (eval iter X.env) (fun v s1=>wpAny (model X.prog X.w) X.A (pyIter v) (PIE X pins σ tg R) X.xe s1) X.xe s
theorem LQ{M:Model}{A:Around}{E:Value->Shared->Prop}{s:Shared}{tg:Expr}{it:Addr}{u:Value}{o:Obj}{n:String}{vs:Array Value}{Q:Unit->Shared->Prop}(ho:s.heap.get? it=some o)(hc:o.cls=.type n)(hd:o.data=.fields vs)
  (hn:["enumerate","zip","dict_itemiterator","dict_reverseitemiterator","odict_iterator","itertools.zip_longest","itertools.pairwise"].contains n=false) (hQ:Q () s):wpAny M A (letOwnedTupleGo tg (.ref it) u) Q E s:=by
 unfold letOwnedTupleGo
 cases tg<;>first
  |exact Zq hQ
  |(cases u<;>first
    |exact Zq hQ
    |(refine Zc (wpAny_load ho ?_)
      rw[hc,hd]
      show wpAny M A (if(["enumerate","zip","dict_itemiterator","dict_reverseitemiterator","odict_iterator","itertools.zip_longest","itertools.pairwise"].contains n&&vs[0]? ==some (rawInt _))=true then _ else _) Q E s
      rw[if_neg (by intro h;rw[hn,Bool.false_and]at h;cases h)]
      exact Zq hQ))
noncomputable def Itl(K:PySem.W.Frag)(a:Addr):It:=
 ⟨fun i H=>∃xs x,SqL K H a xs/\xs[i]?=some x,fun i H x H'=>H'=H/\∀xs,SqL K H a xs->xs[i]?=some x,fun i H=>∃xs,SqL K H a xs/\xs.length<=i⟩
noncomputable def Itt(K:PySem.W.Frag)(a:Addr):It:=
 ⟨fun i H=>∃xs x,SqT K H a xs/\xs[i]?=some x,fun i H x H'=>H'=H/\∀xs,SqT K H a xs->xs[i]?=some x,fun i H=>∃xs,SqT K H a xs/\xs.length<=i⟩
noncomputable def Itr(lo:Int)(n:Nat):It:=⟨fun i _=>i<n,fun i H x H'=>H'=H/\x=.int (lo+i),fun i _=>n<=i⟩
theorem L7{P:Program}{w:World}{K:PySem.W.Frag}{tg:Expr}(a it:Addr):Turn P w K tg (Itl K a) [it] it (fun i h=>h.IsListIter it a i)where
 mem:=by simp
 obj:=fun i h st b hb=>by
  have e:b=it:=by simpa using hb
  subst e
  obtain⟨o,e,c,d⟩:=st
  exact⟨o,e,fun v z=>by rw[d]at z;cases z⟩
 keep:=fun i h h' st k=>st.at fun o e=>k it (by simp) o e
 item:=by
  intro X hP hw hK hc i pins s σ H E I hf st hg
  subst hP hw hK
  obtain⟨xs,x,hq,hx⟩:=hg
  obtain⟨its,rv,p,hz⟩:=I.list hq
  obtain⟨u,hu,ru⟩:=rv.get hx
  obtain⟨f0,f1,f2,f3,f4,f5⟩:=hf it (by simp)
  refine wpAny_pyNext_list_item st p.isList (x:=u) (by simpa using hu) fun h' st' sb=>?_
  have I1:Inv X pins σ H {s with heap:=h'}:=I.turned (t':=s.toks) (fun b o hb e=>(sb.2 b hb).trans e) f0 f1 f3 f4 f5
  obtain⟨o,e,c,d⟩:=id st'
  exact⟨u,rfl,LQ (s:={s with heap:=h'}) e c d (by decide) ⟨x,H,I1,ru,⟨rfl,fun ys hy=>by rw[I.list_inj hy hq];exact hx⟩,st',fun b hb=>(hf b hb).1⟩⟩
 done:=by
  intro X hP hw hK hc i pins s σ H E I hf st hg
  subst hP hw hK
  obtain⟨xs,hq,hx⟩:=hg
  obtain⟨its,rv,p,hz⟩:=I.list hq
  obtain⟨f0,f1,f2,f3,f4,f5⟩:=hf it (by simp)
  have hl:=rv.length
  exact wpAny_pyNext_list_end (I.ok.hd hc) st p.isList (by simp;omega) fun h' eb=>⟨rfl,I.turned (t':=s.toks) (fun b o hb e=>eb b o hb e) f0 f1 f3 f4 f5⟩
 self:=fun _ _ _ _ _ st h=>wpAny_pyIter_listiter st h
theorem Mw{P:Program}{w:World}{K:PySem.W.Frag}{tg:Expr}(a it:Addr):Turn P w K tg (Itt K a) [it] it (fun i h=>h.IsTupleIter it a i)where
 mem:=by simp
 obj:=fun i h st b hb=>by
  have e:b=it:=by simpa using hb
  subst e
  obtain⟨o,e,c,d⟩:=st
  exact⟨o,e,fun v z=>by rw[d]at z;cases z⟩
 keep:=fun i h h' st k=>st.at fun o e=>k it (by simp) o e
 item:=by
  intro X hP hw hK hc i pins s σ H E I hf st hg
  subst hP hw hK
  obtain⟨xs,x,hq,hx⟩:=hg
  obtain⟨its,rv,p,hz⟩:=I.tuple hq
  obtain⟨u,hu,ru⟩:=rv.get hx
  obtain⟨f0,f1,f2,f3,f4,f5⟩:=hf it (by simp)
  refine wpAny_pyNext_tuple_item st (show s.heap.IsTuple a its.toArray from p) (x:=u) (by simpa using hu) fun h' st' sb=>?_
  have I1:Inv X pins σ H {s with heap:=h'}:=I.turned (t':=s.toks) (fun b o hb e=>(sb.2 b hb).trans e) f0 f1 f3 f4 f5
  obtain⟨o,e,c,d⟩:=id st'
  exact⟨u,rfl,LQ (s:={s with heap:=h'}) e c d (by decide) ⟨x,H,I1,ru,⟨rfl,fun ys hy=>by rw[I.tuple_inj hy hq];exact hx⟩,st',fun b hb=>(hf b hb).1⟩⟩
 done:=by
  intro X hP hw hK hc i pins s σ H E I hf st hg
  subst hP hw hK
  obtain⟨xs,hq,hx⟩:=hg
  obtain⟨its,rv,p,hz⟩:=I.tuple hq
  obtain⟨f0,f1,f2,f3,f4,f5⟩:=hf it (by simp)
  have hl:=rv.length
  exact wpAny_pyNext_tuple_end (I.ok.hd hc) st (show s.heap.IsTuple a its.toArray from p) (by simp;omega) fun h' eb=>⟨rfl,I.turned (t':=s.toks) (fun b o hb e=>eb b o hb e) f0 f1 f3 f4 f5⟩
 self:=fun _ _ _ _ _ st h=>wpAny_pyIter_tupleiter st h
theorem Mx{P:Program}{w:World}{K:PySem.W.Frag}{tg:Expr}(it:Addr)(lo:Int)(n:Nat):Turn P w K tg (Itr lo n) [it] it (fun i h=>IsRangeIter h it (lo+(i:Nat)*1) ((n:Int)-(i:Nat)) 1)where
 mem:=by simp
 obj:=fun i h st b hb=>by
  have e:b=it:=by simpa using hb
  subst e
  exact⟨_,st,fun v z=>by
   have z':Data.fields _=Data.cell v:=z
   cases z'⟩
 keep:=fun i h h' st k=>k it (by simp) _ st
 item:=by
  intro X hP hw hK hc i pins s σ H E I hf st hg
  subst hP hw hK
  obtain⟨f0,f1,f2,f3,f4,f5⟩:=hf it (by simp)
  have W:=Walks.range (prog:=X.prog) (w:=X.w) (I.ok.hd hc) it lo 1 n
  refine W.item i s _ _ hg st fun v h' tk hv st' kk=>?_
  obtain⟨t,rfl⟩:=hv
  have I1:Inv X pins σ H {s with heap:=h',toks:=tk}:=I.turned (fun b o hb e=>kk b o (by simpa using hb) e) f0 f1 f3 f4 f5
  refine⟨_,rfl,LQ (s:={s with heap:=h',toks:=tk}) (n:="range_iterator") st' rfl rfl (by decide) ⟨.int (lo+i),H,I1,⟨t,?_⟩,⟨rfl,rfl⟩,st',fun b hb=>(hf b hb).1⟩⟩
  rw[Int.mul_one]
 done:=by
  intro X hP hw hK hc i pins s σ H E I hf st hg
  subst hP hw hK
  obtain⟨f0,f1,f2,f3,f4,f5⟩:=hf it (by simp)
  exact wpAny_pyNext_range_end (I.ok.hd hc) st (by have:n<=i:=hg;omega) fun h' eb=>⟨rfl,I.turned (t':=s.toks) (fun b o hb e=>eb b o hb e) f0 f1 f3 f4 f5⟩
 self:=fun _ _ _ _ _ st h=>wpAny_pyIter_rangeiter st h
end L2
namespace L2
open PySem PySem.Spec PyProof.Rows
section
variable{X:Cx}{tg:Expr}
noncomputable def iList(K:PySem.W.Frag)(tl:TE):TI:=fun σ H R=>tl σ H fun x H1=>∃a,x=.ref a/\(∃xs,SqL K H1 a xs)/\R (Itl K a) H1
noncomputable def iTup(K:PySem.W.Frag)(tl:TE):TI:=fun σ H R=>tl σ H fun x H1=>∃a,x=.ref a/\(∃xs,SqT K H1 a xs)/\R (Itt K a) H1
theorem YN{l:Expr}{tl:TE}(hl:PE X l tl):PI X tg l (iList X.K tl):=by
 intro pins s σ H R I h
 refine thn (hl pins s σ H _ I h) fun v s1 ⟨x,H1,I1,r1,q1⟩=>?_
 obtain⟨a,e,⟨xs,hq⟩,q⟩:=q1
 subst e
 cases r1
 obtain⟨its,rv,p,hz⟩:=I1.list hq
 refine wpAny_pyIter_list p.isList ?_
 refine⟨s1.heap.objs.size,[s1.heap.objs.size],_,_,H1,rfl,I1.kept (t':=s1.toks) fun b o e=>Zz _ e,L7 a _,⟨_,ZW _ rfl,rfl,rfl⟩,fun b hb=>?_,q⟩
 have e:b=s1.heap.objs.size:=by simpa using hb
 subst e
 exact I1.fpOk (Zl _) (I1.hok.fresh (Zl _))
theorem pi_tup{l:Expr}{tl:TE}(hl:PE X l tl):PI X tg l (iTup X.K tl):=by
 intro pins s σ H R I h
 refine thn (hl pins s σ H _ I h) fun v s1 ⟨x,H1,I1,r1,q1⟩=>?_
 obtain⟨a,e,⟨xs,hq⟩,q⟩:=q1
 subst e
 cases r1
 obtain⟨its,rv,p,hz⟩:=I1.tuple hq
 refine wpAny_pyIter_tuple (show s1.heap.IsTuple a its.toArray from p) ?_
 refine⟨s1.heap.objs.size,[s1.heap.objs.size],_,_,H1,rfl,I1.kept (t':=s1.toks) fun b o e=>Zz _ e,Mw a _,⟨_,ZW _ rfl,rfl,rfl⟩,fun b hb=>?_,q⟩
 have e:b=s1.heap.objs.size:=by simpa using hb
 subst e
 exact I1.fpOk (Zl _) (I1.hok.fresh (Zl _))
theorem range_it{pins:List (Addr×Obj)}{σ:St}{H:Hp}{s:Shared}{R:It->Hp->Prop}{E:Value->Shared->Prop}{lo hi:Int}{t u v:Tok}{tk:Nat}(I:Inv X pins σ H s)(h1: -(2^62)<=lo)(h2:lo<2^62)(h3: -(2^62)<=hi)(h4:hi<2^62)
  (q:R (Itr lo (hi-lo).toNat) H):wpAny (model X.prog X.w) X.A (pyIter (.ref s.heap.objs.size)) (PIE X pins σ tg R) E {s with heap:=s.heap.push {cls:=.type "range",data:=.fields #[.int lo t,.int hi u,.int 1 v]},toks:=tk}:=by
 refine wpAny_pyIter_range (IsRange.new ..) (small_one h1 h2 h3 h4) ?_
 have I1:Inv X pins σ H {s with heap:=s.heap.push {cls:=.type "range",data:=.fields #[.int lo t,.int hi u,.int 1 v]},toks:=tk}:=I.kept fun b o e=>Zz _ e
 refine⟨(s.heap.push {cls:=.type "range",data:=.fields #[.int lo t,.int hi u,.int 1 v]}).objs.size,[(s.heap.push {cls:=.type "range",data:=.fields #[.int lo t,.int hi u,.int 1 v]}).objs.size],_,_,H,rfl,
  I1.kept (t':=tk) fun b o e=>Zz _ e,Mx _ lo (hi-lo).toNat,?_,fun b hb=>?_,q⟩
 ·have e1:lo+((0:Nat):Int)*1=lo:=by simp
  have e2:(((hi-lo).toNat:Nat):Int)-((0:Nat):Int)=Builtin.Range.rangeSize lo hi 1:=by rw[rangeSize_one];split<;>omega
  show IsRangeIter _ _ (lo+((0:Nat):Int)*1) ((((hi-lo).toNat:Nat):Int)-((0:Nat):Int)) 1
  rw[e1,e2]
  exact ZW _ rfl
 ·have e:b=(s.heap.push {cls:=.type "range",data:=.fields #[.int lo t,.int hi u,.int 1 v]}).objs.size:=by simpa using hb
  subst e
  exact I1.fpOk (Zl _) (I1.hok.fresh (Zl _))
noncomputable def iRng1(ta:TA):TI:=fun σ H R=>ta σ H fun vs H1=>∃j:Int,vs=[.int j]/\ -(2^62)<=j/\j<2^62/\R (Itr 0 j.toNat) H1
theorem Og{a:Expr}{ta:TA}{p pos:Pos}(hg:Gl X "range")(hm:X.mg "range"=none)(ha:PA X [a] ta)(hs:starEach [a] X.env=[(false,eval a X.env)]:=by rfl):PI X tg (.Call (.Name "range" p) [a] [] pos) (iRng1 ta):=by
 intro pins s σ H R I h
 refine Call_ (VY I hg hm boot_range (Ym (thn (ha pos pins s σ H _ I h) fun us s1 ⟨vs,H1,I1,r1,q1⟩=>?_) hs rfl))
 obtain⟨j,e,q1,q2,q⟩:=q1
 subst e
 cases r1 with
 |cons r rr=>
  cases rr
  obtain⟨t,rfl⟩:=r
  exact call_range_1 (range_it I1 (by omega) (by omega) q1 q2 (by simpa using q))
noncomputable def tFor(wi:TI)(g:TG)(tb:TS):TS:=fun D σ H=>wi σ H fun J H1=>∃W:Nat->Nat->St->Hp->Prop,(∃m,W 0 m σ H1)/\∀i m σ H,W i m σ H->
 (J.stop i H/\D.nx σ H)\/(J.go i H/\∃N:St->Hp->Prop,(∀σ' H',N σ' H'->∃m',m'<m/\W (i+1) m' σ' H')/\∀x H',J.yld i H x H'->g x σ H' fun σ2 H2=>tb {D with nx:=N,ct:=N,bk:=D.nx} σ2 H2)
noncomputable def Qt(fp:List Addr)(h:Heap):List (Addr×Obj):=fp.filterMap fun b=>(h.get? b).map fun o=>(b,o)
theorem T6{fp:List Addr}{h:Heap}{b:Addr}{o:Obj}(hb:b∈fp)(e:h.get? b=some o):(b,o)∈Qt fp h:=List.mem_filterMap.mpr ⟨b,hb,by rw[e];rfl⟩
theorem Kt{fp:List Addr}{h:Heap}{p:Addr×Obj}(hp:p∈Qt fp h):p.1∈fp/\h.get? p.1=some p.2:=by
 obtain⟨b,hb,e⟩:=List.mem_filterMap.mp hp
 cases q:h.get? b with
 |none=>rw[q]at e;cases e
 |some o=>
  rw[q]at e
  have e':(b,o)=p:=ZC e
  subst e'
  exact⟨hb,q⟩
theorem Inv.pinned{pins:List (Addr×Obj)}{σ:St}{H:Hp}{s:Shared}{fp:List Addr}(I:Inv X pins σ H s)(hf:∀b∈fp,FpOk X pins H b)(ho:∀b∈fp,∃o,s.heap.get? b=some o/\∀v,o.data≠ .cell v):Inv X (pins++Qt fp s.heap) σ H s:=
 I.pins_of fun p hp=>(Zs.mp hp).elim (fun z=>I.pin p (YA _ z)) fun z=>by
  obtain⟨hb,e⟩:=Kt z
  obtain⟨f0,f1,f2,_⟩:=hf p.1 hb
  obtain⟨o,e',d⟩:=ho p.1 hb
  rw[e]at e';cases e'
  exact⟨e,f0,f1,f2,d⟩
theorem Inv.unpinned{pins pl:List (Addr×Obj)}{σ:St}{H:Hp}{s:Shared}(I:Inv X (pins++pl) σ H s):Inv X pins σ H s:=I.pins_of fun p hp=>I.pin p (YA _ (Yo _ hp))
theorem VU{iter:Expr}{body:List Stmt}{wi:TI}{g:TG}{tb:TS}{pos:Pos}(hp:PassesOwn (model X.prog X.w) X.A X.env X.xe)(hc:X.calm=true)(hi:PI X tg iter wi)(hg:PG X tg g)(hb:PSs X body tb)
  (hs:∀x,foldedSetIterable iter X.env x=pure x:=by intro _;rfl):PS X (.For tg iter body [] pos) (tFor wi g tb):=by
 intro pins s σ H D I h
 refine wpAny_For (thn (hi pins s σ H _ I h) fun v s1 h1=>thn h1 fun itv s2 h2=>?_) hs
 obtain⟨it,fp,tn,J,H2,e,I2,T,st2,f2,W,⟨m0,w0⟩,turn⟩:=h2
 subst e
 have stat:∀{H':Hp},(∀b∈fp,H' b=none)->∀b∈fp,FpOk X pins H' b:=fun hn b hb=>⟨hn b hb,(f2 b hb).2⟩
 refine codeAny_forLoop_any (fun n s'=>∃i σ' H',Inv X pins σ' H' s'/\tn i s'.heap/\(∀b∈fp,H' b=none)/\W i n σ' H') ?_ m0 ⟨0,σ,H2,I2,st2,fun b hb=>(f2 b hb).1,w0⟩
 rintro n s3 ⟨i,σ3,H3,I3,st3,fr3,w3⟩
 rcases turn i n σ3 H3 w3 with⟨stop,qn⟩|⟨go,N,hN,step⟩
 ·refine Wt hp (thn (T.done X rfl rfl rfl hc i pins s3 σ3 H3 X.xe I3 (stat fr3) st3 stop) fun r s4 ⟨hr,I4⟩=>?_)
  subst hr
  exact wpAny_execs_nil ⟨σ3,H3,I4,qn⟩
 ·refine Wt hp (thn (T.item X rfl rfl rfl hc i pins s3 σ3 H3 X.xe I3 (stat fr3) st3 go) fun r s4 ⟨u,hr,h4⟩=>?_)
  subst hr
  refine Wt hp (thn h4 fun _ s5 ⟨x,H5,I5,r5,y5,st5,fr5⟩=>?_)
  have I5':=I5.pinned (stat fr5) (T.obj _ _ st5)
  refine Wt hp (thn (hg _ s5 σ3 H5 x u _ I5' r5 (step x H5 y5)) fun _ s6 ⟨σ6,H6,I6,q6⟩=>?_)
  refine Wt hp (thn (hb _ s6 σ6 H6 _ I6 q6) fun f s7 q7=>?_)
  have again:∀{σ7:St}{H7:Hp},Inv X (pins++Qt fp s5.heap) σ7 H7 s7->N σ7 H7->∃m,m<n/\∃i σ' H',Inv X pins σ' H' s7/\tn i s7.heap/\(∀b∈fp,H' b=none)/\W i m σ' H':=fun{σ7 H7} I7 n7=>by
   obtain⟨m',hm,w7⟩:=hN σ7 H7 n7
   refine⟨m',hm,i+1,σ7,H7,I7.unpinned,T.keep _ _ _ st5 fun b hb o e=>(I7.pin (b,o) (YA _ (YA _ (T6 hb e)))).1,fun b hb=>?_,w7⟩
   obtain⟨o,e,d⟩:=T.obj _ _ st5 b hb
   exact(I7.pin (b,o) (YA _ (YA _ (T6 hb e)))).2.1
  cases f with
  |next=>obtain⟨σ7,H7,I7,n7⟩:=q7;exact again I7 n7
  |cont=>obtain⟨σ7,H7,I7,n7⟩:=q7;exact again I7 n7
  |brk=>obtain⟨σ7,H7,I7,q7⟩:=q7;exact⟨σ7,H7,I7.unpinned,q7⟩
  |ret v=>obtain⟨x7,σ7,H7,I7,r7,q7⟩:=q7;exact⟨x7,σ7,H7,I7.unpinned,r7,q7⟩
end
theorem V0{K:PySem.W.Frag}{a:Addr}{xs:List V}{g:TG}{tb:TS}{D:Ends}{σ:St}{H:Hp}(Pv:Nat->St->Hp->Prop)(h0:Pv 0 σ H)(hl:∀i σ H,i<=xs.length->Pv i σ H->SqL K H a xs)
  (hs:∀i x σ H,xs[i]?=some x->Pv i σ H->g x σ H fun σ2 H2=>tb {D with nx:=Pv (i+1),ct:=Pv (i+1),bk:=D.nx} σ2 H2) (hd:∀σ H,Pv xs.length σ H->D.nx σ H):
  ∃W:Nat->Nat->St->Hp->Prop,(∃m,W 0 m σ H)/\∀i m σ H,W i m σ H->
   ((Itl K a).stop i H/\D.nx σ H)\/((Itl K a).go i H/\∃N:St->Hp->Prop,(∀σ' H',N σ' H'->∃m',m'<m/\W (i+1) m' σ' H')/\∀x H',(Itl K a).yld i H x H'->g x σ H' fun σ2 H2=>tb {D with nx:=N,ct:=N,bk:=D.nx} σ2 H2):=by
 refine⟨fun i m σ H=>m=xs.length-i/\i<=xs.length/\Pv i σ H,⟨xs.length,by simp,ZG _,h0⟩,?_⟩
 rintro i m σ H ⟨rfl,hi,p⟩
 have q:=hl i σ H hi p
 by_cases hlt:i<xs.length
 ·refine .inr ⟨⟨xs,xs[i],q,by simp[hlt]⟩,Pv (i+1),fun σ' H' p'=>⟨xs.length-(i+1),by omega,rfl,hlt,p'⟩,fun x H' y=>?_⟩
  obtain⟨e,y⟩:=y
  subst e
  exact hs i x σ _ (y xs q) p
 ·have e:i=xs.length:=by omega
  subst e
  exact .inl ⟨⟨xs,q,Zl _⟩,hd σ H p⟩
theorem KJ{lo:Int}{n:Nat}{g:TG}{tb:TS}{D:Ends}{σ:St}{H:Hp}(Pv:Nat->St->Hp->Prop)(h0:Pv 0 σ H)
  (hs:∀i σ H,i<n->Pv i σ H->g (.int (lo+i)) σ H fun σ2 H2=>tb {D with nx:=Pv (i+1),ct:=Pv (i+1),bk:=D.nx} σ2 H2) (hd:∀σ H,Pv n σ H->D.nx σ H):
  ∃W:Nat->Nat->St->Hp->Prop,(∃m,W 0 m σ H)/\∀i m σ H,W i m σ H->
   ((Itr lo n).stop i H/\D.nx σ H)\/((Itr lo n).go i H/\∃N:St->Hp->Prop,(∀σ' H',N σ' H'->∃m',m'<m/\W (i+1) m' σ' H')/\∀x H',(Itr lo n).yld i H x H'->g x σ H' fun σ2 H2=>tb {D with nx:=N,ct:=N,bk:=D.nx} σ2 H2):=by
 refine⟨fun i m σ H=>m=n-i/\i<=n/\Pv i σ H,⟨n,by simp,ZG _,h0⟩,?_⟩
 rintro i m σ H ⟨rfl,hi,p⟩
 by_cases hlt:i<n
 ·refine .inr ⟨hlt,Pv (i+1),fun σ' H' p'=>⟨n-(i+1),by omega,rfl,hlt,p'⟩,fun x H' y=>?_⟩
  obtain⟨e,y⟩:=y
  subst e y
  exact hs i σ _ hlt p
 ·have e:i=n:=by omega
  subst e
  exact .inl ⟨Zl _,hd σ H p⟩
end L2
namespace L2
open PySem PySem.Spec PyProof.Rows
noncomputable abbrev R2:=V->V->Hp->VK->Prop
noncomputable def OpR(X:Cx)(f:Value->Value->Sem Value)(r:R2):Prop:=
 ∀(pins:List (Addr×Obj))(s:Shared)(σ:St)(H:Hp)(x y:V)(v u:Value)(Q:VK),Inv X pins σ H s->RelV x v->RelV y u->r x y H Q->
  wpAny (model X.prog X.w) X.A (f v u) (EP X pins σ Q) X.xe s
noncomputable def UnR(X:Cx)(f:Value->Sem Value)(r:V->Hp->VK->Prop):Prop:=
 ∀(pins:List (Addr×Obj))(s:Shared)(σ:St)(H:Hp)(x:V)(v:Value)(Q:VK),Inv X pins σ H s->RelV x v->r x H Q->
  wpAny (model X.prog X.w) X.A (f v) (EP X pins σ Q) X.xe s
noncomputable def Us(X:Cx)(f:Value)(r:List V->Hp->VK->Prop):Prop:=
 ∀(pins:List (Addr×Obj))(s:Shared)(σ:St)(H:Hp)(xs:List V)(us:List Value)(Q:VK),Inv X pins σ H s->Vals xs us->r xs H Q->
  wpAny (model X.prog X.w) X.A (call f us) (EP X pins σ Q) X.xe s
noncomputable def tOp(r:R2)(ta tb:TE):TE:=fun σ H Q=>ta σ H fun x H1=>tb σ H1 fun y H2=>r x y H2 Q
noncomputable def tUn(r:V->Hp->VK->Prop)(ta:TE):TE:=fun σ H Q=>ta σ H fun x H1=>r x H1 Q
noncomputable def rI(C:Int->Int->Prop)(g:Int->Int->V):R2:=fun x y H Q=>∃i j,x=.int i/\y=.int j/\C i j/\Q (g i j) H
noncomputable def rI0(g:Int->Int->V):R2:=fun x y H Q=>∃i j,x=.int i/\y=.int j/\Q (g i j) H
noncomputable def rU(g:Int->V):V->Hp->VK->Prop:=fun x H Q=>∃i,x=.int i/\Q (g i) H
section
variable{X:Cx}{a b c:Expr}{ta tb tc:TE}{pos:Pos}
theorem binT(ha:PE X a ta)(hb:PE X b tb){pins:List (Addr×Obj)}{s:Shared}{σ:St}{H:Hp}{R:V->V->Hp->Prop}(I:Inv X pins σ H s)
  (h:ta σ H fun x H1=>tb σ H1 fun y H2=>R x y H2) {Q:Value->Shared->Prop} {f:Value->Value->Sem Value}
  (hf:∀v u s2 x y H2,Inv X pins σ H2 s2->RelV x v->RelV y u->R x y H2->wpAny (model X.prog X.w) X.A (f v u) Q X.xe s2):
  wpAny (model X.prog X.w) X.A (eval a X.env) (fun v s₁=>wpAny (model X.prog X.w) X.A (eval b X.env) (fun u s₂=>wpAny (model X.prog X.w) X.A (f v u) Q X.xe s₂) X.xe s₁) X.xe s:=by
 refine thn (ha pins s σ H _ I h) fun v s1 ⟨x,H1,I1,r1,q1⟩=>?_
 refine thn (hb pins s1 σ H1 _ I1 q1) fun u s2 ⟨y,H2,I2,r2,q2⟩=>?_
 exact hf v u s2 x y H2 I2 r1 r2 q2
theorem Xf{op:Operator}{r:R2}(ho:OpR X (binaryOp op) r)(ha:PE X a ta)(hb:PE X b tb):PE X (.BinOp a op b pos) (tOp r ta tb):=by
 intro pins s σ H Q I h
 exact wpAny_BinOp (binT ha hb I h fun v u s2 x y H2 I2 rx ry q=>ho pins s2 σ H2 x y v u Q I2 rx ry q)
theorem pe_un{op:UnaryOp}{r:V->Hp->VK->Prop}(ho:UnR X (unaryOp op) r)(ha:PE X a ta):PE X (.UnaryOp op a pos) (tUn r ta):=by
 intro pins s σ H Q I h
 exact UnaryOp_ (thn (ha pins s σ H _ I h) fun v s1 ⟨x,H1,I1,r1,q1⟩=>ho pins s1 σ H1 x v Q I1 r1 q1)
theorem opI{f:Value->Value->Sem Value}{C:Int->Int->Prop}{g:Int->Int->Int}
  (rule:∀(i j:Int)(t u:Tok)(s:Shared)(Q:Value->Shared->Prop)(E:Value->Shared->Prop),C i j->Q (.int (g i j) s.toks) {s with toks:=s.toks+1}->wpAny (model X.prog X.w) X.A (f (.int i t) (.int j u)) Q E s):
  OpR X f (rI C fun i j=>.int (g i j)):=by
 intro pins s σ H x y v u Q I rx ry h
 obtain⟨i,j,rfl,rfl,hc,q⟩:=h
 obtain⟨t,rfl⟩:=rx
 obtain⟨t',rfl⟩:=ry
 exact rule i j t t' s _ _ hc ⟨.int (g i j),H,I.tok _,⟨_,rfl⟩,q⟩
theorem opI0{f:Value->Value->Sem Value}{g:Int->Int->Int}
  (rule:∀(i j:Int)(t u:Tok)(s:Shared)(Q:Value->Shared->Prop)(E:Value->Shared->Prop),Q (.int (g i j) s.toks) {s with toks:=s.toks+1}->wpAny (model X.prog X.w) X.A (f (.int i t) (.int j u)) Q E s):
  OpR X f (rI0 fun i j=>.int (g i j)):=by
 intro pins s σ H x y v u Q I rx ry h
 obtain⟨i,j,rfl,rfl,q⟩:=h
 obtain⟨t,rfl⟩:=rx
 obtain⟨t',rfl⟩:=ry
 exact rule i j t t' s _ _ ⟨.int (g i j),H,I.tok _,⟨_,rfl⟩,q⟩
theorem opB0{f:Value->Value->Sem Value}{g:Int->Int->Bool}
  (rule:∀(i j:Int)(t u:Tok)(s:Shared)(Q:Value->Shared->Prop)(E:Value->Shared->Prop),Q (.bool (g i j)) s->wpAny (model X.prog X.w) X.A (f (.int i t) (.int j u)) Q E s):
  OpR X f (rI0 fun i j=>.bl (g i j)):=by
 intro pins s σ H x y v u Q I rx ry h
 obtain⟨i,j,rfl,rfl,q⟩:=h
 obtain⟨t,rfl⟩:=rx
 obtain⟨t',rfl⟩:=ry
 exact rule i j t t' s _ _ ⟨.bl (g i j),H,I,rfl,q⟩
noncomputable def CDiv(i j:Int):Prop:=0<j/\j<1073741824
noncomputable def CMul(i j:Int):Prop:=(-(2^64)<i/\i<2^64)\/(-(2^64)<j/\j<2^64)
theorem CMul.ok{i j:Int}(h:CMul i j):IntMulOk i j:=by
 rcases h with⟨h1,h2⟩|⟨h1,h2⟩
 ·exact .of_left (intBits_le_64 h1 h2)
 ·exact .of_right (intBits_le_64 h1 h2)
theorem Vi:OpR X (binaryOp .Add) (rI0 fun i j=>.int (i+j)):=opI0 fun _ _ _ _ _ _ _ q=>add_int q
theorem VA:OpR X (binaryOp .Sub) (rI0 fun i j=>.int (i-j)):=opI0 fun _ _ _ _ _ _ _ q=>sub_int q
theorem O9:OpR X (binaryOp .Mult) (rI CMul fun i j=>.int (i*j)):=opI fun _ _ _ _ _ _ _ hc q=>mul_int q hc.ok
theorem LH:OpR X (binaryOp .FloorDiv) (rI CDiv fun i j=>.int (i/j)):=opI fun i j _ _ _ _ _ hc q=>by
 have h1:(0:Int)<j:=hc.1
 have h2:j<1073741824:=hc.2
 exact floordiv_int (by omega) (by rw[Int.fdiv_eq_ediv_of_nonneg i (by omega)];exact q) (.inl (PyProof.noPylong_small (by omega)))
theorem unI{f:Value->Sem Value}{g:Int->Int}
  (rule:∀(i:Int)(t:Tok)(s:Shared)(Q:Value->Shared->Prop)(E:Value->Shared->Prop),Q (.int (g i) s.toks) {s with toks:=s.toks+1}->wpAny (model X.prog X.w) X.A (f (.int i t)) Q E s):
  UnR X f (rU fun i=>.int (g i)):=by
 intro pins s σ H x v Q I rx h
 obtain⟨i,rfl,q⟩:=h
 obtain⟨t,rfl⟩:=rx
 exact rule i t s _ _ ⟨.int (g i),H,I.tok _,⟨_,rfl⟩,q⟩
theorem un_neg:UnR X (unaryOp .USub) (rU fun i=>.int (-i)):=unI fun _ _ _ _ _ q=>neg_int q
end
noncomputable def scal:V->V->Bool
 | .non,.non=>true| .non,.int _=>true| .int _,.non=>true| .non,.bl _=>true| .bl _,.non=>true| .non,.str _=>true| .str _,.non=>true
 | .int _,.int _=>true| .bl _,.bl _=>true| .str _,.str _=>true| .byt _,.byt _=>true
 | .int _,.str _=>true| .str _,.int _=>true| .bl _,.str _=>true| .str _,.bl _=>true
 |_,_=>false
noncomputable def rEq:R2:=fun x y H Q=>scal x y=true/\Q (.bl (decide (x=y))) H
noncomputable def rNe:R2:=fun x y H Q=>scal x y=true/\Q (.bl (!decide (x=y))) H
theorem LW{i j:Int}:decide (V.int i=V.int j)=(i==j):=by
 rw[Yd]
 simp
theorem dec_bl{i j:Bool}:decide (V.bl i=V.bl j)=(i==j):=by
 rw[Yd]
 simp
theorem LV{i j:Str}:decide (V.str i=V.str j)=(i==j):=by
 rw[Yd]
 simp
theorem LX{i j:Array UInt8}:decide (V.byt i=V.byt j)=(i.toList==j.toList):=by
 rw[Yd]
 cases i
 cases j
 simp
section
variable{X:Cx}{a b c:Expr}{ta tb tc:TE}{pos:Pos}
theorem Xb{pins:List (Addr×Obj)}{σ:St}{H:Hp}{s:Shared}{Q:VK}{k k':Bool}(I:Inv X pins σ H s)(q:Q (.bl k) H)(e:k=k'):EP X pins σ Q (.bool k') s:=by
 subst e
 exact⟨.bl k,H,I,rfl,q⟩
theorem UG:OpR X (compareOp .Eq) rEq:=by
 intro pins s σ H x y v u Q I rx ry h
 obtain⟨hs,q⟩:=h
 cases x with
 |non=>
  cases rx
  cases y with
  |non=>cases ry;exact PySem.EqNone.eq_none_none (Xb I q (by simp))
  |bl j=>cases ry;exact PySem.EqNone.eq_none_bool (Xb I q (by simp))
  |int j=>obtain⟨t',rfl⟩:=ry;exact PySem.EqNone.eq_none_int (Xb I q (by simp))
  |str j=>obtain⟨t',rfl⟩:=ry;exact PySem.EqNone.eq_none_str (Xb I q (by simp))
  |_=>exact absurd (show false=true from hs) ZM
 |bl i=>
  cases rx
  cases y with
  |non=>cases ry;exact PySem.EqNone.eq_bool_none (Xb I q (by simp))
  |bl j=>cases ry;exact eq_bool (Xb I q dec_bl)
  |str j=>obtain⟨t',rfl⟩:=ry;exact PySem.EqMixed.eq_bool_str (Xb I q (by simp))
  |_=>exact absurd (show false=true from hs) ZM
 |int i=>
  obtain⟨t,rfl⟩:=rx
  cases y with
  |non=>cases ry;exact PySem.EqNone.eq_int_none (Xb I q (by simp))
  |int j=>obtain⟨t',rfl⟩:=ry;exact eq_int (Xb I q LW)
  |str j=>obtain⟨t',rfl⟩:=ry;exact PySem.EqMixed.eq_int_str (Xb I q (by simp))
  |_=>exact absurd (show false=true from hs) ZM
 |str i=>
  obtain⟨t,rfl⟩:=rx
  cases y with
  |non=>cases ry;exact PySem.EqNone.eq_str_none (Xb I q (by simp))
  |bl j=>cases ry;exact PySem.EqMixed.eq_str_bool (Xb I q (by simp))
  |int j=>obtain⟨t',rfl⟩:=ry;exact PySem.EqMixed.eq_str_int (Xb I q (by simp))
  |str j=>obtain⟨t',rfl⟩:=ry;exact eq_str (Xb I q LV)
  |_=>exact absurd (show false=true from hs) ZM
 |byt i=>
  obtain⟨t,rfl⟩:=rx
  cases y with
  |byt j=>obtain⟨t',rfl⟩:=ry;exact PySem.W.eq_bytes (Xb I q LX)
  |_=>exact absurd (show false=true from hs) ZM
 |_=>cases y<;>exact absurd (show false=true from hs) ZM
theorem LG:OpR X (compareOp .NotEq) rNe:=by
 intro pins s σ H x y v u Q I rx ry h
 obtain⟨hs,q⟩:=h
 cases x with
 |non=>
  cases rx
  cases y with
  |non=>cases ry;exact PySem.EqNone.ne_none_none (Xb I q (by simp))
  |bl j=>cases ry;exact PySem.EqNone.ne_none_bool (Xb I q (by simp))
  |int j=>obtain⟨t',rfl⟩:=ry;exact PySem.EqNone.ne_none_int (Xb I q (by simp))
  |str j=>obtain⟨t',rfl⟩:=ry;exact PySem.EqNone.ne_none_str (Xb I q (by simp))
  |_=>exact absurd (show false=true from hs) ZM
 |bl i=>
  cases rx
  cases y with
  |non=>cases ry;exact PySem.EqNone.ne_bool_none (Xb I q (by simp))
  |bl j=>cases ry;exact ne_bool (Xb I q (congrArg not dec_bl))
  |str j=>obtain⟨t',rfl⟩:=ry;exact PySem.EqMixed.ne_bool_str (Xb I q (by simp))
  |_=>exact absurd (show false=true from hs) ZM
 |int i=>
  obtain⟨t,rfl⟩:=rx
  cases y with
  |non=>cases ry;exact PySem.EqNone.ne_int_none (Xb I q (by simp))
  |int j=>obtain⟨t',rfl⟩:=ry;exact ne_int (Xb I q (congrArg not LW))
  |str j=>obtain⟨t',rfl⟩:=ry;exact PySem.EqMixed.ne_int_str (Xb I q (by simp))
  |_=>exact absurd (show false=true from hs) ZM
 |str i=>
  obtain⟨t,rfl⟩:=rx
  cases y with
  |non=>cases ry;exact PySem.EqNone.ne_str_none (Xb I q (by simp))
  |bl j=>cases ry;exact PySem.EqMixed.ne_str_bool (Xb I q (by simp))
  |int j=>obtain⟨t',rfl⟩:=ry;exact PySem.EqMixed.ne_str_int (Xb I q (by simp))
  |str j=>obtain⟨t',rfl⟩:=ry;exact ne_str (Xb I q (congrArg not LV))
  |_=>exact absurd (show false=true from hs) ZM
 |byt i=>
  obtain⟨t,rfl⟩:=rx
  cases y with
  |byt j=>obtain⟨t',rfl⟩:=ry;exact PySem.W.ne_bytes (Xb I q (congrArg not LX))
  |_=>exact absurd (show false=true from hs) ZM
 |_=>cases y<;>exact absurd (show false=true from hs) ZM
theorem TH:OpR X (compareOp .Lt) (rI0 fun i j=>.bl (decide (i<j))):=opB0 fun _ _ _ _ _ _ _ q=>lt_int q
theorem X7:OpR X (compareOp .LtE) (rI0 fun i j=>.bl (decide (i<=j))):=opB0 fun _ _ _ _ _ _ _ q=>le_int q
theorem Qy:OpR X (compareOp .Gt) (rI0 fun i j=>.bl (decide (j<i))):=opB0 fun _ _ _ _ _ _ _ q=>gt_int q
theorem op_ge:OpR X (compareOp .GtE) (rI0 fun i j=>.bl (decide (j<=i))):=opB0 fun _ _ _ _ _ _ _ q=>ge_int q
theorem YU(b:Expr){op:CmpOp}(h:op≠ .In:=by decide)(h2:op≠ .NotIn:=by decide):behindInMarks op b=false:=by
 have e1:(op==CmpOp.In)=false:=by cases op<;>first|rfl|exact absurd rfl h
 have e2:(op==CmpOp.NotIn)=false:=by cases op<;>first|rfl|exact absurd rfl h2
 cases b<;>simp[behindInMarks,e1,e2]
theorem Vq{op:CmpOp}{r:R2}(ho:OpR X (compareOp op) r)(ha:PE X a ta)(hb:PE X b tb)(hm:behindInMarks op b=false):PE X (.Compare a [op] [b] pos) (tOp r ta tb):=by
 intro pins s σ H Q I h
 exact wpAny_Compare1 (binT ha hb I h fun v u s2 x y H2 I2 rx ry q=>ho pins s2 σ H2 x y v u Q I2 rx ry q) hm
noncomputable def tTest(t:TE):TT:=fun σ H Q=>t σ H fun x H'=>∃k,x=.bl k/\Q k H'
theorem Yx{op:CmpOp}{r:R2}(ho:OpR X (compareOp op) r)(ha:PE X a ta)(hb:PE X b tb)(hm:behindInMarks op b=false):PT X (.Compare a [op] [b] pos) (tTest (tOp r ta tb)):=by
 intro pins s σ H Q I h
 refine wpAny_isTrue_Compare1 (thn (ha pins s σ H _ I h) fun v s1 ⟨x,H1,I1,r1,q1⟩=>thn (hb pins s1 σ H1 _ I1 q1) fun u s2 ⟨y,H2,I2,r2,q2⟩=>
  thn (ho pins s2 σ H2 x y v u _ I2 r1 r2 q2) fun c s3 ⟨z,H3,I3,r3,k,e,q3⟩=>?_) hm
 subst e
 cases r3
 exact YX ⟨H3,I3,q3⟩
noncomputable def OP(r r':R2)(ta tb tc:TE):TE:=fun σ H Q=>ta σ H fun x H1=>tb σ H1 fun y H2=>r x y H2 fun z H3=>∃k,z=.bl k/\
 (if k=true then tc σ H3 fun w' H4=>r' y w' H4 Q else Q (.bl false) H3)
theorem Vt{op op':CmpOp}{r r':R2}(ho:OpR X (compareOp op) r)(ho':OpR X (compareOp op') r')(ha:PE X a ta)(hb:PE X b tb)(hc:PE X c tc)
  (hm:lastMarks [op,op'] [b,c]=false:=by with_unfolding_all rfl):PE X (.Compare a [op,op'] [b,c] pos) (OP r r' ta tb tc):=by
 intro pins s σ H Q I h
 refine Compare_chain (thn (ha pins s σ H _ I h) fun v s1 ⟨x,H1,I1,r1,q1⟩=>chain_link (thn (hb pins s1 σ H1 _ I1 q1) fun u s2 ⟨y,H2,I2,r2,q2⟩=>
  thn (ho pins s2 σ H2 x y v u _ I2 r1 r2 q2) fun d s3 ⟨z,H3,I3,r3,k,e,q3⟩=>?_)) hm
 subst e
 cases r3
 refine YX ?_
 cases k with
 |false=>exact ite_ff ⟨.bl false,H3,I3,rfl,q3⟩
 |true=>exact ite_tt (chain_last (thn (hc pins s3 σ H3 _ I3 q3) fun w' s4 ⟨z',H4,I4,r4,q4⟩=>ho' pins s4 σ H4 y z' u w' Q I4 r2 r4 q4))
theorem US{op op':CmpOp}{r r':R2}(ho:OpR X (compareOp op) r)(ho':OpR X (compareOp op') r')(ha:PE X a ta)(hb:PE X b tb)(hc:PE X c tc)
  (hm:lastMarks [op,op'] [b,c]=false:=by with_unfolding_all rfl):PT X (.Compare a [op,op'] [b,c] pos) (tTest (OP r r' ta tb tc)):=by
 intro pins s σ H Q I h
 refine isTrue_chain (thn (ha pins s σ H _ I h) fun v s1 ⟨x,H1,I1,r1,q1⟩=>test_link (thn (hb pins s1 σ H1 _ I1 q1) fun u s2 ⟨y,H2,I2,r2,q2⟩=>
  thn (ho pins s2 σ H2 x y v u _ I2 r1 r2 q2) fun d s3 ⟨z,H3,I3,r3,k,e,q3⟩=>?_)) hm
 subst e
 cases r3
 refine YX ?_
 cases k with
 |false=>
  obtain⟨k',e',q'⟩:=q3
  cases e'
  exact ite_ff ⟨H3,I3,q'⟩
 |true=>
  refine ite_tt (test_last (thn (hc pins s3 σ H3 _ I3 q3) fun w' s4 ⟨z',H4,I4,r4,q4⟩=>thn (ho' pins s4 σ H4 y z' u w' _ I4 r2 r4 q4) fun d' s5 ⟨z2,H5,I5,r5,k2,e2,q5⟩=>?_))
  subst e2
  cases r5
  exact YX ⟨H5,I5,q5⟩
theorem Nd:(sizeLine:Nat)<2^63:=by rw[sizeLine_eq];decide
theorem vals1{x:V}{us:List Value}(r:Vals [x] us):∃u,us=[u]/\RelV x u:=by
 cases r with
 |cons r1 r2=>cases r2;exact⟨_,rfl,r1⟩
theorem vals2{x y:V}{us:List Value}(r:Vals [x,y] us):∃u w',us=[u,w']/\RelV x u/\RelV y w':=by
 cases r with
 |cons r1 r2=>
  cases r2 with
  |cons r3 r4=>cases r4;exact⟨_,_,rfl,r1,r3⟩
theorem Mj:Us X (.builtin "abs") (fun xs H Q=>∃i,xs=[.int i]/\Q (.int (if i<0 then -i else i)) H):=by
 intro pins s σ H xs us Q I r h
 obtain⟨i,rfl,q⟩:=h
 obtain⟨u,rfl,t,rfl⟩:=vals1 r
 exact call_abs_int fun u tk=>⟨.int (if i<0 then -i else i),H,I.tok _,⟨_,rfl⟩,q⟩
theorem KU(hc:X.calm=true):Us X (.builtin "max") (fun xs H Q=>∃i j,xs=[.int i,.int j]/\Q (.int (if j>i then j else i)) H):=by
 intro pins s σ H xs us Q I r h
 obtain⟨i,j,rfl,q⟩:=h
 obtain⟨u,w',rfl,⟨t,rfl⟩,⟨t',rfl⟩⟩:=vals2 r
 refine max_two_ints (I.ok.hd hc) fun h' tk k=>⟨_,H,I.kept k,?_,q⟩
 by_cases hj:j>i
 ·rw[if_pos hj,if_pos hj];exact⟨_,rfl⟩
 ·rw[if_neg hj,if_neg hj];exact⟨_,rfl⟩
theorem KS(hc:X.calm=true):Us X (.builtin "min") (fun xs H Q=>∃i j,xs=[.int i,.int j]/\Q (.int (if j<i then j else i)) H):=by
 intro pins s σ H xs us Q I r h
 obtain⟨i,j,rfl,q⟩:=h
 obtain⟨u,w',rfl,⟨t,rfl⟩,⟨t',rfl⟩⟩:=vals2 r
 refine min_two_ints (I.ok.hd hc) fun h' tk k=>⟨_,H,I.kept k,?_,q⟩
 by_cases hj:j<i
 ·rw[if_pos hj,if_pos hj];exact⟨_,rfl⟩
 ·rw[if_neg hj,if_neg hj];exact⟨_,rfl⟩
end
end L2
namespace L2
open PySem PySem.Spec PyProof.Rows
structure ObjM(h:Heap)(x dx C:Addr)(mA:Str->Option Value):Prop where
 obj:h.get? x=some (PySem.W.instObj C dx)
 ns:h.Ns1 dx mA
 ne:dx≠x
theorem KA{h:Heap}{dx:Addr}{mA:Str->Option Value}(n:h.Ns1 dx mA):∃od,h.get? dx=some od/\∀name,PySem.W.lookIn name od=some (mA name):=by
 obtain⟨o,es,ep,ho,hd,hk,_,hm⟩:=n
 refine⟨o,ho,fun name=>?_⟩
 have e:=hm name
 unfold nsFind findBy at e
 rw[<-Array.find?_toList]at e
 unfold PySem.W.lookIn
 rw[hd]
 dsimp only
 split
 ·rename_i y q
  rw[q]at e
  exact congrArg some e
 ·rename_i q
  rw[q]at e
  have a:es.toList.any (·.refKey)=false:=by
   rw[W9]
   intro y hy
   obtain⟨z,t,hkey⟩:=hk y (VB.mp hy)
   simp[DictEntry.refKey,hkey]
  have a':¬es.toList.any (·.refKey)=true:=by rw[a];exact ZM
  rw[if_neg a']
  exact congrArg some e
theorem ObjM.look{h:Heap}{x dx C:Addr}{mA:Str->Option Value}(I:ObjM h x dx C mA):∃od,PySem.W.InstAt h x (PySem.W.instObj C dx) C (some od)/\∀name,PySem.W.lookIn name od=some (mA name):=
 let⟨od,ho,hl⟩:=KA I.ns
 ⟨od,⟨I.obj,rfl,rfl,ho⟩,hl⟩
section
variable{prog:Program}{w:World}{A:Around}{E:Value->Shared->Prop}{s:Shared}{K:PySem.W.Frag}{x dx C f:Addr}{mA:Str->Option Value}{name:Str}{v:Value}
theorem get_map{expr:Bool}{Q:Value->Shared->Prop}(X:K.In s.heap)(I:ObjM s.heap x dx C mA)(hg:PySem.W.plainGet K C name=true)(hh:PySem.W.hasDictIn K C=true)
  (ha:PySem.W.findIn K (.ref C) name=some none) (hv:mA name=some v) (hv':PySem.W.handedIn v=true) (h:Q v {s with toks:=s.toks+1}):
  wpAny (model prog w) A (getAttr (.ref x) name expr) Q E s:=by
 obtain⟨od,J,hl⟩:=I.look
 exact PySem.W.get_value X J (PySem.W.plainGet_of hg).1 (PySem.W.findObj_own hh ha rfl (by rw[hl,hv])) hv' h
theorem get_meth{pl:Sem Bool}{Q:Value×List Value->Shared->Prop}(X:K.In s.heap)(I:ObjM s.heap x dx C mA)(hg:PySem.W.plainGet K C name=true)
  (hf:PySem.W.findIn K (.ref C) name=some (some (.ref f))) (ht:PySem.W.isFn K (.ref f)=true) (hv:mA name=none) (h:Q (.ref f,[.ref x]) s):
  wpAny (model prog w) A (getMethod (.ref x) name pl) Q E s:=by
 obtain⟨od,J,hl⟩:=I.look
 exact PySem.W.method_fn X J (PySem.W.plainGet_of hg).1 (PySem.W.plainGet_of hg).2 hf (beq_iff_eq.mp ht) (by show(PySem.W.lookIn name od).map (·.isSome)=some false;rw[hl,hv];rfl) h
theorem set_map{ns:List Str}{Q:Unit->Shared->Prop}(X:K.In s.heap)(I:ObjM s.heap x dx C mA)
  (hs:PySem.W.findIn K (.ref C) "__setattr__"=some (some (.builtin "object.__setattr__"))) (hp:PySem.W.plainOver K C=true) (ht:PySem.W.takerIn K C name=some none) (hh:PySem.W.hasDictIn K C=true)
  (hw:PySem.Within mA ns) (hsz:ns.length<=sizeLine)
  (h:∀h',ObjM h' x dx C (fun y=>if y=name then some v else mA y)->Heap.SameBut dx s.heap h'->Q () {s with heap:=h',toks:=s.toks+2}):
  wpAny (model prog w) A (setAttr (.ref x) name v) Q E s:=by
 obtain⟨od,J,hl⟩:=I.look
 refine PySem.W.set_plain X J hs (PySem.W.osa_open (s:={s with toks:=s.toks+1}) (r:=none) X J hp ht fun b=>?_)
 obtain⟨cd,hc,hd'⟩:=PySem.W.any_some hh
 have hx:s.heap.get? x=some ⟨.ref C,some dx,.plain,#[]⟩:=I.obj
 refine Zc (Zq (Zc (Zc (wpAny_loadPart hx (Zc (PySem.W.Looks.here (s:={s with toks:=s.toks+1}) (PySem.W.looks_clsIn X hc) ?_))))))
 rw[hd']
 refine Zq (a:=some dx) (Zc (Zq (Zc ?_)))
 refine wpAny_nsSet1 (s:={s with toks:=s.toks+1}) I.ns fun h' hn2 hs2=>?_
 obtain⟨oD,esD,epD,hoD,hdD,hcD⟩:=hn2.count (PySem.Within.cons name v hw)
 refine Zc (wpAny_lookBehind hoD (by rw[hdD];exact pastItsLine_dict (Zi hcD (by rw[Zo];omega))) ?_)
 exact Zq (h _ ⟨(hs2.2 _ (Yq I.ne)).trans I.obj,hn2,I.ne⟩ hs2)
theorem make_map{R:Result->Shared->Prop}{vs:List Value}{kw:List (Str×Value)}(X:K.In s.heap)(hm:PySem.W.makesIn K C=true)
  (hi:PySem.W.findIn K (.ref C) "__init__"=some (some (.ref f))) (hf:PySem.W.typeIn K (.ref f)=some (.type "function"))
  (h:codeAny (model prog w) (A.under (.builtin "type.__call__" ⟨.ref C::vs,kw⟩)) (.call (.ref f) ⟨.ref (s.heap.objs.size+1)::vs,kw⟩) (PySem.W.InitBack (s.heap.objs.size+1) R)
   {s with heap:=(s.heap.push PySem.W.emptyDict).push (PySem.W.instObj C s.heap.objs.size)}):
  codeAny (model prog w) A (.call (.ref C) ⟨vs,kw⟩) R s:=by
 obtain⟨hh,g,d,t,os⟩:=s
 exact PySem.W.make_core (PySem.W.makes_of X hm) (PySem.W.looks_findIn X hi) (fun self=>PySem.W.bind_fn X self hf) (.inl rfl) h
end
noncomputable def putF(f:Str)(v:V):List (Str×V)->List (Str×V)
 |[]=>[(f,v)]
 |(g,x)::r=>if g=f then(g,v)::r else(g,x)::putF f v r
theorem RE(f g:Str)(v:V):∀fs:List (Str×V),(putF f v fs).lookup g=if g=f then some v else fs.lookup g
 |[]=>by
  show List.lookup g [(f,v)]=_
  by_cases h:g=f
  ·have hb:(g==f)=true:=beq_iff_eq.mpr h
   simp only[List.lookup,hb,if_pos h]
  ·have hb:(g==f)=false:=beq_eq_false_iff_ne.mpr h
   simp only[List.lookup,hb,if_neg h]
 |(k,x)::r=>by
  have ih:=RE f g v r
  rw[show putF f v ((k,x)::r)=(if k=f then(k,v)::r else(k,x)::putF f v r)from rfl]
  by_cases hk:k=f
  ·rw[if_pos hk]
   by_cases h:g=k
   ·have hb:(g==k)=true:=beq_iff_eq.mpr h
    simp only[List.lookup,hb,if_pos (h.trans hk)]
   ·have hb:(g==k)=false:=beq_eq_false_iff_ne.mpr h
    simp only[List.lookup,hb,if_neg (fun e:g=f=>h (e.trans hk.symm))]
  ·rw[if_neg hk]
   by_cases h:g=k
   ·have hb:(g==k)=true:=beq_iff_eq.mpr h
    simp only[List.lookup,hb,if_neg (fun e:g=f=>hk (h.symm.trans e))]
   ·have hb:(g==k)=false:=beq_eq_false_iff_ne.mpr h
    simp only[List.lookup,hb]
    exact ih
theorem Ri(f:Str)(v:V):∀fs:List (Str×V),f∈(putF f v fs).map (·.1)/\∀g,g∈fs.map (·.1)->g∈(putF f v fs).map (·.1)
 |[]=>⟨by simp[putF],fun g h=>by simp at h⟩
 |(k,x)::r=>by
  obtain⟨i1,i2⟩:=Ri f v r
  rw[show putF f v ((k,x)::r)=(if k=f then(k,v)::r else(k,x)::putF f v r)from rfl]
  by_cases hk:k=f
  ·rw[if_pos hk]
   subst hk
   exact⟨by simp,fun g h=>by simpa using h⟩
  ·rw[if_neg hk]
   refine⟨?_,fun g h=>?_⟩
   ·rw[ZB]
    exact Ze _ i1
   ·rw[ZB]at h⊢
    rcases Zw.mp h with e|e
    ·exact Zw.mpr (.inl e)
    ·exact Ze _ (i2 g e)
theorem UZ(f:Str)(v:V):∀fs:List (Str×V),(putF f v fs).length<=fs.length+1
 |[]=>by simp[putF]
 |(k,x)::r=>by
  have ih:=UZ f v r
  rw[show putF f v ((k,x)::r)=(if k=f then(k,v)::r else(k,x)::putF f v r)from rfl]
  by_cases hk:k=f
  ·rw[if_pos hk,Zo,Zo];omega
  ·rw[if_neg hk,Zo,Zo];omega
theorem RelO.some_of{v:V}{o:Option Value}(r:RelO (some v) o):∃u,o=some u/\RelV v u:=by
 cases o with
 |none=>exact(show False from r).elim
 |some u=>exact⟨u,rfl,r⟩
theorem RelO.none_of{o:Option Value}(r:RelO none o):o=none:=by
 cases o with
 |none=>rfl
 |some u=>exact(show False from r).elim
theorem KH{v:V}{u:Value}(r:RelV v u):PySem.W.handedIn u=true:=by
 cases v with
 |non=>cases(show u=Value.none from r);rfl
 |bl b=>cases(show u=Value.bool b from r);rfl
 |int i=>obtain⟨t,e⟩:=(show∃t,u=Value.int i t from r);cases e;rfl
 |str x=>obtain⟨t,e⟩:=(show∃t,u=Value.str x t from r);cases e;rfl
 |byt b=>obtain⟨t,e⟩:=(show∃t,u=Value.bytes b t from r);cases e;rfl
 |flt b=>obtain⟨t,e⟩:=(show∃t,u=Value.float b t from r);cases e;rfl
 |ref a=>cases(show u=Value.ref a from r);rfl
 |ty n=>cases(show u=Value.type n from r);rfl
section
variable{P:Program}{w:World}{H H':Hp}{h h':Heap}{a C dx:Addr}{fs fs':List (Str×V)}
theorem RX(hok:HOk P w H h)(e:H a=some (.ins C dx fs)):∃mA,ObjM h a dx C mA/\(∀f,RelO (fs.lookup f) (mA f))/\PySem.Within mA (fs.map (·.1))/\fs.length<=1000/\H dx=some (.own a):=by
 obtain⟨d,z,ne,ob,mA,n,r,q⟩:=(show Wu P w H h a (.ins C dx fs)from hok a _ e)
 exact⟨mA,⟨ob,n,ne⟩,r,q,z,d⟩
end
structure Cls(K:PySem.W.Frag)(C:Addr):Prop where
 pg:PySem.W.plainGet K C Str.empty=true
 hd:PySem.W.hasDictIn K C=true
 po:PySem.W.plainOver K C=true
 sa:PySem.W.findIn K (.ref C) "__setattr__"=some (some (.builtin "object.__setattr__"))
theorem Cls.get{K:PySem.W.Frag}{C:Addr}(c:Cls K C)(f:Str):PySem.W.plainGet K C f=true:=c.pg
noncomputable def X9(K:PySem.W.Frag)(C:Addr)(f:Str):Prop:=PySem.W.findIn K (.ref C) f=some none
theorem X9.taker{K:PySem.W.Frag}{C:Addr}{f:Str}(n:X9 K C f):PySem.W.takerIn K C f=some none:=by
 unfold PySem.W.takerIn
 rw[show PySem.W.findIn K (.ref C) f=some none from n]
 rfl
structure Meth(K:PySem.W.Frag)(C:Addr)(m:Str)(f:Addr):Prop where
 at_:PySem.W.findIn K (.ref C) m=some (some (.ref f))
 fn:PySem.W.isFn K (.ref f)=true
 kp:PySem.W.keepIn K (.ref f)=true
section
variable{X:Cx}{pins:List (Addr×Obj)}{σ:St}{H:Hp}{s:Shared}{a C dx:Addr}{fs:List (Str×V)}{f:Str}{v:V}{A:Around}{E:Value->Shared->Prop}
theorem QS{b:Bool}{Q:Value->Shared->Prop}(I:Inv X pins σ H s)(e:H a=some (.ins C dx fs))(c:Cls X.K C)(n:X9 X.K C f)(l:fs.lookup f=some v)
  (h:∀u s',Inv X pins σ H s'->RelV v u->Q u s'):wpAny (model X.prog X.w) A (getAttr (.ref a) f b) Q E s:=by
 obtain⟨mA,O,r,_,_,_⟩:=RX I.hok e
 obtain⟨u,hu,ru⟩:=RelO.some_of (v:=v) (o:=mA f) (by rw[<-l];exact r f)
 exact get_map I.kIn O (c.get f) c.hd n hu (KH ru) (h u _ (I.tok _) ru)
theorem QR{m:Str}{g:Addr}{pl:Sem Bool}{Q:Value×List Value->Shared->Prop}(I:Inv X pins σ H s)(e:H a=some (.ins C dx fs))(c:Cls X.K C)(k:Meth X.K C m g)(l:fs.lookup m=none)
  (h:Q (.ref g,[.ref a]) s):wpAny (model X.prog X.w) A (getMethod (.ref a) m pl) Q E s:=by
 obtain⟨mA,O,r,_,_,_⟩:=RX I.hok e
 have hn:mA m=none:=RelO.none_of (by rw[<-l];exact r m)
 exact get_meth I.kIn O (c.get m) k.at_ k.fn hn h
theorem Qq{y:V}{u:Value}{Q:Unit->Shared->Prop}(I:Inv X pins σ H s)(e:H a=some (.ins C dx fs))(c:Cls X.K C)(n:X9 X.K C f)(hl:fs.length<1000)(ry:RelV y u)
  (h:∀s',Inv X pins σ (upd H a (.ins C dx (putF f y fs))) s'->Q () s'):wpAny (model X.prog X.w) A (setAttr (.ref a) f u) Q E s:=by
 obtain⟨mA,O,r,wi,_,ho⟩:=RX I.hok e
 have hz:(fs.map (·.1)).length<=sizeLine:=by rw[Za,sizeLine_eq];omega
 refine set_map I.kIn O c.sa c.po n.taker c.hd wi hz fun h' O' sb=>h _ ?_
 have hd:∃o,h'.get? dx=some o:=let⟨o,_,_,e',_⟩:=O'.ns;⟨o,e'⟩
 refine I.write (x:=a) (e:=dx) (by rw[e];exact True.intro) (.inr ho) (fun b q hb z=>(sb.2 b hb).trans z) hd ?_
 refine⟨by rw[Zt O.ne];exact ho,?_,O.ne,O'.obj,_,O'.ns,fun g=>?_,fun g hg=>?_⟩
 ·have:=UZ f y fs;omega
 ·show RelO ((putF f y fs).lookup g) (if g=f then some u else mA g)
  rw[RE]
  by_cases q:g=f
  ·rw[if_pos q,if_pos q];exact ry
  ·rw[if_neg q,if_neg q];exact r g
 ·by_cases q:g=f
  ·rw[q];exact(Ri f y fs).1
  ·refine(Ri f y fs).2 g (wi g fun z=>hg ?_)
   show(if g=f then some u else mA g)=none
   rw[if_neg q];exact z
theorem Inv.made(I:Inv X pins σ H s):Inv X pins σ (upd (upd H s.heap.objs.size (.own (s.heap.objs.size+1))) (s.heap.objs.size+1) (.ins C s.heap.objs.size []))
  {s with heap:=(s.heap.push PySem.W.emptyDict).push (PySem.W.instObj C s.heap.objs.size)}:=by
 have e1:(s.heap.push PySem.W.emptyDict).get? s.heap.objs.size=some PySem.W.emptyDict:=ZW s.heap rfl
 have e2:((s.heap.push PySem.W.emptyDict).push (PySem.W.instObj C s.heap.objs.size)).get? (s.heap.objs.size+1)=some (PySem.W.instObj C s.heap.objs.size):=by
  have:=ZW (s.heap.push PySem.W.emptyDict) (o:=PySem.W.instObj C s.heap.objs.size) rfl
  rwa[YD]at this
 have e3:(s.heap.push PySem.W.emptyDict).Ns s.heap.objs.size (fun _=>none):=⟨PySem.W.emptyDict,#[],_,e1,rfl,(fun e he=>absurd he (by simp)),fun _=>rfl⟩
 have I1:=I.laid (a:=s.heap.objs.size) (o:=.own (s.heap.objs.size+1)) (h':=s.heap.push PySem.W.emptyDict) (t':=s.toks) (fun b u q=>Zz _ q) (Zl _) ⟨_,e1⟩
 refine I1.laid (a:=s.heap.objs.size+1) (o:=.ins C s.heap.objs.size []) (t':=s.toks) (fun b u q=>Zz _ q) (Nat.le_of_eq (YD _ _)) ?_
 have ne:s.heap.objs.size≠s.heap.objs.size+1:=Z0 (Nat.lt_succ_self _)
 refine⟨by rw[Zt ne,Zf],ZG _,ne,e2,fun _=>none,(Heap.Ns1.of_empty e3).at fun o q=>Zz _ q,fun _=>True.intro,fun y hy=>absurd rfl hy⟩
theorem attr_of{prog:Program}{w:World}{env:Env}{e:Expr}{f:Str}{pos:Pos}{s:Shared}{Q:Value->Shared->Prop}(hb:attributeBase e f env (eval e env)=eval e env)
  (h:wpAny (model prog w) A (eval e env) (fun o s₁=>wpAny (model prog w) A (getAttr o f true) Q E s₁) E s):wpAny (model prog w) A (eval (.Attribute e f pos) env) Q E s:=
 Attribute_any_ h (by rw[arm_eval_Attribute,hb])
end
noncomputable def tFld(K:PySem.W.Frag)(ta:TE)(f:Str):TE:=fun σ H Q=>ta σ H fun x H1=>∃a C dx fs v,x=.ref a/\H1 a=some (.ins C dx fs)/\Cls K C/\X9 K C f/\fs.lookup f=some v/\Q v H1
noncomputable def sFld(K:PySem.W.Frag)(ta tv:TE)(f:Str):TS:=fun D σ H=>tv σ H fun y H1=>ta σ H1 fun x H2=>∃a C dx fs,x=.ref a/\H2 a=some (.ins C dx fs)/\Cls K C/\X9 K C f/\fs.length<1000/\
 D.nx σ (upd H2 a (.ins C dx (putF f y fs)))
noncomputable def InOp(X:Cx)(op:Operator)(rd:V->V->Hp->VK->Prop):Prop:=
 ∀(pins:List (Addr×Obj))(s:Shared)(σ:St)(H:Hp)(x y:V)(u v:Value)(Q:VK),Inv X pins σ H s->RelV x u->RelV y v->rd x y H Q->wpAny (model X.prog X.w) X.A (inplaceOp op u v) (EP X pins σ Q) X.xe s
noncomputable def sFldAug(K:PySem.W.Frag)(ta tv:TE)(rd:V->V->Hp->VK->Prop)(f:Str):TS:=fun D σ H=>ta σ H fun x H1=>∃a C dx fs v,x=.ref a/\H1 a=some (.ins C dx fs)/\Cls K C/\X9 K C f/\fs.lookup f=some v/\
 tv σ H1 fun y H2=>rd v y H2 fun z H3=>∃dx' fs',H3 a=some (.ins C dx' fs')/\fs'.length<1000/\D.nx σ (upd H3 a (.ins C dx' (putF f z fs')))
section
variable{X:Cx}{o e value:Expr}{f:Str}{pos pos' tpos:Pos}{ta tv:TE}
theorem YT(he:PE X e ta)(hb:attributeBase e f X.env (eval e X.env)=eval e X.env):PE X (.Attribute e f pos) (tFld X.K ta f):=by
 intro pins s σ H Q I h
 refine attr_of hb (thn (he pins s σ H _ I h) fun u s1 ⟨x,H1,I1,rx,a,C,dx,fs,v,ex,ea,c,n,l,q⟩=>?_)
 subst ex
 obtain rfl:u=Value.ref a:=rx
 exact QS I1 ea c n l fun u' s2 I2 ru=>⟨v,H1,I2,ru,q⟩
theorem WR(ha:PE X o ta)(hv:PE X value tv)(hs:swapsWith value (some (.Attribute o f pos')) pos.line X.env=pure false):PS X (.Assign [.Attribute o f pos'] value pos) (sFld X.K ta tv f):=by
 intro pins s σ H D I h
 refine plainObj_wpAny_Assign_Attribute (thn (hv pins s σ H _ I h) fun u s1 ⟨y,H1,I1,ry,q⟩=>thn (ha pins s1 σ H1 _ I1 q) fun ov s2 ⟨x,H2,I2,rx,a,C,dx,fs,ex,ea,c,n,l,q2⟩=>?_) hs
 subst ex
 obtain rfl:ov=Value.ref a:=rx
 exact Qq I2 ea c n l ry fun s3 I3=>⟨σ,_,I3,q2⟩
theorem Oe{op:Operator}{rd:V->V->Hp->VK->Prop}(ha:PE X o ta)(hv:PE X value tv)(hop:InOp X op rd):PS X (.AugAssign (.Attribute o f tpos) op value pos) (sFldAug X.K ta tv rd f):=by
 intro pins s σ H D I h
 refine wpAny_AugAssign_AttributeAny (thn (ha pins s σ H _ I h) fun ov s1 ⟨x,H1,I1,rx,a,C,dx,fs,v,ex,ea,c,n,l,q⟩=>?_)
 subst ex
 obtain rfl:ov=Value.ref a:=rx
 refine QS I1 ea c n l fun u s2 I2 ru=>thn (hv pins s2 σ H1 _ I2 q) fun w3 s3 ⟨y,H2,I3,ry,q3⟩=>thn (hop pins s3 σ H2 v y u w3 _ I3 ru ry q3) fun w4 s4 ⟨z,H3,I4,rz,dx',fs',ea',l',q4⟩=>?_
 exact Qq I4 ea' c n l' rz fun s5 I5=>⟨σ,_,I5,q4⟩
noncomputable def rAdd:V->V->Hp->VK->Prop:=fun x y H Q=>∃i j,x=.int i/\y=.int j/\Q (.int (i+j)) H
theorem in_add:InOp X .Add rAdd:=by
 rintro pins s σ H x y u v Q I rx ry ⟨i,j,rfl,rfl,q⟩
 obtain⟨t,rfl⟩:=(show∃t,u=Value.int i t from rx)
 obtain⟨t',rfl⟩:=(show∃t',v=Value.int j t' from ry)
 exact PyProof.Rows.iadd_int ⟨.int (i+j),H,I.tok _,⟨_,rfl⟩,q⟩
end
section
variable{X:Cx}{pins:List (Addr×Obj)}{σ:St}{H:Hp}{s:Shared}{A:Around}{E:Value->Shared->Prop}{Q:Value->Shared->Prop}{c:Value}{b:Bool}
end
end L2
namespace L2
open PySem PySem.Spec PyProof.Rows
structure Room(k:Nat)(A:Around):Prop where
 hd:A.handled=none
 dp:A.depth+3*k+5<recursionLimit
 un:A.units+16*k+200<cLine
theorem Room.mono{j k:Nat}{A:Around}(r:Room k A)(h:j<=k):Room j A:=⟨r.hd,by have:=r.dp;omega,by have:=r.un;omega⟩
theorem Room.deeper{k:Nat}{A:Around}(r:Room (k+1) A)(env:Env):Room k (A.deeper env):=
 ⟨r.hd,by have:=r.dp;show A.depth+1+3*k+5<_;omega,by have:=r.un;show A.units+3+16*k+200<_;omega⟩
theorem M4{A:Around}{C:Addr}{us:List Value}{kw:List (Str×Value)}:(A.under (.builtin "type.__call__" ⟨.ref C::us,kw⟩)).depth=A.depth+1:=by
 first|rfl|simp[Around.under,Code.weight,Code.isCreation,Code.isGuard,Code.isCaller,Code.frames,Code.isFrame,guardIds]
theorem M3{A:Around}{C:Addr}{us:List Value}{kw:List (Str×Value)}:(A.under (.builtin "type.__call__" ⟨.ref C::us,kw⟩)).units=A.units+1:=by
 first|rfl|simp[Around.under,Code.cUnits,Code.frames,Code.isFrame]
theorem Room.make{k:Nat}{A:Around}(r:Room (k+1) A)(C:Addr)(us:List Value)(kw:List (Str×Value)):Room k (A.under (.builtin "type.__call__" ⟨.ref C::us,kw⟩)):=
 ⟨r.hd,by have:=r.dp;rw[M4];omega,by have:=r.un;rw[M3];omega⟩
theorem Room.depth{k:Nat}{A:Around}(r:Room k A):A.depth<recursionLimit:=by have:=r.dp;omega
theorem Room.units{k:Nat}{A:Around}(r:Room k A):A.units+64<cLine:=by have:=r.un;omega
noncomputable def tNil:TA:=fun _ H Q=>Q [] H
noncomputable def Lu(ta:TE)(tr:TA):TA:=fun σ H Q=>ta σ H fun x H1=>tr σ H1 fun xs H2=>Q (x::xs) H2
section
variable{X:Cx}{e:Expr}{es:List Expr}{te:TE}{t:TA}{pos:Pos}
theorem Zn:PA X [] tNil:=fun _ _ _ _ H Q I h=>Wh ⟨[],H,I,.nil,h⟩
theorem Zb(ha:PE X e te)(hr:PA X es t)(hs:starEach (e::es) X.env=(false,eval e X.env)::starEach es X.env:=by rfl):PA X (e::es) (Lu te t):=by
 intro pos pins s σ H Q I h
 rw[hs]
 show wpAny _ _ (spliced ((false,eval e X.env)::backTo pos (starEach es X.env))) _ _ s
 refine X8 (thn (ha pins s σ H _ I h) fun u s1 ⟨x,H1,I1,r1,q1⟩=>?_)
 exact thn (hr pos pins s1 σ H1 _ I1 q1) fun us s2 ⟨xs,H2,I2,r2,q2⟩=>⟨x::xs,H2,I2,.cons r1 r2,q2⟩
noncomputable def tTup(t:TA):TE:=fun σ H Q=>t σ H fun xs H1=>xs.length<=sizeLine/\∀p,H1 p=none->Q (.ref p) (upd H1 p (.tup xs))
noncomputable def tLst(t:TA):TE:=fun σ H Q=>t σ H fun xs H1=>xs.length<=sizeLine/\∀p,H1 p=none->Q (.ref p) (upd H1 p (.lst xs))
theorem Ue{x1}(h:PA X es t):PE X (.Tuple es x1 pos) (tTup t):=by
 intro pins s σ H Q I hq
 refine wpAny_Tuple_spliced (thn (h pos pins s σ H _ I hq) fun us s1 ⟨xs,H1,I1,r,z,q⟩=>⟨by rw[<-r.length];exact z,?_⟩)
 have hf:H1 s1.heap.objs.size=none:=I1.hok.fresh (Zl _)
 refine⟨.ref s1.heap.objs.size,upd H1 s1.heap.objs.size (.tup xs),I1.laid (t':=s1.toks) (fun b u e=>Zz _ e) (Zl _) ?_,rfl,q _ hf⟩
 exact⟨z,us,r,⟨_,ZW _ rfl,rfl,_,rfl⟩⟩
theorem Yp(h:PA X es t):PE X (.List es pos) (tLst t):=by
 intro pins s σ H Q I hq
 refine wpAny_List_spliced (thn (h pos pins s σ H _ I hq) fun us s1 ⟨xs,H1,I1,r,z,q⟩=>⟨by rw[<-r.length];exact z,?_⟩)
 have hf:H1 s1.heap.objs.size=none:=I1.hok.fresh (Zl _)
 refine⟨.ref s1.heap.objs.size,upd H1 s1.heap.objs.size (.lst xs),I1.laid (t':=s1.toks) (fun b u e=>Zz _ e) (Zl _) ?_,rfl,q _ hf⟩
 exact⟨z,us,0,r,ZW _ rfl⟩
end
noncomputable abbrev Sp:=List V->Hp->VK->XK->Prop
noncomputable abbrev CXT:=List Env->Hp->Shared->XK->Value->Shared->Prop
structure Env0(P:Program)(w:World)(K:PySem.W.Frag)(mg:Str->Option Value)(base:Heap)(A:Around)(outer:List Env)(s:Shared)(H:Hp):Prop where
 frames:A.frames=some outer
 mod:Mod K mg base
 bs:∀b o,base.get? b=some o->s.heap.get? b=some o/\H b=none
 bsz:base.objs.size<=s.heap.objs.size
 funs:s.heap.FunFrames base outer
 frf:∀b∈frs outer,H b=none
 hok:HOk P w H s.heap
 bare:AllBare s.gens
noncomputable def CE(outer:List Env)(P:Program)(w:World)(H:Hp)(s:Shared)(Q:VK)(u:Value)(s':Shared):Prop:=
 ∃v H',s'.os=s.os/\AllBare s'.gens/\Un (frs outer) [] H H' s.heap s'.heap/\HOk P w H' s'.heap/\RelV v u/\Q v H'
noncomputable def CR(CX:CXT)(outer:List Env)(P:Program)(w:World)(H:Hp)(s:Shared)(Q:VK)(E:XK)(r:Result)(s':Shared):Prop:=
 match r with
 | .ok (.ret u)=>CE outer P w H s Q u s'
 | .ok _=>False
 | .error e=>CX outer H s E e s'
structure FnOk(P:Program)(w:World)(K:PySem.W.Frag)(mg:Str->Option Value)(base:Heap)(CX:CXT)(k:Nat)(f:Addr)(fd:FuncData)(ps:List Str)(sp:Sp):Prop where
 len:∀vs H Q E,sp vs H Q E->vs.length=ps.length
 run:∀(A:Around)(outer:List Env)(s:Shared)(H:Hp)(args:Args)(us:List Value)(vs:List V)(Q:VK)(E:XK),Room k A->Env0 P w K mg base A outer s H->BindsTo s fd args (ps.zip us)->Vals vs us->sp vs H Q E->
  codeAny (model P w) A (.call (.ref f) args) (CR CX outer P w H s Q E) s
theorem Env0.make{P:Program}{w:World}{K:PySem.W.Frag}{mg:Str->Option Value}{base:Heap}{A:Around}{outer:List Env}{s:Shared}{H:Hp}(e:Env0 P w K mg base A outer s H)(C:Addr)(us:List Value)(kw:List (Str×Value)):
  Env0 P w K mg base (A.under (.builtin "type.__call__" ⟨.ref C::us,kw⟩)) outer s H:=⟨by first|exact e.frames|(simpa[Around.under,Code.envs,Code.isFrame,pushEnvs]using e.frames),e.mod,e.bs,e.bsz,e.funs,e.frf,e.hok,e.bare⟩
section
variable{X:Cx}{pins:List (Addr×Obj)}{σ:St}{H:Hp}{s s':Shared}
theorem Inv.env0(I:Inv X pins σ H s):Env0 X.prog X.w X.K X.mg X.base X.A X.stack s H:=
 ⟨I.ok.frames,I.ok.mod,I.bs,Zi I.ok.bsz I.sz,I.stack,I.stkFree,I.hok,I.bare⟩
theorem Inv.after{Q:VK}{u:Value}(I:Inv X pins σ H s)(h:CE X.stack X.prog X.w H s Q u s'):EP X pins σ Q u s':=by
 obtain⟨v,H',os,bare,un,hok,r,q⟩:=h
 obtain⟨hh,g,d,t,os'⟩:=s'
 obtain rfl:os'=s.os:=os
 exact⟨v,H',I.call (h':=hh) (g':=g) (d':=d) (t':=t) (ch:=[]) un hok bare (fun b z=>absurd z (by simp)),r,q⟩
end
noncomputable def tCall(sp:Sp)(dvs:List V)(E:XK)(t:TA):TE:=fun σ H Q=>t σ H fun vs H1=>sp (vs++dvs) H1 Q E
noncomputable def Pr(C:Addr)(m:Str)(sp:Sp)(dvs:List V)(E:XK)(ta:TE)(t:TA):TE:=fun σ H Q=>ta σ H fun x H1=>∃a dx fs,x=.ref a/\H1 a=some (.ins C dx fs)/\fs.lookup m=none/\
 t σ H1 fun vs H2=>sp (x::(vs++dvs)) H2 Q E
noncomputable def Ls(C:Addr)(sp:Sp)(dvs:List V)(E:XK)(t:TA):TE:=fun σ H Q=>t σ H fun vs H1=>∀x dx,H1 x=none->H1 dx=none->dx≠x->
 sp (.ref x::(vs++dvs)) (upd (upd H1 dx (.own x)) x (.ins C dx [])) (fun v H2=>v=.non/\Q (.ref x) H2) E
noncomputable def Binds(K:PySem.W.Frag)(fd:FuncData)(ps:List Str)(ds:List Value):Prop:=
 ∀(s:Shared)(us:List Value),K.In s.heap->(us++ds).length=ps.length->BindsTo s fd ⟨us,[]⟩ (ps.zip (us++ds))
theorem Binds.all{K:PySem.W.Frag}{fd:FuncData}{ps:List Str}(h:∀us:List Value,us.length=ps.length->bindArgs fd ⟨us,[]⟩=pure (ps.zip us)):Binds K fd ps []:=fun s us _ hl=>by
 rw[Y6]at hl⊢
 exact .of_eq (h us hl)
noncomputable def U9(CX:CXT)(X:Cx)(E:XK):Prop:=∀(pins:List (Addr×Obj))(σ:St)(H:Hp)(s:Shared)(e:Value)(s':Shared),Inv X pins σ H s->CX X.stack H s E e s'->X.xe e s'
section
variable{X:Cx}{CX:CXT}{k:Nat}{f C:Addr}{fd:FuncData}{ps:List Str}{sp:Sp}{dvs:List V}{ds:List Value}{E:XK}{x m:Str}{p pos apos:Pos}{e o:Expr}{es:List Expr}{ta:TE}{t:TA}
theorem O1{pins:List (Addr×Obj)}{σ:St}{H:Hp}{s:Shared}{Q:VK}{us:List Value}{vs:List V}(F:FnOk X.prog X.w X.K X.mg X.base CX k f fd ps sp)(hr:Room k X.A)(hb:Binds X.K fd ps ds)(hd:Vals dvs ds)(hx:U9 CX X E)
  (I:Inv X pins σ H s) (r:Vals vs us) (h:sp (vs++dvs) H Q E):wpAny (model X.prog X.w) X.A (call (.ref f) us) (EP X pins σ Q) X.xe s:=by
 have r2:Vals (vs++dvs) (us++ds):=r.append hd
 have hl:(us++ds).length=ps.length:=by rw[<-r2.length];exact F.len _ _ _ _ h
 refine wpAny_call (codeAny_mono (F.run X.A X.stack s H ⟨us,[]⟩ (us++ds) (vs++dvs) Q E hr I.env0 (hb s us I.kIn hl) r2 h) fun r s' hq=>?_)
 cases r with
 |error e=>exact hx pins σ H s e s' I hq
 |ok fl=>
  cases fl with
  |ret u=>exact I.after hq
  |next=>exact False.elim hq
  |brk=>exact False.elim hq
  |cont=>exact False.elim hq
theorem pe_call(F:FnOk X.prog X.w X.K X.mg X.base CX k f fd ps sp)(hr:Room k X.A)(hg:Gl X x)(hm:X.mg x=some (.ref f))(hk:PySem.W.keepIn X.K (.ref f)=true)(hb:Binds X.K fd ps ds)(hd:Vals dvs ds)(hx:U9 CX X E)
  (ha:PA X (e::es) t) (hdb:(x==("__debug__":Str))=false:=by decide) (he:starEach (e::es) X.env=(false,eval e X.env)::starEach es X.env:=by rfl) (hpl:(backTo pos (starEach es X.env)).any (·.1)=false:=by rfl):
  PE X (.Call (.Name x p) (e::es) [] pos) (tCall sp dvs E t):=by
 intro pins s σ H Q I h
 refine Wn (RW I hg hm ?_ hdb)
 refine PySem.W.callWith_K (h₀:=X.base) I.ok.mod.kin hk (thn (ha pos pins s σ H _ I h) fun us s1 ⟨vs,H1,I1,r,q⟩=>⟨I1.kIn,?_⟩) he hpl
 exact O1 F hr hb hd hx I1 r q
theorem pe_meth{pl:Sem Bool}(he:PE X o ta)(c:Cls X.K C)(hm:Meth X.K C m f)(F:FnOk X.prog X.w X.K X.mg X.base CX k f fd ps sp)(hr:Room k X.A)(hb:Binds X.K fd ps ds)(hd:Vals dvs ds)(hx:U9 CX X E)(ha:PA X (e::es) t)
  (hst:starEach (e::es) X.env=(false,eval e X.env)::starEach es X.env:=by rfl) (hpl:(backTo pos (starEach es X.env)).any (·.1)=false:=by rfl)
  (ht:eval (.Call (.Attribute o m apos) (e::es) [] pos) X.env=(do
   let ov<-eval o X.env
   standAt apos.atName
   let(f,first)<-holding [ov] (getMethod ov m pl)
   callWith pos f first (backTo pos (starEach (e::es) X.env)) (backToKw pos (keywordEach [] X.env))):=by rfl):
  PE X (.Call (.Attribute o m apos) (e::es) [] pos) (Pr C m sp dvs E ta t):=by
 intro pins s σ H Q I h
 refine PySem.W.methodCall_KW (pl:=pl) (thn (he pins s σ H _ I h) fun u s1 ⟨x,H1,I1,rx,a,dx,fs,ex,ea,l,q⟩=>?_) ht
 subst ex
 obtain rfl:u=Value.ref a:=rx
 refine QR I1 ea c hm l ?_
 refine PySem.W.callWith_K (first:=[.ref a]) (h₀:=X.base) I.ok.mod.kin hm.kp (thn (ha pos pins s1 σ H1 _ I1 q) fun us s2 ⟨vs,H2,I2,r,q2⟩=>⟨I2.kIn,?_⟩) hst hpl
 exact O1 (us:=.ref a::us) (vs:=.ref a::vs) F hr hb hd hx I2 (.cons rfl r) q2
theorem pe_meth0{pl:Sem Bool}(he:PE X o ta)(c:Cls X.K C)(hm:Meth X.K C m f)(F:FnOk X.prog X.w X.K X.mg X.base CX k f fd ps sp)(hr:Room k X.A)(hb:Binds X.K fd ps ds)(hd:Vals dvs ds)(hx:U9 CX X E)
  (ht:eval (.Call (.Attribute o m apos) [] [] pos) X.env=(do
   let ov<-eval o X.env
   standAt apos.atName
   let(f,first)<-holding [ov] (getMethod ov m pl)
   callWith pos f first (backTo pos (starEach [] X.env)) (backToKw pos (keywordEach [] X.env))):=by rfl):
  PE X (.Call (.Attribute o m apos) [] [] pos) (Pr C m sp dvs E ta tNil):=by
 intro pins s σ H Q I h
 refine PySem.W.methodCall_KW (pl:=pl) (thn (he pins s σ H _ I h) fun u s1 ⟨x,H1,I1,rx,a,dx,fs,ex,ea,l,q⟩=>?_) ht
 subst ex
 obtain rfl:u=Value.ref a:=rx
 refine QR I1 ea c hm l ?_
 exact PySem.W.callWith_K0 (first:=[.ref a]) I1.kIn hm.kp (O1 (us:=[.ref a]) (vs:=[.ref a]) F hr hb hd hx I1 (.cons rfl .nil) q)
structure Mk(K:PySem.W.Frag)(C f:Addr):Prop where
 makes:PySem.W.makesIn K C=true
 init:PySem.W.findIn K (.ref C) "__init__"=some (some (.ref f))
 fn:PySem.W.isFn K (.ref f)=true
 kp:PySem.W.keepIn K (.ref C)=true
theorem NH{pins:List (Addr×Obj)}{σ:St}{H:Hp}{s:Shared}{Q:VK}{us:List Value}{vs:List V}(M:Mk X.K C f)(F:FnOk X.prog X.w X.K X.mg X.base CX k f fd ps sp)(hr:Room (k+1) X.A)(hb:Binds X.K fd ps ds)(hd:Vals dvs ds)
  (hx:U9 CX X E) (I:Inv X pins σ H s) (r:Vals vs us)
  (h:∀x dx,H x=none->H dx=none->dx≠x->sp (.ref x::(vs++dvs)) (upd (upd H dx (.own x)) x (.ins C dx [])) (fun v H2=>v=.non/\Q (.ref x) H2) E):
  wpAny (model X.prog X.w) X.A (call (.ref C) us) (EP X pins σ Q) X.xe s:=by
 have hq:=h (s.heap.objs.size+1) s.heap.objs.size (I.hok.fresh (Nat.le_succ _)) (I.hok.fresh (Zl _)) (Z0 (Nat.lt_succ_self _))
 have I2:=Inv.made (C:=C) I
 have r2:Vals (V.ref (s.heap.objs.size+1)::(vs++dvs)) (Value.ref (s.heap.objs.size+1)::(us++ds)):=.cons rfl (r.append hd)
 have hl:(Value.ref (s.heap.objs.size+1)::us++ds).length=ps.length:=by
  have e:=r2.length
  rw[F.len _ _ _ _ hq]at e
  exact e.symm
 refine wpAny_call (make_map (f:=f) I.kIn M.makes M.init (beq_iff_eq.mp M.fn) (codeAny_mono (F.run _ X.stack _ _ ⟨Value.ref (s.heap.objs.size+1)::us,[]⟩ (Value.ref (s.heap.objs.size+1)::(us++ds)) _ _ E (hr.make C us [])
  (I2.env0.make C us []) (hb _ (Value.ref (s.heap.objs.size+1)::us) I2.kIn hl) r2 hq) fun r s' hq'=>?_))
 cases r with
 |error e=>exact hx pins σ _ _ e s' I2 hq'
 |ok fl=>
  cases fl with
  |ret u=>
   obtain⟨v,H',I3,rv,ev,q3⟩:=I2.after hq'
   subst ev
   exact⟨rv,⟨V.ref (s.heap.objs.size+1),H',I3,rfl,q3⟩⟩
  |next=>exact False.elim hq'
  |brk=>exact False.elim hq'
  |cont=>exact False.elim hq'
theorem pe_make(M:Mk X.K C f)(F:FnOk X.prog X.w X.K X.mg X.base CX k f fd ps sp)(hr:Room (k+1) X.A)(hg:Gl X x)(hm:X.mg x=some (.ref C))(hb:Binds X.K fd ps ds)(hd:Vals dvs ds)(hx:U9 CX X E)
  (ha:PA X (e::es) t) (hdb:(x==("__debug__":Str))=false:=by decide) (he:starEach (e::es) X.env=(false,eval e X.env)::starEach es X.env:=by rfl) (hpl:(backTo pos (starEach es X.env)).any (·.1)=false:=by rfl):
  PE X (.Call (.Name x p) (e::es) [] pos) (Ls C sp dvs E t):=by
 intro pins s σ H Q I h
 refine Wn (RW I hg hm ?_ hdb)
 refine PySem.W.callWith_K (h₀:=X.base) I.ok.mod.kin M.kp (thn (ha pos pins s σ H _ I h) fun us s1 ⟨vs,H1,I1,r,q⟩=>⟨I1.kIn,?_⟩) he hpl
 exact NH M F hr hb hd hx I1 r q
theorem pe_make0(M:Mk X.K C f)(F:FnOk X.prog X.w X.K X.mg X.base CX k f fd ps sp)(hr:Room (k+1) X.A)(hg:Gl X x)(hm:X.mg x=some (.ref C))(hb:Binds X.K fd ps ds)(hd:Vals dvs ds)(hx:U9 CX X E)
  (hdb:(x==("__debug__":Str))=false:=by decide):PE X (.Call (.Name x p) [] [] pos) (Ls C sp dvs E tNil):=by
 intro pins s σ H Q I h
 refine Wn (RW I hg hm ?_ hdb)
 exact PySem.W.callWith_K0 I.kIn M.kp (NH (us:=[]) M F hr hb hd hx I .nil h)
end
section
variable{X:Cx}{CX:CXT}{k:Nat}{f C:Addr}{fd:FuncData}{ps ks:List Str}{sp:Sp}{E:XK}{x m:Str}{p pos apos kpos:Pos}{e o:Expr}{es:List Expr}{kws:List Keyword}{te ta:TE}{t tk:TA}{nm:Option Str}
variable{g:List Value->List Value->List Value}{gV:List V->List V->List V}
end
structure ZP(N P:List Str)(sc:Scope):Prop where
 kind:sc.kind=.function
 co:sc.isCoroutine=false
 gen:sc.isGenerator=false
 nd:N.Nodup
 pre:N.take P.length=P
 par:∀x∈P,sc.names.lookup x=some .local\/sc.names.lookup x=some .cell
 nofree:∀y∈sc.names,y.2≠ .free
theorem OJ{kindOf:Str->Option NameKind}{x:Str}:∀{binds:List (Str×Value)}{m:Str->Option Value},(∀v,(x,v)∉binds)->bindL kindOf binds m x=m x
 |[],_,_=>rfl
 |(n,v)::r,m,h=>by
  unfold bindL
  rw[OJ fun w hw=>h w (Ze _ hw)]
  split
  ·have:x≠n:=by rintro rfl;exact h v Zm
   simp[this]
  ·rfl
theorem OL{kindOf:Str->Option NameKind}{x:Str}:∀{binds:List (Str×Value)}{m:Str->Option Value},(∀v,(x,v)∉binds)->bindC kindOf binds m x=m x
 |[],_,_=>rfl
 |(n,v)::r,m,h=>by
  unfold bindC
  rw[OL fun w hw=>h w (Ze _ hw)]
  split
  ·rfl
  ·have:x≠n:=by rintro rfl;exact h v Zm
   simp[this]
theorem OK{kindOf:Str->Option NameKind}{x:Str}{v:Value}:∀{P:List Str}{vs:List Value}{i:Nat}{m:Str->Option Value},P.Nodup->P[i]?=some x->vs[i]?=some v->kindOf x=some .local->
  bindL kindOf (P.zip vs) m x=some v
 |[],_,_,_,_,h,_,_=>by simp at h
 |_::_,[],_,_,_,_,h,_=>by simp at h
 |p::P,w::vs,0,m,nd,h1,h2,hk=>by
  simp at h1 h2;subst h1;subst h2
  show bindL kindOf ((p,w)::P.zip vs) m p=_
  unfold bindL
  rw[OJ fun v hv=>(YB.mp nd).1 (List.of_mem_zip hv).1,if_pos hk]
  simp
 |p::P,w::vs,i+1,m,nd,h1,h2,hk=>by
  show bindL kindOf ((p,w)::P.zip vs) m x=_
  unfold bindL
  exact OK (i:=i) (YB.mp nd).2 (by simpa using h1) (by simpa using h2) hk
theorem OM{kindOf:Str->Option NameKind}{x:Str}{v:Value}:∀{P:List Str}{vs:List Value}{i:Nat}{m:Str->Option Value},P.Nodup->P[i]?=some x->vs[i]?=some v->kindOf x≠some .local->
  bindC kindOf (P.zip vs) m x=some v
 |[],_,_,_,_,h,_,_=>by simp at h
 |_::_,[],_,_,_,_,h,_=>by simp at h
 |p::P,w::vs,0,m,nd,h1,h2,hk=>by
  simp at h1 h2;subst h1;subst h2
  show bindC kindOf ((p,w)::P.zip vs) m p=_
  unfold bindC
  rw[OL fun v hv=>(YB.mp nd).1 (List.of_mem_zip hv).1,if_neg hk]
  simp
 |p::P,w::vs,i+1,m,nd,h1,h2,hk=>by
  show bindC kindOf ((p,w)::P.zip vs) m x=_
  unfold bindC
  exact OM (i:=i) (YB.mp nd).2 (by simpa using h1) (by simpa using h2) hk
noncomputable def start(N:List Str)(vs:List V):St:=vs.map some++List.replicate (N.length-vs.length) none
noncomputable def cxOf(CX:CXT)(P:Program)(w:World)(K:PySem.W.Frag)(mg:Str->Option Value)(base:Heap)(N:List Str)(qual:Str)(scope:Scope)(f:Addr)(cd:Value)(A:Around)(outer:List Env)(s:Shared)(H:Hp)(E:XK):Cx where
 prog:=P
 w:=w
 K:=K
 mg:=mg
 base:=base
 A:=A.deeper (envOfC qual scope s.heap.objs.size f cd)
 N:=N
 s_0:=s
 H_0:=H
 env:=envOfC qual scope s.heap.objs.size f cd
 outer:=outer
 stack:=envOfC qual scope s.heap.objs.size f cd::outer
 ex:=[]
 calm:=true
 fn:=fun _=>true
 pn:=[]
 xe:=fun e s'=>wpAny (model P w) (A.deeper (envOfC qual scope s.heap.objs.size f cd)) (leaving (envOfC qual scope s.heap.objs.size f cd) e) (fun _ s''=>CX outer H s E e s'') (fun e' s''=>CX outer H s E e' s'') s'
theorem Mi{sc:Scope}{n:Nat}{x:Str}(h:sc.names.lookup x=some .cell):∃c,(cellsFrom n sc.names []).lookup x=some c:=by
 have q:=PySem.W.cellsFrom_some sc.names n [] (.inl h)
 exact Option.isSome_iff_exists.mp q
theorem KF{CX:CXT}{P:Program}{w:World}{K:PySem.W.Frag}{mg:Str->Option Value}{base:Heap}{N ps:List Str}{qual:Str}{scope:Scope}{f:Addr}{cd:Value}{A:Around}{outer:List Env}{s s1:Shared}{H:Hp}{E:XK}{us:List Value}{vs:List V}
  (S:ZP N ps scope) (hd:A.handled=none) (e0:Env0 P w K mg base A outer s H) (hl:vs.length=ps.length) (r:Vals vs us)
  (x:InCallC s s.heap.objs.size (bindL (envOfC qual scope s.heap.objs.size f cd).kindOf (ps.zip us) fun _=>none) (cellsFrom (s.heap.objs.size+1) scope.names []) (bindC (envOfC qual scope s.heap.objs.size f cd).kindOf (ps.zip us) fun _=>none) s1):
  Inv (cxOf CX P w K mg base N qual scope f cd A outer s H E) [] (start N vs) H s1:=by
 have hpl:ps.length<=N.length:=by have:=congrArg List.length S.pre;rw[Yj]at this;omega
 obtain⟨h1,tk,rfl,hk⟩:=x.done
 have noA:∀b:Addr,b∉(cxOf CX P w K mg base N qual scope f cd A outer s H E).ex:=fun b z=>absurd (show b∈([]:List Addr)from z) (by simp)
 refine⟨⟨e0.mod,S.kind,rfl,rfl,Zl _,fun y z c h1 h2=>?_,fun y hy=>?_,fun y c _ h=>?_,fun _=>hd,Around.frames_deeper e0.frames,.inr ⟨rfl,rfl⟩,fun b z=>absurd z (noA b),e0.bs,e0.bsz,fun b _ _=>noA b,fun b z=>absurd z (noA b),e0.funs,e0.frf⟩,
  rfl,e0.bare,Un.kept hk,⟨_,x.toInCall.ns,fun i y v h1 h2 h3=>?_⟩,fun y c h=>⟨_,x.cell y c h⟩,e0.hok.fresh (Zl _),fun y c h=>?_,fun p hp=>absurd (show p∈([]:List (Addr×Obj))from hp) (by simp),e0.hok.kept hk,?_⟩
 ·exact name_of_addr x.apart (Yb h1) (Yb h2)
 ·have hy:scope.names.lookup y=some .cell\/scope.names.lookup y=some .free:=hy
  rcases hy with hy|hy
  ·exact Mi hy
  ·exact absurd rfl (S.nofree _ (Yb hy))
 ·exact Nat.le_of_lt (x.above y c (Yb h))
 ·have hi:i<vs.length:=by
   unfold start at h2
   by_cases hi:i<vs.length
   ·exact hi
   ·rw[XI (by simpa using hi)]at h2
    rw[List.getElem?_replicate]at h2
    split at h2<;>cases h2
  have ha:vs[i]?=some v:=by
   unfold start at h2
   rw[Xk (by simpa using hi),ZA]at h2
   cases e:vs[i]? with
   |none=>rw[e]at h2;cases h2
   |some a=>rw[e]at h2;cases h2;rfl
  obtain⟨u,hu,rv⟩:=r.get ha
  have hp:ps[i]?=some y:=by
   rw[<-S.pre,List.getElem?_take_of_lt (by omega)];exact h1
  have ndP:ps.Nodup:=by rw[<-S.pre];exact S.nd.sublist (List.take_sublist _ _)
  refine⟨u,rv,?_⟩
  rcases S.par y (Zp hp)with k|k
  ·exact .inl ⟨k,OK ndP hp hu k⟩
  ·obtain⟨c,e⟩:=Mi (n:=s.heap.objs.size+1) k
   refine .inr ⟨.inl k,c,e,?_⟩
   have q:=x.cell y c e
   rw[OM ndP hp hu (by show scope.names.lookup y≠_;rw[k];decide)]at q
   exact q
 ·exact e0.hok.fresh (Nat.le_of_lt (x.above y c (Yb h)))
 ·unfold start
  show _=N.length
  rw[Zj,Za,List.length_replicate]
  omega
theorem fn_of{CX:CXT}{P:Program}{w:World}{K:PySem.W.Frag}{mg:Str->Option Value}{base:Heap}{k:Nat}{f:Addr}{name qual:Str}{params:Arguments}{body:List Stmt}{scope:Scope}{dV kV doc pm cdv ct oc:Value}{an od:Option Addr}
  {osl:Array (Option Value)} {N ps:List Str} {sp:Sp} (lk:K.lookup f=some ⟨oc,od,.func (PySem.W.fnOf name qual params body scope dV kV doc pm an cdv ct),osl⟩) (hcd:PySem.W.codeIn K cdv qual=true) (S:ZP N ps scope)
  (len:∀vs H Q E,sp vs H Q E->vs.length=ps.length)
  (hbody:∀(A:Around)(outer:List Env)(s:Shared)(H:Hp)(vs:List V)(Q:VK)(E:XK),Room k (A.deeper (envOfC qual scope s.heap.objs.size f cdv))->sp vs H Q E->
   ∃t,PSs (cxOf CX P w K mg base N qual scope f cdv A outer s H E) body t/\t {nx:=fun _ H'=>Q .non H',rt:=Q} (start N vs) H):
  FnOk P w K mg base CX (k+1) f (PySem.W.fnOf name qual params body scope dV kV doc pm an cdv ct) ps sp:=by
 refine⟨len,fun A outer s H args us vs Q E hr e0 hb r hsp=>?_⟩
 have hl:=len _ _ _ _ hsp
 have KX:K.In s.heap:=e0.mod.kin.keeps fun b o e=>(e0.bs b o e).1
 have lim:s.heap.NoLimit:=e0.mod.nolimit.keeps fun b o e=>(e0.bs b o e).1
 have hkind:∀y∈ps.zip us,scope.names.lookup y.1=some .local\/(scope.names.lookup y.1=some .cell/\((cellsFrom (s.heap.objs.size+1) scope.names []).lookup y.1).isSome=true):=fun⟨n,v⟩ hy=>by
  rcases S.par n (List.of_mem_zip hy).1 with q|q
  ·exact .inl q
  ·exact .inr ⟨q,PySem.W.cellsFrom_some _ _ _ (.inl q)⟩
 refine codeAny_call_function hr.depth (KX _ _ lk) rfl S.co S.gen rfl (PySem.W.codeRec_of KX hcd) (hb _ _ _ _ ?_)
 refine wpAny_newFunctionEnv_cells S.kind hkind fun env he s1 x=>?_
 subst he
 refine⟨lim.keeps x.toInCall.keep,codeAny_func ?_⟩
 obtain⟨t,ht,hq⟩:=hbody A outer s H vs Q E (hr.deeper _) hsp
 have I:Inv (cxOf CX P w K mg base N qual scope f cdv A outer s H E) [] (start N vs) H s1:=KF S hr.hd e0 hl r x
 refine XF (ht [] s1 (start N vs) H _ I hq) (fun fl s' hs=>?_) fun e s' hs=>hs
 have fin:∀{σ':St}{H':Hp}{v:V}{u:Value},Inv (cxOf CX P w K mg base N qual scope f cdv A outer s H E) [] σ' H' s'->RelV v u->Q v H'->CE outer P w H s Q u s':=
  fun{σ' H' v u} J rv q=>⟨v,H',J.os,J.bare,J.base,J.hok,rv,q⟩
 cases fl with
 |ret u=>
  obtain⟨v,σ',H',J,rv,q⟩:=hs
  exact fin J rv q
 |next=>
  obtain⟨σ',H',J,q⟩:=hs
  exact fin (v:=V.non) (u:=Value.none) J rfl q
 |brk=>
  obtain⟨_,_,_,q⟩:=hs
  exact False.elim q
 |cont=>
  obtain⟨_,_,_,q⟩:=hs
  exact False.elim q
end L2
namespace L2
open PySem PySem.Spec PyProof.Rows
section
variable{X:Cx}{x:Str}{p pos:Pos}{e:Expr}{es:List Expr}{t:TA}{id T:String}{r:List V->Hp->VK->Prop}
noncomputable def tCB(r:List V->Hp->VK->Prop)(t:TA):TE:=fun σ H Q=>t σ H fun vs H1=>r vs H1 Q
theorem Yf(hc:Us X (.builtin id) r)(hg:Gl X x)(hm:X.mg x=none)(hv:bootBuiltins x=some (.builtin id))(ha:PA X (e::es) t)(hn:x≠"__name__":=by decide)(hdb:(x==("__debug__":Str))=false:=by decide)
  (he:starEach (e::es) X.env=(false,eval e X.env)::starEach es X.env:=by rfl) (hpl:(backTo pos (starEach es X.env)).any (·.1)=false:=by rfl):PE X (.Call (.Name x p) (e::es) [] pos) (tCB r t):=by
 intro pins s σ H Q I h
 refine Wn (VY I hg hm hv ?_ hn hdb)
 exact PyProof.Rows.callWith_builtin1 (thn (ha pos pins s σ H _ I h) fun us s1 ⟨vs,H1,I1,r1,q1⟩=>hc pins s1 σ H1 vs us Q I1 r1 q1) he hpl
theorem Kl(hc:Us X (.type T) r)(hg:Gl X x)(hm:X.mg x=none)(hv:bootBuiltins x=some (.type T))(ha:PA X (e::es) t)(hn:x≠"__name__":=by decide)(hdb:(x==("__debug__":Str))=false:=by decide)
  (he:starEach (e::es) X.env=(false,eval e X.env)::starEach es X.env:=by rfl) (hpl:(backTo pos (starEach es X.env)).any (·.1)=false:=by rfl):PE X (.Call (.Name x p) (e::es) [] pos) (tCB r t):=by
 intro pins s σ H Q I h
 refine Wn (VY I hg hm hv ?_ hn hdb)
 exact Ym (thn (ha pos pins s σ H _ I h) fun us s1 ⟨vs,H1,I1,r1,q1⟩=>hc pins s1 σ H1 vs us Q I1 r1 q1) he hpl
end
end L2
namespace HT
open PySem PyProof.Rows
section
open PySem.SeqAt
open PySem.AutoSeq1 (wpAny_loadPart')
open PySem.MeetsSeq PySem.MeetsSeq2 PySem.MeetsSeq3
end
section
variable{prog:Program}{w:World}{A:Around}{E:Value->Shared->Prop}{s:Shared}
noncomputable def sIx(n d:Nat):Option Int->Nat
 |none=>d
 |some v=>if v<0 then(v+(n:Int)).toNat else min v.toNat n
theorem sIx_none(n d:Nat):sIx n d none=d:=rfl
theorem sIx_nat(n d k:Nat):sIx n d (some (k:Int))=min k n:=by
 show(if(k:Int)<0 then((k:Int)+(n:Int)).toNat else min (k:Int).toNat n)=min k n
 rw[if_neg (by omega),Int.toNat_natCast]
end
end HT
namespace L2
open PySem PySem.Spec PyProof.Rows
noncomputable abbrev TO:=St->Hp->(Option Int->Hp->Prop)->Prop
noncomputable def PO(X:Cx)(e:Option Expr)(t:TO):Prop:=
 ∀(pins:List (Addr×Obj))(s:Shared)(σ:St)(H:Hp)(Q:Option Int->Hp->Prop),Inv X pins σ H s->t σ H Q->
  wpAny (model X.prog X.w) X.A (evalPart e X.env) (fun u s'=>∃o H',Inv X pins σ H' s'/\IsPart u o/\Q o H') X.xe s
noncomputable def Lr:TO:=fun _ H Q=>Q none H
noncomputable def tPart(t:TE):TO:=fun σ H Q=>t σ H fun x H1=>∃i,x=.int i/\Q (some i) H1
section
variable{X:Cx}{e:Expr}{te:TE}{lo hi:Option Expr}{tl th:TO}{pos p2:Pos}
theorem Wc:PO X none Lr:=by
 intro pins s σ H Q I h
 rw[evalPart_none]
 exact Zq ⟨none,H,I,.none,h⟩
theorem XY(h:PE X e te):PO X (some e) (tPart te):=by
 intro pins s σ H Q I hw
 rw[evalPart_some]
 refine thn (h pins s σ H _ I hw) fun u s1 ⟨x,H1,I1,r1,q1⟩=>?_
 obtain⟨i,rfl,q⟩:=q1
 obtain⟨t,rfl⟩:=r1
 exact⟨some i,H1,I1,.int i t,q⟩
noncomputable def SlR(X:Cx)(r:V->Option Int->Option Int->Hp->VK->Prop):Prop:=
 ∀(pins:List (Addr×Obj))(s:Shared)(σ:St)(H:Hp)(x:V)(v vl vu:Value)(lo hi:Option Int)(sl:Addr)(Q:VK),Inv X pins σ H s->RelV x v->s.heap.IsSliceOf sl vl vu .none->IsPart vl lo->IsPart vu hi->r x lo hi H Q->
  ∃T id,typeLookup (.type T) "__getitem__"=pure (some (.builtin id))/\s.TypeIs v T/\wpAny (model X.prog X.w) X.A (getItem v (.ref sl)) (EP X pins σ Q) X.xe s
noncomputable def tSl(r:V->Option Int->Option Int->Hp->VK->Prop)(te:TE)(tl th:TO):TE:=fun σ H Q=>te σ H fun x H1=>tl σ H1 fun l H2=>th σ H2 fun u H3=>r x l u H3 Q
theorem XD{r:V->Option Int->Option Int->Hp->VK->Prop}(hr:SlR X r)(he:PE X e te)(hl:PO X lo tl)(hu:PO X hi th):PE X (.Subscript e (.Slice lo hi none p2) pos) (tSl r te tl th):=by
 intro pins s σ H Q I h
 refine Subscript_ (thn (he pins s σ H _ I h) fun v s1 ⟨x,H1,I1,r1,q1⟩=>?_)
 refine wpAny_Slice (thn (hl pins s1 σ H1 _ I1 q1) fun vl s2 ⟨l,H2,I2,pl,q2⟩=>thn (hu pins s2 σ H2 _ I2 q2) fun vu s3 ⟨u,H3,I3,pu,q3⟩=>?_)
 rw[evalPart_none]
 refine Zq ?_
 have I4:Inv X pins σ H3 {s3 with heap:=s3.heap.push {cls:=.type "slice",data:=.fields #[vl,vu,.none]}}:=I3.kept (t':=s3.toks) fun b ob q=>Zz _ q
 obtain⟨T,id,hT,ht,hg⟩:=hr pins {s3 with heap:=s3.heap.push {cls:=.type "slice",data:=.fields #[vl,vu,.none]}} σ H3 x v vl vu l u s3.heap.objs.size Q I4 r1 (Heap.IsSliceOf.new ..) pl pu q3
 show wpAny (model X.prog X.w) X.A (subscriptTail e (.Slice lo hi none p2) v (.ref s3.heap.objs.size)) (EP X pins σ Q) X.xe {s3 with heap:=s3.heap.push {cls:=.type "slice",data:=.fields #[vl,vu,.none]}}
 exact tail_any (ops:=[.ref s3.heap.objs.size,v]) ht hT hg (by with_unfolding_all rfl)
noncomputable def cutV(xs:List V)(lo hi:Option Int):List V:=(xs.drop (HT.sIx xs.length 0 lo)).take (HT.sIx xs.length xs.length hi-HT.sIx xs.length 0 lo)
theorem Mf(xs:List V)(lo hi:Option Int):(cutV xs lo hi).length<=xs.length:=by
 unfold cutV
 rw[Yj,Z5]
 omega
end
end L2
namespace L2
open PySem PySem.Spec PyProof.Rows
noncomputable def ixN(n:Nat)(i:Int):Option Nat:=if 0<=i then(if i<n then some i.toNat else none)else if -(n:Int)<=i then some (i+n).toNat else none
noncomputable def atI{α:Type}(xs:List α)(i:Int):Option α:=(ixN xs.length i).bind fun j=>xs[j]?
theorem LP{n:Nat}{i:Int}{j:Nat}(h:ixN n i=some j):seqIndex? i n=some j/\j<n/\ -(n:Int)<=i/\i<n:=by
 unfold ixN at h
 by_cases h0:0<=i
 ·rw[if_pos h0]at h
  by_cases h1:i<n
  ·rw[if_pos h1]at h
   have e:i.toNat=j:=ZC h
   exact⟨by rw[seqIndex_of h0 h1,e],by omega,by omega,h1⟩
  ·rw[if_neg h1]at h;cases h
 ·rw[if_neg h0]at h
  by_cases h1: -(n:Int)<=i
  ·rw[if_pos h1]at h
   have e:(i+n).toNat=j:=ZC h
   exact⟨by rw[seqIndex_neg (by omega) h1,e],by omega,h1,by omega⟩
  ·rw[if_neg h1]at h;cases h
theorem LZ{α:Type}{xs:List α}{i:Int}{v:α}(h:atI xs i=some v):∃j,seqIndex? i xs.length=some j/\xs[j]?=some v/\j<xs.length/\ -(xs.length:Int)<=i/\i<xs.length:=by
 unfold atI at h
 cases e:ixN xs.length i with
 |none=>rw[e]at h;cases h
 |some j=>
  rw[e]at h
  obtain⟨h1,h2,h3,h4⟩:=LP e
  exact⟨j,h1,h,h2,h3,h4⟩
theorem atI_nat{α:Type}{xs:List α}{j:Nat}{v:α}(h:xs[j]?=some v):atI xs (j:Int)=some v:=by
 have hj:j<xs.length:=(Zd.mp h).1
 have e:ixN xs.length (j:Int)=some j:=by
  unfold ixN
  rw[if_pos (by omega),if_pos (by omega)];simp
 unfold atI;rw[e];exact h
noncomputable def PlainIx(b:Expr):Prop:=∀o i,subscripted b false o i=operate [o,i] (getItem o i)
noncomputable def IxR(X:Cx)(r:R2):Prop:=
 ∀(value slice:Expr)(pins:List (Addr×Obj))(s:Shared)(σ:St)(H:Hp)(x y:V)(v u:Value)(Q:VK),Inv X pins σ H s->RelV x v->RelV y u->r x y H Q->
  subscripted slice false v u=operate [v,u] (getItem v u)->wpAny (model X.prog X.w) X.A (subscriptTail value slice v u) (EP X pins σ Q) X.xe s
noncomputable def MtR(X:Cx)(id:String)(r:V->List V->Hp->VK->Prop):Prop:=
 ∀(pins:List (Addr×Obj))(s:Shared)(σ:St)(H:Hp)(x:V)(xs:List V)(v:Value)(us:List Value)(Q:VK),Inv X pins σ H s->RelV x v->Vals xs us->r x xs H Q->
  wpAny (model X.prog X.w) X.A (call (.builtin id) (v::us)) (EP X pins σ Q) X.xe s
section
variable{X:Cx}{a b:Expr}{ta tb:TE}{pos:Pos}
theorem Xt{r:R2}(hr:IxR X r)(ha:PE X a ta)(hb:PE X b tb)(hs:PlainIx b):PE X (.Subscript a b pos) (tOp r ta tb):=by
 intro pins s σ H Q I h
 exact Subscript_ (binT ha hb I h fun v u s2 x y H2 I2 rx ry q=>hr a b pins s2 σ H2 x y v u Q I2 rx ry q (hs _ _))
noncomputable def rIxL(K:PySem.W.Frag):R2:=fun x y H Q=>∃p xs i v,x=.ref p/\y=.int i/\SqL K H p xs/\atI xs i=some v/\Q v H
noncomputable def rIxT(K:PySem.W.Frag):R2:=fun x y H Q=>∃p xs i v,x=.ref p/\y=.int i/\SqT K H p xs/\atI xs i=some v/\Q v H
theorem YQ:IxR X (rIxL X.K):=by
 intro value slice pins s σ H x y v u Q I rx ry h hs
 obtain⟨p,xs,i,z,rfl,rfl,hq,he,q⟩:=h
 cases rx
 obtain⟨t,rfl⟩:=ry
 obtain⟨its,r,pl,hz⟩:=I.list hq
 obtain⟨j,h1,h2,h3,h4,h5⟩:=LZ he
 obtain⟨w,ew,rw'⟩:=r.get h2
 have hl:=r.length
 have hn:=Nd
 have fin:EP X pins σ Q w s:=⟨z,H,I,rw',q⟩
 by_cases h0:0<=i
 ·have hj:i.toNat=j:=by
   rw[seqIndex_of h0 h5]at h1
   exact ZC h1
  exact item_listR pl.isList h0 (by omega) (by rw[hj];simpa using ew) fin hs
 ·have hj:(i+(its.toArray.size:Int)).toNat=j:=by
   rw[seqIndex_neg (by omega) h4]at h1
   rw[ZH,<-hl]
   exact ZC h1
  exact subscriptTail_builtinR (x:=w) pl.isList.typeIs slot_list_getitem.lookup
   (wpAny_getItem_list_neg (Q:=fun r s'=>r=w/\EP X pins σ Q r s') pl.isList (by omega) (by rw[ZH]<;>omega) (by omega) (by rw[hj];simpa using ew) ⟨rfl,fin⟩) hs
theorem M5:IxR X (rIxT X.K):=by
 intro value slice pins s σ H x y v u Q I rx ry h hs
 obtain⟨p,xs,i,z,rfl,rfl,hq,he,q⟩:=h
 cases rx
 obtain⟨t,rfl⟩:=ry
 obtain⟨its,r,pl,hz⟩:=I.tuple hq
 obtain⟨j,h1,h2,h3,h4,h5⟩:=LZ he
 obtain⟨w,ew,rw'⟩:=r.get h2
 have hl:=r.length
 have hn:=Nd
 have fin:EP X pins σ Q w s:=⟨z,H,I,rw',q⟩
 exact subscriptTail_builtinR (x:=w) pl.typeIs slot_tuple_getitem.lookup
  (getItem_tuple (j:=j) (Q:=fun r s'=>r=w/\EP X pins σ Q r s') pl (by omega) (by omega) (by rw[ZH,<-hl];exact h1) (by simpa using ew) ⟨rfl,fin⟩) hs
theorem M0(its:List Value)(n j:Nat)(u:Value):Obj.mapSeq (·.setIfInBounds j u) {cls:=.type "list",data:=.seq its.toArray n}={cls:=.type "list",data:=.seq (its.set j u).toArray n}:=by
 simp[Obj.mapSeq]
theorem Inv.lst{pins:List (Addr×Obj)}{σ:St}{H:Hp}{s:Shared}{p:Addr}{xs:List V}(I:Inv X pins σ H s)(h:H p=some (.lst xs)):
  ∃(its:List Value)(n:Nat),Vals xs its/\s.heap.get? p=some {cls:=.type "list",data:=.seq its.toArray n}/\xs.length<=sizeLine:=by
 obtain⟨z,its,n,r,e⟩:=I.hok p _ h
 exact⟨its,n,r,e,z⟩
theorem Inv.lstUpd{pins:List (Addr×Obj)}{σ:St}{H:Hp}{s:Shared}{p:Addr}{xs ys:List V}{its its':List Value}{n n':Nat}{f:Obj->Obj}(I:Inv X pins σ H s)(h:H p=some (.lst xs))
  (ho:s.heap.get? p=some {cls:=.type "list",data:=.seq its.toArray n}) (hf:f {cls:=.type "list",data:=.seq its.toArray n}={cls:=.type "list",data:=.seq its'.toArray n'}) (r:Vals ys its') (hz:ys.length<=sizeLine) (t:Nat):
  Inv X pins σ (upd H p (.lst ys)) {s with heap:=s.heap.update p f,toks:=t}:=by
 have e:(s.heap.update p f).get? p=some {cls:=.type "list",data:=.seq its'.toArray n'}:=by
  rw[Vy f ho (by rw[hf]<;>rfl),hf]
 refine I.write (x:=p) (e:=p) (by rw[h];trivial) (.inl rfl) (fun b u hb q=>(Heap.get?_update_other _ _ (Yq hb)).trans q) ⟨_,e⟩ ?_
 exact⟨hz,its',n',r,e⟩
noncomputable def rSetL:V->V->V->Hp->(Hp->Prop)->Prop:=fun o i v H Q=>∃p xs k j,o=.ref p/\i=.int k/\H p=some (.lst xs)/\ixN xs.length k=some j/\Q (upd H p (.lst (xs.set j v)))
theorem set_list:PSet X rSetL:=by
 intro pins s σ H o i v ov iv u Q I ro ri rv h
 obtain⟨p,xs,k,j,rfl,rfl,hp,hj,q⟩:=h
 cases ro
 obtain⟨t,rfl⟩:=ri
 obtain⟨its,n,r,ho,hz⟩:=I.lst hp
 obtain⟨h1,h2,h3,h4⟩:=LP hj
 have hl:=r.length
 have hn:=Nd
 have I':Inv X pins σ (upd H p (.lst (xs.set j v))) {s with heap:=s.heap.update p (Obj.mapSeq (·.setIfInBounds j u))}:=
  I.lstUpd hp ho (M0 its n j u) (r.set rv j) (by rw[List.length_set];exact hz) s.toks
 by_cases h0:0<=k
 ·have hk:k.toNat=j:=by
   rw[seqIndex_of h0 h4]at h1
   exact ZC h1
  exact PySem.W.ki_setAt ho h0 (by omega) (by rw[ZH,<-hl];exact h4) (by rw[hk];exact⟨_,I',q⟩)
 ·have hk:(k+(its.toArray.size:Int)).toNat=j:=by
   rw[seqIndex_neg (by omega) h3]at h1
   rw[ZH,<-hl]
   exact ZC h1
  exact PySem.W.ki_setBack ho (by omega) (by rw[ZH,<-hl];exact h3) (by omega) (by rw[hk];exact⟨_,I',q⟩)
theorem OZ(lo hi:Option Int)(n:Nat):(sliceBounds lo hi none n).1=((HT.sIx n 0 lo:Nat):Int)/\(sliceBounds lo hi none n).2.1=((HT.sIx n n hi:Nat):Int)/\(sliceBounds lo hi none n).2.2=1:=by
 refine⟨?_,?_,rfl⟩
 ·cases lo with
  |none=>simp[sliceBounds,HT.sIx]
  |some i=>
   simp only[sliceBounds,HT.sIx,Option.getD_none,show(1:Int)>0 by decide,if_true]
   by_cases h:i<0
   ·simp only[h,if_true]<;>omega
   ·simp only[h,if_false]<;>omega
 ·cases hi with
  |none=>simp[sliceBounds,HT.sIx]
  |some i=>
   simp only[sliceBounds,HT.sIx,Option.getD_none,show(1:Int)>0 by decide,if_true]
   by_cases h:i<0
   ·simp only[h,if_true]<;>omega
   ·simp only[h,if_false]<;>omega
theorem Pc(its:List Value)(lo hi:Option Int):slicePick its.toArray lo hi none=((its.drop (HT.sIx its.length 0 lo)).take (HT.sIx its.length its.length hi-HT.sIx its.length 0 lo)).toArray:=by
 obtain⟨h1,h2,h3⟩:=OZ lo hi its.toArray.size
 unfold slicePick
 rw[h1,h2,h3]
 simp only[sliceRange_one,pick_run,ZH]<;>rfl
noncomputable def rSlL(K:PySem.W.Frag):V->Option Int->Option Int->Hp->VK->Prop:=fun x lo hi H Q=>∃a xs,x=.ref a/\SqL K H a xs/\∀p,H p=none->Q (.ref p) (upd H p (.lst (cutV xs lo hi)))
theorem Wb:SlR X (rSlL X.K):=by
 intro pins s σ H x v vl vu lo hi sl Q I rx hs pl pu h
 obtain⟨a,xs,rfl,hx,q⟩:=h
 cases rx
 obtain⟨its,r,ht,hz⟩:=I.list hx
 have hlen:=r.length
 refine⟨"list",_,slot_list_getitem.lookup,ht.isList.typeIs,?_⟩
 refine wpAny_getItem_list_slice ht.isList hs pl pu .none (by simp) ?_ (by rw[ZH]<;>omega)
 rw[Pc,<-hlen]
 refine⟨.ref s.heap.objs.size,_,I.laid (t':=s.toks) (o:=.lst (cutV xs lo hi)) (fun b ob q=>Zz _ q) (Zl _) ?_,rfl,q _ (I.hok.fresh (Zl _))⟩
 exact⟨Zi (Mf xs lo hi) hz,_,0,(r.drop (HT.sIx xs.length 0 lo)).take (HT.sIx xs.length xs.length hi-HT.sIx xs.length 0 lo),ZW _ rfl⟩
noncomputable def RH:V->Bool
 | .non=>true
 | .bl _=>true
 | .int _=>true
 | .str _=>true
 |_=>false
noncomputable def eqV:V->V->Bool
 | .non,.non=>true
 | .bl a,.bl b=>a==b
 | .bl a,.int b=>(if a then 1 else 0)==b
 | .int a,.bl b=>a==(if b then 1 else 0)
 | .int a,.int b=>a==b
 | .str a,.str b=>a==b
 |_,_=>false
theorem eqAt_V{A:Around}{s:Shared}{y x:V}{u v:Value}(ry:RelV y u)(rx:RelV x v)(fy:RH y=true)(fx:RH x=true):SeqAt.EqAt A s u v (eqV y x):=by
 cases y with
 |non=>
  cases ry
  cases x with
  |non=>cases rx;exact SeqAt.EqAt.same _
  |bl b=>cases rx;exact SeqAt.EqAt.none_bool b
  |int b=>obtain⟨t,rfl⟩:=rx;exact SeqAt.EqAt.none_int b t
  |str b=>obtain⟨t,rfl⟩:=rx;exact SeqAt.EqAt.none_str b t
  |_=>exact absurd (show false=true from fx) ZM
 |bl a=>
  cases ry
  cases x with
  |non=>cases rx;exact SeqAt.EqAt.bool_none a
  |bl b=>cases rx;exact SeqAt.EqAt.bool_bool a b
  |int b=>obtain⟨t,rfl⟩:=rx;exact SeqAt.EqAt.bool_int a b t
  |str b=>obtain⟨t,rfl⟩:=rx;exact SeqAt.EqAt.bool_str a b t
  |_=>exact absurd (show false=true from fx) ZM
 |int a=>
  obtain⟨t',rfl⟩:=ry
  cases x with
  |non=>cases rx;exact SeqAt.EqAt.int_none a t'
  |bl b=>cases rx;exact SeqAt.EqAt.int_bool a t' b
  |int b=>obtain⟨t,rfl⟩:=rx;exact SeqAt.EqAt.int_int a t' b t
  |str b=>obtain⟨t,rfl⟩:=rx;exact SeqAt.EqAt.int_str a t' b t
  |_=>exact absurd (show false=true from fx) ZM
 |str a=>
  obtain⟨t',rfl⟩:=ry
  cases x with
  |non=>cases rx;exact SeqAt.EqAt.str_none a t'
  |bl b=>cases rx;exact SeqAt.EqAt.str_bool a t' b
  |int b=>obtain⟨t,rfl⟩:=rx;exact SeqAt.EqAt.str_int a t' b t
  |str b=>obtain⟨t,rfl⟩:=rx;exact SeqAt.EqAt.str_str a t' b t
  |_=>exact absurd (show false=true from fx) ZM
 |_=>exact absurd (show false=true from fy) ZM
noncomputable def eqU(x:V)(u:Value):Bool:=match u with
 | .none=>eqV .non x
 | .bool b=>eqV (.bl b) x
 | .int i _=>eqV (.int i) x
 | .str z _=>eqV (.str z) x
 |_=>false
theorem eqU_of{x y:V}{u:Value}(r:RelV y u)(f:RH y=true):eqU x u=eqV y x:=by
 cases y with
 |non=>cases r;rfl
 |bl b=>cases r;rfl
 |int i=>obtain⟨t,rfl⟩:=r;rfl
 |str z=>obtain⟨t,rfl⟩:=r;rfl
 |_=>exact absurd (show false=true from f) ZM
theorem SE{x:V}:∀{xs:List V}{us:List Value},Vals xs us->xs.all RH=true->us.any (eqU x)=xs.any fun y=>eqV y x
 |_,_,.nil,_=>rfl
 |y::xs,u::us,.cons r t,f=>by
  rw[XZ,Zv]at f
  rw[Yt,Yt,eqU_of r f.1,SE t f.2]
theorem UW{A:Around}{s:Shared}{x:V}{v:Value}(rx:RelV x v)(fx:RH x=true):∀{xs:List V}{us:List Value},Vals xs us->xs.all RH=true->∀u∈us,SeqAt.EqAt A s u v (eqU x u)
 |_,_,.nil,_=>fun u hu=>by cases hu
 |y::xs,u::us,.cons r t,f=>fun u' hu=>by
  rw[XZ,Zv]at f
  rcases Zw.mp hu with rfl|hu
  ·rw[eqU_of r f.1];exact eqAt_V r rx f.1 fx
  ·exact UW rx fx t f.2 u' hu
noncomputable def inV(x:V)(xs:List V):Bool:=xs.any fun y=>eqV y x
noncomputable def rIn(K:PySem.W.Frag)(neg:Bool):R2:=fun x y H Q=>∃p xs,y=.ref p/\(SqL K H p xs\/SqT K H p xs)/\RH x=true/\xs.all RH=true/\Q (.bl (if neg then !inV x xs else inV x xs)) H
theorem Rb:OpR X (compareOp .In) (rIn X.K false):=by
 intro pins s σ H x y v u Q I rx ry h
 obtain⟨p,xs,rfl,hq,fx,fs,q⟩:=h
 cases ry
 rcases hq with hq|hq
 ·obtain⟨its,r,pl,hz⟩:=I.list hq
  refine SeqAt.in_listAt (eqU x) pl.isList (fun w hw=>UW rx fx r fs w (by simpa using hw)) ⟨.bl _,H,I,rfl,?_⟩
  rw[show its.toArray.any (eqU x)=its.any (eqU x) by simp,SE r fs]
  exact q
 ·obtain⟨its,r,pl,hz⟩:=I.tuple hq
  refine SeqAt.in_tupleAt (eqU x) pl (fun w hw=>UW rx fx r fs w (by simpa using hw)) ⟨.bl _,H,I,rfl,?_⟩
  rw[show its.toArray.any (eqU x)=its.any (eqU x) by simp,SE r fs]
  exact q
theorem O8:OpR X (compareOp .NotIn) (rIn X.K true):=by
 intro pins s σ H x y v u Q I rx ry h
 obtain⟨p,xs,rfl,hq,fx,fs,q⟩:=h
 cases ry
 rcases hq with hq|hq
 ·obtain⟨its,r,pl,hz⟩:=I.list hq
  refine SeqAt.notIn_listAt (eqU x) pl.isList (fun w hw=>UW rx fx r fs w (by simpa using hw)) ⟨.bl _,H,I,rfl,?_⟩
  rw[show its.toArray.any (eqU x)=its.any (eqU x) by simp,SE r fs]
  exact q
 ·obtain⟨its,r,pl,hz⟩:=I.tuple hq
  refine SeqAt.notIn_tupleAt (eqU x) pl (fun w hw=>UW rx fx r fs w (by simpa using hw)) ⟨.bl _,H,I,rfl,?_⟩
  rw[show its.toArray.any (eqU x)=its.any (eqU x) by simp,SE r fs]
  exact q
theorem Yn:Us X (.builtin "len") (fun xs H Q=>∃p ys,xs=[.ref p]/\(SqL X.K H p ys\/SqT X.K H p ys)/\Q (.int ys.length) H):=by
 intro pins s σ H xs us Q I r h
 obtain⟨p,ys,rfl,hq,q⟩:=h
 obtain⟨u,rfl,rx⟩:=vals1 r
 cases rx
 have hn:=Nd
 rcases hq with hq|hq
 ·obtain⟨its,r',pl,hz⟩:=I.list hq
  have hlen:=r'.length
  exact Calls.call_len_list pl.isList (by simp only[ZH]<;>omega) ⟨.int ys.length,H,I.tok _,⟨s.toks+1,by rw[ZH,hlen]⟩,q⟩
 ·obtain⟨its,r',pl,hz⟩:=I.tuple hq
  have hlen:=r'.length
  exact len_tuple pl (by simp only[ZH]<;>omega) ⟨.int ys.length,H,I.tok _,⟨s.toks+1,by rw[ZH,hlen]⟩,q⟩
noncomputable def tyV(K:PySem.W.Frag)(T:String)(x:V)(H:Hp):Prop:=match x with
 | .str _=>T="str"
 | .int _=>T="int"
 | .ref p=>(T="list"/\∃xs,SqL K H p xs)\/(T="tuple"/\∃o,K.lookup p=some o/\o.cls=.type "tuple"/\o.dict=none)\/
   (T="dict"/\((∃kvs,H p=some (.dK kvs))\/∃kvs,H p=some (.dT kvs)))\/(T="set"/\∃S n,H p=some (.set S n))
 |_=>False
theorem tyV_is{pins:List (Addr×Obj)}{σ:St}{H:Hp}{s:Shared}{T:String}{x:V}{v:Value}(I:Inv X pins σ H s)(r:RelV x v)(ty:tyV X.K T x H):
  s.TypeIs v T/\∀a,v=.ref a->∃ob,s.heap.get? a=some ob/\ob.dict=none:=by
 cases x with
 |str z=>
  obtain⟨t,rfl⟩:=r
  cases(show T="str" from ty)
  exact⟨typeIs_str s z t,fun _ e=>nomatch e⟩
 |int i=>
  obtain⟨t,rfl⟩:=r
  cases(show T="int" from ty)
  exact⟨typeIs_int s i t,fun _ e=>nomatch e⟩
 |ref p=>
  cases r
  rcases ty with⟨rfl,xs,hq⟩|⟨rfl,o,hk,hc,hd⟩|⟨rfl,hk⟩|⟨rfl,S,n,hk⟩
  ·obtain⟨its,_,pl,_⟩:=I.list hq
   refine⟨pl.isList.typeIs,fun a e=>?_⟩
   cases e
   obtain⟨o,n,e,c,hd,_⟩:=pl
   exact⟨o,e,hd⟩
  ·refine⟨⟨o,I.kIn p o hk,hc⟩,fun a e=>?_⟩
   cases e
   exact⟨o,I.kIn _ o hk,hd⟩
  ·have z:∃o,s.heap.get? p=some o/\o.ExactDict:=by
    rcases hk with⟨kvs,hk⟩|⟨kvs,hk⟩
    ·obtain⟨_,_,_,_,o,_,_,e,ex,_⟩:=I.hok p _ hk
     exact⟨o,e,ex⟩
    ·obtain⟨_,_,_,_,o,_,_,e,ex,_⟩:=I.hok p _ hk
     exact⟨o,e,ex⟩
   obtain⟨o,e,ex⟩:=z
   refine⟨⟨o,e,ex.1⟩,fun a e2=>?_⟩
   cases e2
   exact⟨o,e,ex.2.1⟩
  ·obtain⟨o,_,_,_,e,ex,_⟩:=I.hok p _ hk
   refine⟨⟨o,e,ex.1⟩,fun a e2=>?_⟩
   cases e2
   exact⟨o,e,ex.2.1⟩
 |_=>exact False.elim ty
noncomputable def tBM(K:PySem.W.Frag)(T:String)(r:V->List V->Hp->VK->Prop)(to:TE)(t:TA):TE:=fun σ H Q=>to σ H fun x H1=>tyV K T x H1/\t σ H1 fun xs H2=>r x xs H2 Q
variable{o e:Expr}{es:List Expr}{to:TE}{t:TA}{name:Str}{apos cpos:Pos}{T id:String}{r:V->List V->Hp->VK->Prop}
theorem Um(pa:PlainAttrs T)(slot:Slot T name id)(hty:typeOf (.builtin id)=pure (.type "method_descriptor"))(hm:MtR X id r)(ho:PE X o to)(ha:PA X (e::es) t)
  (hbase:attributeBase o name X.env (eval o X.env)=eval o X.env:=by rfl)
  (hfew:((backTo cpos (starEach (e::es) X.env)).all (fun x=>!x.1)&&(backToKw cpos (keywordEach [] X.env)).all (fun x=>x.1.isSome)
   &&decide ((e::es).length+([]:List Keyword).length+(if([]:List Keyword).isEmpty then 0 else 1)<30))=true:=by rfl)
  (hline:(apos.endLine==cpos.line)=true:=by rfl) (hs:starEach (e::es) X.env=(false,eval e X.env)::starEach es X.env:=by rfl) (hplain:(backTo cpos (starEach es X.env)).any (·.1)=false:=by rfl):
  PE X (.Call (.Attribute o name apos) (e::es) [] cpos) (tBM X.K T r to t):=by
 intro pins s σ H Q I h
 refine wpAny_Call_method_late hbase hfew hline rfl (thn (ho pins s σ H _ I h) fun v s1 ⟨x,H1,I1,r1,ty,q1⟩=>?_)
 obtain⟨h1,h2⟩:=tyV_is I1 r1 ty
 refine⟨T,id,pa,slot,hty,h1,h2,?_⟩
 have hA:=ha cpos pins s1 σ H1 _ I1 q1
 rw[hs]at hA⊢
 refine Calls.callWith_builtin (by show(false||(backTo cpos (starEach es X.env)).any (·.1))=false;rw[hplain]<;>rfl) (Calls.evalArgs_plain ?_)
 exact thn hA fun us s2 ⟨vs,H2,I2,r2,q2⟩=>hm pins s2 σ H2 x vs v us Q I2 r1 r2 q2
end
end L2
namespace L2
open PySem PySem.Spec PyProof.Rows
noncomputable def MtM(X:Cx)(id:String)(r:V->List V->Hp->VK->Prop):Prop:=
 ∀(pins:List (Addr×Obj))(s:Shared)(σ:St)(H:Hp)(x:V)(xs:List V)(v:Value)(us:List Value)(Q:VK),Inv X pins σ H s->RelV x v->Vals xs us->r x xs H Q->
  wpAny (model X.prog X.w) X.A (call (.builtin id) (v::us)) (EP X pins σ Q) X.xe s
theorem Vals.one:∀{x:V}{us:List Value},Vals [x] us->∃u,us=[u]/\RelV x u
 |_,_,.cons r .nil=>⟨_,rfl,r⟩
theorem Vals.rep{xs:List V}{us:List Value}(h:Vals xs us):∀k:Nat,Vals (List.replicate k xs).flatten (List.replicate k us).flatten
 |0=>.nil
 |k+1=>by
  rw[WE,WE,XW,XW]
  exact Vals.append h (Vals.rep h k)
theorem foldl_rep(its:List Value):∀(k:Nat)(acc:List Value),
  List.foldl (fun x1 x2=>x1++x2) acc.toArray (List.replicate k its.toArray)=(acc++(List.replicate k its).flatten).toArray
 |0,acc=>by simp
 |k+1,acc=>by
  have e:acc.toArray++its.toArray=(acc++its).toArray:=by simp
  have e2:(acc++its)++(List.replicate k its).flatten=acc++(List.replicate (k+1) its).flatten:=by
   rw[WE,XW,Xv]
  rw[<-e2,<-foldl_rep its k (acc++its),<-e,WE,Y7]
section
variable{X:Cx}{pins:List (Addr×Obj)}{σ:St}{H:Hp}{s:Shared}{l b:Addr}{xs ys zs:List V}
theorem Inv.lset{its its':List Value}{n:Nat}{f:Array Value->Array Value}{t':Nat}(I:Inv X pins σ H s)(hH:H l=some (.lst xs))
  (e:s.heap.get? l=some {cls:=.type "list",data:=.seq its.toArray n}) (hf:f its.toArray=its'.toArray) (hv:Vals ys its') (hz:ys.length<=sizeLine):
  Inv X pins σ (upd H l (.lst ys)) {s with heap:=s.heap.update l (Obj.mapSeq f),toks:=t'}:=by
 have q:=PySem.IsL.update e f
 rw[hf]at q
 refine I.write (x:=l) (e:=l) (by rw[hH];exact trivial) (.inl rfl) (fun b' u hb hu=>(Heap.get?_update_other s.heap (Obj.mapSeq f) (Yq hb)).trans hu) ⟨_,q⟩ ?_
 exact⟨hz,its',_,hv,q⟩
theorem Inv.lnew{its:List Value}{t':Nat}(I:Inv X pins σ H s)(hv:Vals ys its)(hz:ys.length<=sizeLine):
  Inv X pins σ (upd H s.heap.objs.size (.lst ys)) {s with heap:=s.heap.push {cls:=.type "list",data:=.seq its.toArray},toks:=t'}:=
 I.laid (fun _ _ q=>Zz _ q) (Zl _) ⟨hz,its,0,hv,ZW _ rfl⟩
theorem Inv.fresh(I:Inv X pins σ H s):H s.heap.objs.size=none:=I.hok.fresh (Zl _)
theorem Inv.lstM(I:Inv X pins σ H s)(hH:H l=some (.lst xs)):xs.length<=sizeLine/\∃(its:List Value)(n:Nat),Vals xs its/\xs.length=its.length/\s.heap.get? l=some {cls:=.type "list",data:=.seq its.toArray n}:=by
 obtain⟨z,its,n,r,e⟩:=I.hok l _ hH
 exact⟨z,its,n,r,r.length,e⟩
theorem NW{n:Nat}(h:n<=sizeLine):Builtin.List.listTooLong n=false:=by
 unfold Builtin.List.listTooLong
 exact decide_eq_false (by omega)
end
section
variable{X:Cx}
noncomputable def rAppend:V->List V->Hp->VK->Prop:=fun x vs H Q=>∃l xs y,x=.ref l/\vs=[y]/\H l=some (.lst xs)/\xs.length<sizeLine/\Q .non (upd H l (.lst (xs++[y])))
theorem WJ:MtM X "list.append" rAppend:=by
 intro pins s σ H x vs v us Q I rx rv h
 obtain⟨l,xs,y,rfl,rfl,hH,hz,q⟩:=h
 cases rx
 obtain⟨u,rfl,ru⟩:=rv.one
 obtain⟨z,its,n,r,hl,e⟩:=I.lstM hH
 refine call_meets F.slot_list_append ⟨_,e,rfl⟩ F.entry_list_append (F.args_list_append_2 _ _) (PySem.list_append l its.toArray n u (by rw[ZH];omega)) ⟨e,?_⟩
 refine⟨.non,_,I.lset (its':=its++[u]) hH e (by simp) (r.append (.cons ru .nil)) ?_,rfl,q⟩
 rw[Zj,Z6]
 omega
noncomputable def LB:V->List V->Hp->VK->Prop:=fun x vs H Q=>∃l b xs zs,x=.ref l/\vs=[.ref b]/\H l=some (.lst xs)/\H b=some (.lst zs)/\xs.length+zs.length<=sizeLine/\Q .non (upd H l (.lst (xs++zs)))
theorem Uo:MtM X "list.extend" LB:=by
 intro pins s σ H x vs v us Q I rx rv h
 obtain⟨l,b,xs,zs,rfl,rfl,hH,hB,hz,q⟩:=h
 cases rx
 obtain⟨u,rfl,ru⟩:=rv.one
 cases ru
 obtain⟨z,its,n,r,hl,e⟩:=I.lstM hH
 obtain⟨z2,its2,n2,r2,hl2,e2⟩:=I.lstM hB
 have hsz:its.toArray.size+its2.toArray.size<=sizeLine:=by rw[ZH,ZH];omega
 have hlong:¬(!its.toArray.isEmpty&&Builtin.List.listTooLong (its.toArray.size+its2.toArray.size))=true:=by
  rw[NW hsz,X4]
  exact ZM
 refine call_meets F.slot_list_extend ⟨_,e,rfl⟩ F.entry_list_extend (F.args_list_extend_2 _ _)
  (AutoSeq1.list_extend_list_list_0 l its.toArray n b its2.toArray n2 hlong (by rw[ZH];omega) (by omega)) ⟨e,e2,?_⟩
 refine⟨.non,_,I.lset (its':=its++its2) hH e (by simp) (r.append r2) ?_,rfl,q⟩
 rw[Zj]
 omega
noncomputable def rCat:R2:=fun x y H Q=>∃l b xs zs,x=.ref l/\y=.ref b/\H l=some (.lst xs)/\H b=some (.lst zs)/\xs.length+zs.length<=sizeLine/\∀p,H p=none->Q (.ref p) (upd H p (.lst (xs++zs)))
theorem T4:OpR X (binaryOp .Add) rCat:=by
 intro pins s σ H x y v u Q I rx ry h
 obtain⟨l,b,xs,zs,rfl,rfl,hH,hB,hz,q⟩:=h
 cases rx
 cases ry
 obtain⟨z,its,n,r,hl,e⟩:=I.lstM hH
 obtain⟨z2,its2,n2,r2,hl2,e2⟩:=I.lstM hB
 refine PySem.P.add_list e e2 ?_ (by rw[ZH,ZH];omega)
 have ea:its.toArray++its2.toArray=(its++its2).toArray:=by simp
 rw[ea]
 exact⟨.ref _,_,I.lnew (t':=s.toks) (r.append r2) (by rw[Zj];omega),rfl,q _ I.fresh⟩
noncomputable def rRep:R2:=fun x y H Q=>∃l k xs,x=.ref l/\y=.int k/\H l=some (.lst xs)/\ -(2^63)<=k/\k<2^63/\xs.length*k.toNat<=sizeLine/\
 ∀p,H p=none->Q (.ref p) (upd H p (.lst (List.replicate k.toNat xs).flatten))
theorem len_rep{α:Type}(xs:List α)(k:Nat):(List.replicate k xs).flatten.length=k*xs.length:=by
 induction k with
 |zero=>simp
 |succ k ih=>rw[WE,XW,Zj,ih,Nat.succ_mul,Vl]
theorem op_rep:OpR X (binaryOp .Mult) rRep:=by
 intro pins s σ H x y v u Q I rx ry h
 obtain⟨l,k,xs,rfl,rfl,hH,h1,h2,hz,q⟩:=h
 cases rx
 obtain⟨t,rfl⟩:=ry
 obtain⟨z,its,n,r,hl,e⟩:=I.lstM hH
 have hlen:its.toArray.size*k.toNat<=sizeLine:=by rw[ZH,<-hl];exact hz
 have hcap:¬its.toArray.size*k.toNat>(2^63-1)/8:=by
  have:(sizeLine:Nat)<=(2^63-1)/8:=by decide
  omega
 have hfit:¬(!Builtin.List.listFitsIndex k)=true:=by
  rw[fitsIndex_both h1 h2]
  exact ZM
 have hlong:¬Builtin.List.listTooLong (its.toArray.size*k.toNat)=true:=by
  rw[NW hlen]
  exact ZM
 have hnew:List.foldl (fun x1 x2=>x1++x2) #[] (List.replicate (if its.toArray.isEmpty=true then 0 else k.toNat) its.toArray)=(List.replicate k.toNat its).flatten.toArray:=by
  have f0:∀m:Nat,List.foldl (fun x1 x2=>x1++x2) #[] (List.replicate m its.toArray)=(List.replicate m its).flatten.toArray:=fun m=>by
   have:=foldl_rep its m []
   rw[VQ]at this
   exact this
  rw[f0]
  cases its with
  |nil=>simp
  |cons a r'=>rw[if_neg (by simp)]
 refine wpAny_binaryOp_repeat_ref (T:="list") (U:="int") (by decide) ⟨_,e,rfl⟩ (fun s'=>typeIs_int s' k t) noFill_list_mul F.fills_int_mul F.slot_int_rmul repeat_list F.slot_int_index.lookup
  (call_meets F.slot_int_rmul (typeIs_int s k t) F.entry_int_rmul (F.args_int_rmul_2 _ _) (int___rmul___int_list k t l its.toArray n)
   ⟨e,rfl,⟨_,e,rfl⟩,call_meets F.slot_list_mul ⟨_,e,rfl⟩ F.entry_list_mul (F.args_list_mul_2 _ _) (AutoListH.list___mul___list_int_3 l its.toArray n k t hfit hcap hlong) ⟨e,?_⟩⟩)
 rw[hnew]
 exact⟨.ref _,_,I.lnew (t':=s.toks) (r.rep k.toNat) (by rw[len_rep,Y0];exact hz),rfl,q _ I.fresh⟩
end
section
variable{prog:Program}{w:World}{A:Around}{E:Value->Shared->Prop}{s:Shared}
set_option maxRecDepth 100000 in
end
section
variable{X:Cx}
end
end L2
namespace L2
open PySem PySem.Spec PyProof.Rows
theorem Vals.ints:∀{ns:List Int}{us:List Value},Vals (ns.map V.int) us->IntsAre us ns
 |[],us,h=>by
  rw[Wz]at h
  cases h
  exact IntsAre.nil
 |n::ns,us,h=>by
  rw[ZB]at h
  cases h with
  |cons r t=>
   obtain⟨k,rfl⟩:=r
   exact IntsAre.cons n k (Vals.ints t)
theorem Vals.bls:∀{bs:List Bool}{us:List Value},Vals (bs.map V.bl) us->us=bs.map Value.bool
 |[],us,h=>by
  rw[Wz]at h
  cases h
  rfl
 |b::bs,us,h=>by
  rw[ZB]at h
  cases h with
  |cons r t=>
   cases r
   rw[Vals.bls t,ZB]
theorem Vals.ref1{a:Addr}{us:List Value}(r:Vals [V.ref a] us):us=[Value.ref a]:=by
 cases r with
 |cons r t=>
  cases t
  cases r
  rfl
section
variable{prog:Program}{w:World}{A:Around}{E:Value->Shared->Prop}{s:Shared}{l:Addr}{its:List Value}{ns:List Int}{Q:Value->Shared->Prop}
theorem sum_raw(hh:A.handled=none)(hl:s.heap.IsList l its.toArray)(hi:IntsAre its ns)
  (h:∀h' tk t',(∀b o,s.heap.get? b=some o->h'.get? b=some o)->Q (.int ns.sum t') {s with heap:=h',toks:=tk}):wpAny (model prog w) A (call (.builtin "sum") [.ref l]) Q E s:=by
 obtain⟨xs,e⟩:=hi.allInts.items
 have hn:numsOf (intItems xs).toList=ns:=by rw[<-e];exact hi.numsOf
 rw[nums_intItems]at hn
 rw[e]at hl
 refine PySem.sum_intListG hh hl fun h' tk t' hk=>?_
 have:=h h' tk t' hk
 rw[preSum_eq,Ya (by simp),hn];exact this
theorem min_raw(hh:A.handled=none)(hl:s.heap.IsList l its.toArray)(hi:IntsAre its ns)(hne:0<ns.length)
  (h:∀h' tk M t',(∀b o,s.heap.get? b=some o->h'.get? b=some o)->M∈ns->(∀a,a∈ns->M<=a)->Q (.int M t') {s with heap:=h',toks:=tk}):wpAny (model prog w) A (call (.builtin "min") [.ref l]) Q E s:=by
 obtain⟨xs,e⟩:=hi.allInts.items
 have hn:numsOf (intItems xs).toList=ns:=by rw[<-e];exact hi.numsOf
 rw[nums_intItems]at hn
 subst hn
 rw[e]at hl
 have hsz:0<xs.size:=by simpa using hne
 refine PySem.min_intList hh hl hsz fun v h' tk hv hk=>?_
 obtain⟨t,rfl⟩:=intItems_at hv
 obtain⟨h1,h2⟩:=argBest_lt (numAt xs) (xs.size-1)
 refine h h' tk _ t hk ?_ fun a ha=>?_
 ·rw[numAt_eq];exact PySem.getD_mem (by rw[Za,ZT];omega)
 ·obtain⟨j,hj,rfl⟩:=mem_getD ha
  rw[Za,ZT]at hj
  rw[<-numAt_eq];exact h2 j (by omega)
end
section
variable{X:Cx}
noncomputable def rSum(K:PySem.W.Frag):List V->Hp->VK->Prop:=fun vs H Q=>∃(a:Addr)(ns:List Int),vs=[V.ref a]/\SqL K H a (ns.map V.int)/\Q (.int ns.sum) H
noncomputable def rMin(K:PySem.W.Frag):List V->Hp->VK->Prop:=fun vs H Q=>∃(a:Addr)(ns:List Int),vs=[V.ref a]/\SqL K H a (ns.map V.int)/\0<ns.length/\∀m,m∈ns->(∀y,y∈ns->m<=y)->Q (.int m) H
theorem Rm(hc:X.calm=true):Us X (.builtin "sum") (rSum X.K):=by
 intro pins s σ H vs us Q I r h
 obtain⟨a,ns,rfl,hs,q⟩:=h
 obtain⟨its,rv,hl,_⟩:=I.list hs
 rw[Vals.ref1 r]
 exact sum_raw (I.ok.hd hc) hl.isList rv.ints fun h' tk t' hk=>⟨.int _,H,I.kept hk,⟨_,rfl⟩,q⟩
theorem Lf(hc:X.calm=true):Us X (.builtin "min") (rMin X.K):=by
 intro pins s σ H vs us Q I r h
 obtain⟨a,ns,rfl,hs,hne,q⟩:=h
 obtain⟨its,rv,hl,_⟩:=I.list hs
 rw[Vals.ref1 r]
 exact min_raw (I.ok.hd hc) hl.isList rv.ints hne fun h' tk m t' hk h1 h2=>⟨.int _,H,I.kept hk,⟨_,rfl⟩,q m h1 h2⟩
end
section
variable{X:Cx}
end
section
variable{X:Cx}
end
theorem N1{prog:Program}{w:World}{A:Around}{E:Value->Shared->Prop}{s:Shared}{l:Addr}{items:Array Value}{Q:Value->Shared->Prop}(hl:s.heap.IsList l items)
  (h:∀s₂:Shared,s₂={s with heap:=s.heap.push {cls:=.type "list_iterator",data:=.fields #[.ref l,.int 0 0]}}->
   (s₂.heap.IsListIter s.heap.objs.size l 0/\s₂.heap.IsList l items)->l≠s.heap.objs.size->Q (.ref s.heap.objs.size) s₂):wpAny (model prog w) A (pyIter (.ref l)) Q E s:=by
 have hlt:l<s.heap.objs.size:=by obtain⟨_,e,_⟩:=hl;exact ZF e
 exact wpAny_pyIter_list hl (h _ rfl ⟨⟨_,ZW _ rfl,rfl,rfl⟩,hl.push _⟩ (Z0 hlt))
theorem Rw{prog:Program}{w:World}{A:Around}{bs:List Bool}{its:List Value}(e:its=bs.map Value.bool):
  TruthOf prog w A (fun i v=>its.toArray[i]?=some v) (fun i=>bs.getD i false):=fun i v s Q E hv hq=>by
 have hv':its[i]?=some v:=by simpa using hv
 rw[e,ZA]at hv'
 obtain⟨b,hb,rfl⟩:=XC.mp hv'
 have hg:bs.getD i false=b:=by rw[Z8,hb]<;>rfl
 have hq':Q (bs.getD i false) s:=hq
 rw[hg]at hq'
 exact YX hq'
theorem any_range:∀bs:List Bool,(List.range bs.length).any (fun i=>bs.getD i false)=bs.any id
 |[]=>rfl
 |b::bs=>by
  rw[Zo,List.range_succ_eq_map,Yt,List.any_map,Yt,<-any_range bs]
  all_goals rfl
theorem all_range:∀bs:List Bool,(List.range bs.length).all (fun i=>bs.getD i false)=bs.all id
 |[]=>rfl
 |b::bs=>by
  rw[Zo,List.range_succ_eq_map,XZ,List.all_map,XZ,<-all_range bs]
  all_goals rfl
section
variable{X:Cx}
noncomputable def rAny(K:PySem.W.Frag):List V->Hp->VK->Prop:=fun vs H Q=>∃(a:Addr)(bs:List Bool),vs=[V.ref a]/\SqL K H a (bs.map V.bl)/\Q (.bl (bs.any id)) H
noncomputable def rAll(K:PySem.W.Frag):List V->Hp->VK->Prop:=fun vs H Q=>∃(a:Addr)(bs:List Bool),vs=[V.ref a]/\SqL K H a (bs.map V.bl)/\Q (.bl (bs.all id)) H
theorem cr_any(hc:X.calm=true):Us X (.builtin "any") (rAny X.K):=by
 intro pins s σ H vs us Q I r h
 obtain⟨a,bs,rfl,hs,q⟩:=h
 obtain⟨its,rv,hl,_⟩:=I.list hs
 rw[Vals.ref1 r]
 have hb:=rv.bls
 refine call_any_walk (N1 hl.isList fun s₂ e2 st hne=>?_)
 subst e2
 refine⟨_,_,_,_,_,_,_,rfl,Walks.list (A:=X.A.in1) (I.ok.hd hc) _ a hne its.toArray,st,Rw hb,fun h' tk hk=>?_⟩
 refine⟨.bl _,H,I.kept fun b o eo=>hk b o (fun hmem=>?_) (Zz _ eo),?_,q⟩
 ·rcases Zw.mp hmem with e1|hmem
  ·exact absurd (e1▸ZF eo) (YZ _)
  ·cases hmem
 ·show Value.bool _=Value.bool _
  rw[<-any_range,hb,ZH,Za]
theorem Lg(hc:X.calm=true):Us X (.builtin "all") (rAll X.K):=by
 intro pins s σ H vs us Q I r h
 obtain⟨a,bs,rfl,hs,q⟩:=h
 obtain⟨its,rv,hl,_⟩:=I.list hs
 rw[Vals.ref1 r]
 have hb:=rv.bls
 refine call_all_walk (N1 hl.isList fun s₂ e2 st hne=>?_)
 subst e2
 refine⟨_,_,_,_,_,_,_,rfl,Walks.list (A:=X.A.in1) (I.ok.hd hc) _ a hne its.toArray,st,Rw hb,fun h' tk hk=>?_⟩
 refine⟨.bl _,H,I.kept fun b o eo=>hk b o (fun hmem=>?_) (Zz _ eo),?_,q⟩
 ·rcases Zw.mp hmem with e1|hmem
  ·exact absurd (e1▸ZF eo) (YZ _)
  ·cases hmem
 ·show Value.bool _=Value.bool _
  rw[<-all_range,hb,ZH,Za]
end
mutual
inductive Dp(K:PySem.W.Frag)(H:Hp):V->PyData->Prop
 |non:Dp K H .non .none
 |bl (b:Bool):Dp K H (.bl b) (.bool b)
 |int (i:Int):Dp K H (.int i) (.int i)
 |str (x:Str):Dp K H (.str x) (.str x)
 |lst {a:Addr} {xs:List V} {ds:List PyData}:SqL K H a xs->Pb K H xs ds->Dp K H (.ref a) (.list ds)
 |tup {a:Addr} {xs:List V} {ds:List PyData}:SqT K H a xs->Pb K H xs ds->Dp K H (.ref a) (.tuple ds)
inductive Pb(K:PySem.W.Frag)(H:Hp):List V->List PyData->Prop
 |nil:Pb K H [] []
 |cons {v:V} {vs:List V} {d:PyData} {ds:List PyData}:Dp K H v d->Pb K H vs ds->Pb K H (v::vs) (d::ds)
end
section
variable{X:Cx}{pins:List (Addr×Obj)}{σ:St}{H:Hp}{s:Shared}
mutual
theorem Dp.reads(I:Inv X pins σ H s):∀(d:PyData)(v:V)(u:Value),Dp X.K H v d->RelV v u->∃as,Reads s.heap u d as
 | .none,_,_,h,r=>by
  cases h
  cases r
  exact⟨_,Reads.none⟩
 | .bool b,_,_,h,r=>by
  cases h
  cases r
  exact⟨_,Reads.bool b⟩
 | .int i,_,_,h,r=>by
  cases h
  obtain⟨t,rfl⟩:=r
  exact⟨_,Reads.int i t⟩
 | .str x,_,_,h,r=>by
  cases h
  obtain⟨t,rfl⟩:=r
  exact⟨_,Reads.str x t⟩
 | .list ds,_,_,h,r=>by
  cases h with
  |lst hs ha=>
   cases r
   obtain⟨its,rv,⟨o,n,ho,hc,_,hd⟩,_⟩:=I.list hs
   obtain⟨as,hr⟩:=Dp.readsAll I ds _ its ha rv
   exact⟨_,Reads.list ho hc hd hr⟩
 | .tuple ds,_,_,h,r=>by
  cases h with
  |tup hs ha=>
   cases r
   obtain⟨its,rv,⟨o,ho,hc,n,hd⟩,_⟩:=I.tuple hs
   obtain⟨as,hr⟩:=Dp.readsAll I ds _ its ha rv
   exact⟨_,Reads.tuple ho hc hd hr⟩
 | .dict _,_,_,h,_=>by cases h
theorem Dp.readsAll(I:Inv X pins σ H s):∀(ds:List PyData)(vs:List V)(us:List Value),Pb X.K H vs ds->Vals vs us->∃as,ReadsAll s.heap us ds as
 |[],_,_,h,r=>by
  cases h
  cases r
  exact⟨_,ReadsAll.nil⟩
 |d::ds,_,_,h,r=>by
  cases h with
  |cons h1 h2=>
   cases r with
   |cons r1 r2=>
    obtain⟨as,q1⟩:=Dp.reads I d _ _ h1 r1
    obtain⟨bs,q2⟩:=Dp.readsAll I ds _ _ h2 r2
    exact⟨_,ReadsAll.cons q1 q2⟩
end
end
section
variable{X:Cx}
noncomputable def rEqD(K:PySem.W.Frag):R2:=fun x y H Q=>∃d e,Dp K H x d/\Dp K H y e/\SeqAt.shaped d=true/\SeqAt.shaped e=true/\Q (.bl (PyData.eqv d e)) H
theorem op_eqD(hu:X.A.units+64<cLine):OpR X (compareOp .Eq) (rEqD X.K):=by
 intro pins s σ H x y v u Q I rx ry h
 obtain⟨d,e,hd,he,sd,se,q⟩:=h
 obtain⟨as,r1⟩:=Dp.reads I d x v hd rx
 obtain⟨bs,r2⟩:=Dp.reads I e y u he ry
 exact SeqAt.compareEq_shaped r1 r2 sd se hu ⟨.bl _,H,I,rfl,q⟩
end
end L2
namespace L2
open PySem PySem.Spec PyProof.Rows
noncomputable abbrev CellAt(h:Heap)(c:Addr)(v:Option Value):Prop:=h.IsCell c v
noncomputable def relS(scope sc:Scope):Scope:=
 {scope with names:=scope.names.map fun(n,k)=>if(k== .free&&sc.kind== .function&&sc.names.lookup n==some .cell)then(n,.cell)else(n,k)}
noncomputable def Xn(cells:List (Str×Addr)):List (Str×NameKind)->List (Str×Addr)->List (Str×Addr)
 |[],acc=>acc
 |(n,k)::r,acc=>if k== .free then Xn cells r ((n,(cells.lookup n).getD 0)::acc)else Xn cells r acc
theorem SB(env:Env)(f:Str×NameKind->List (Str×Addr)->Sem (ForInStep (List (Str×Addr))))
  (hf:∀n k c,f (n,k) c=if k== .free then(do let a<-cellOf env n;pure (.yield ((n,a)::c)))else pure (.yield c)):
  ∀(names:List (Str×NameKind))(acc:List (Str×Addr)),(∀y∈names,y.2=.free->∃c,env.cells.lookup y.1=some c)->forIn names acc f=pure (Xn env.cells names acc)
 |[],acc,_=>by rw[List.forIn_nil];rfl
 |(n,k)::r,acc,h=>by
  rw[List.forIn_cons,hf]
  have ih:=fun acc=>SB env f hf r acc fun y hy=>h y (Ze _ hy)
  unfold Xn
  by_cases hk:(k==NameKind.free)=true
  ·rw[if_pos hk,if_pos hk]
   obtain⟨c,hc⟩:=h (n,k) Zm (by simpa using hk)
   have e:cellOf env n=pure c:=by unfold cellOf;rw[hc]
   rw[e]
   have e2:(env.cells.lookup n).getD 0=c:=by rw[hc];rfl
   rw[e2]
   exact ih _
  ·rw[if_neg hk,if_neg hk]
   exact ih _
theorem Lh{scope:Scope}{env:Env}(h:∀y∈scope.names,y.2=.free->∃c,env.cells.lookup y.1=some c):closureFor scope env=pure (Xn env.cells scope.names []):=by
 simp only[closureFor]
 rw[SB env _ (fun n k c=>rfl) scope.names [] h]
 rfl
theorem mem_lookup{α:Type}:∀{l:List (Str×α)}{n:Str}{c:α},(n,c)∈l->∃c',l.lookup n=some c'
 |(k,v)::r,n,c,h=>by
  rw[Xc]
  cases hb:n==k with
  |true=>exact⟨_,rfl⟩
  |false=>
   rcases Zw.mp h with e|h
   ·cases e;simp at hb
   ·exact mem_lookup h
theorem Ub{cells:List (Str×Addr)}:∀{names:List (Str×NameKind)}{acc:List (Str×Addr)}{n:Str}{c:Addr},(n,c)∈Xn cells names acc->(n,c)∈acc\/((n,.free)∈names/\c=(cells.lookup n).getD 0)
 |[],_,_,_,h=>.inl h
 |(m,k)::r,acc,n,c,h=>by
  unfold Xn at h
  split at h
  ·rename_i hk
   have hk:k=.free:=by simpa using hk
   rcases Ub h with h|⟨h1,h2⟩
   ·rcases Zw.mp h with e|h
    ·cases e;exact .inr ⟨hk▸Zm,rfl⟩
    ·exact .inl h
   ·exact .inr ⟨Ze _ h1,h2⟩
  ·rcases Ub h with h|⟨h1,h2⟩
   ·exact .inl h
   ·exact .inr ⟨Ze _ h1,h2⟩
theorem U6{cells:List (Str×Addr)}:∀{names:List (Str×NameKind)}{acc:List (Str×Addr)}{p:Str×Addr},p∈acc->p∈Xn cells names acc
 |[],_,_,h=>h
 |(m,k)::r,acc,p,h=>by
  unfold Xn
  split
  ·exact U6 (Ze _ h)
  ·exact U6 h
theorem U5{cells:List (Str×Addr)}:∀{names:List (Str×NameKind)}{acc:List (Str×Addr)}{n:Str},(n,.free)∈names->(n,(cells.lookup n).getD 0)∈Xn cells names acc
 |(m,k)::r,acc,n,h=>by
  unfold Xn
  rcases Zw.mp h with e|h
  ·cases e
   exact U6 Zm
  ·split
   ·exact U5 h
   ·exact U5 h
theorem Ur:∀{names:List (Str×NameKind)}{h:Heap}{acc:List (Str×Addr)}{x:Str}{c:Addr},(x,c)∈cellsFrom h.objs.size names acc->
  (x,c)∈acc\/((x,.cell)∈names/\h.objs.size<=c/\CellAt (pushCells h names) c none)
 |[],_,_,_,_,h=>.inl h
 |(n,k)::r,h,acc,x,c,hm=>by
  unfold cellsFrom at hm
  unfold pushCells
  split at hm
  ·rename_i hk
   rw[if_pos hk]
   have hk:k=.cell:=by simpa using hk
   rw[<-YD h {cls:=.type "cell",data:=.cell none}]at hm
   rcases Ur hm with hm|⟨h1,h2,h3⟩
   ·rcases Zw.mp hm with e|hm
    ·cases e
     exact .inr ⟨hk▸Zm,Zl _,_,pushCells_keeps r _ _ _ (ZW _ rfl),rfl⟩
    ·exact .inl hm
   ·rw[YD]at h2
    exact .inr ⟨Ze _ h1,Nat.le_of_succ_le h2,h3⟩
  ·rename_i hk
   rw[if_neg hk]
   rcases Ur hm with hm|⟨h1,h2,h3⟩
   ·exact .inl hm
   ·exact .inr ⟨Ze _ h1,h2,h3⟩
theorem Tw:∀{names:List (Str×NameKind)}{n:Nat}{acc:List (Str×Addr)}{p:Str×Addr},p∈acc->p∈cellsFrom n names acc
 |[],_,_,_,h=>h
 |(m,k)::r,n,acc,p,h=>by
  unfold cellsFrom
  split
  ·exact Tw (Ze _ h)
  ·exact Tw h
theorem Ro:∀{names:List (Str×NameKind)}{n:Nat}{acc:List (Str×Addr)}{x:Str},(x,.cell)∈names->∃c,(x,c)∈cellsFrom n names acc
 |(m,k)::r,n,acc,x,h=>by
  unfold cellsFrom
  rcases Zw.mp h with e|h
  ·cases e
   exact⟨n,Tw Zm⟩
  ·split
   ·exact Ro h
   ·exact Ro h
theorem Rn:∀{names:List (Str×NameKind)}{h:Heap}{acc:List (Str×Addr)}{x y:Str}{c:Addr},(∀p∈acc,p.2<h.objs.size)->(∀x y c,(x,c)∈acc->(y,c)∈acc->x=y)->
  (x,c)∈cellsFrom h.objs.size names acc->(y,c)∈cellsFrom h.objs.size names acc->x=y
 |[],_,_,_,_,_,_,hi,h1,h2=>hi _ _ _ h1 h2
 |(n,k)::r,h,acc,x,y,c,hl,hi,h1,h2=>by
  unfold cellsFrom at h1 h2
  split at h1
  ·rename_i hk
   rw[if_pos hk]at h2
   rw[<-YD h {cls:=.type "cell",data:=.cell none}]at h1 h2
   refine Rn (h:=h.push _) (fun p hp=>?_) (fun x y c a b=>?_) h1 h2
   ·rw[YD]
    rcases Zw.mp hp with rfl|hp
    ·exact Nat.lt_succ_self _
    ·exact Vm (hl p hp)
   ·rcases Zw.mp a with e|a<;>rcases Zw.mp b with e'|b
    ·cases e;cases e';rfl
    ·cases e;exact absurd (hl _ b) (YZ _)
    ·cases e';exact absurd (hl _ a) (YZ _)
    ·exact hi _ _ _ a b
  ·rename_i hk
   rw[if_neg hk]at h2
   exact Rn hl hi h1 h2
theorem NY{M:Model}{A:Around}{E:Value->Shared->Prop}{s:Shared}{scope:Scope}{globals:Addr}{closure:List (Str×Addr)}{qual:Str}{func:Option Addr}{code:Value}{around:Env}{builtins:Addr}{Q:Env->Shared->Prop}
  (h:Q (newEnv scope s.heap.objs.size globals (cellsFrom (s.heap.objs.size+1) scope.names closure) qual func code (some around) builtins)
   {s with heap:=pushCells (s.heap.push {cls:=.type "dict",data:=.dict #[]}) scope.names}):
  wpAny M A (newFunctionEnv scope globals closure [] qual func code (some around) builtins) Q E s:=by
 simp only[newFunctionEnv,Option.isSome_some,if_true]
 refine Zc (wpAny_alloc ?_)
 refine Zc (wpAny_layCells _ (fun n k c=>rfl) scope.names closure _ _ ?_)
 rw[show({s with heap:=s.heap.push {cls:=.type "dict",data:=.dict #[]}}:Shared).heap.objs.size=s.heap.objs.size+1 from YD ..]
 rw[List.forIn_nil]
 exact Zc (Zq (Zq h))
theorem UY{sc:Scope}:∀{names:List (Str×NameKind)}{x:Str}{k:NameKind},
  (names.map fun(n,k)=>if(k==NameKind.free&&sc.kind== .function&&sc.names.lookup n==some .cell)then(n,NameKind.cell)else(n,k)).lookup x=some k->
  ∃k',names.lookup x=some k'/\(k=k'\/(k'=.free/\k=.cell))
 |[],_,_,h=>by simp at h
 |(n,k₀)::r,x,k,h=>by
  have ih:=@UY sc r x k
  have h':List.lookup x ((if(k₀==NameKind.free&&sc.kind== .function&&sc.names.lookup n==some .cell)=true then(n,NameKind.cell)else(n,k₀))::(r.map _))=some k:=h
  cases hx:x==n with
  |true=>
   simp only[Xc,hx]
   by_cases hc:(k₀==NameKind.free&&sc.kind== .function&&sc.names.lookup n==some .cell)=true
   ·rw[if_pos hc]at h'
    simp only[Xc,hx]at h'
    cases h'
    simp only[Zv,beq_iff_eq]at hc
    exact⟨k₀,rfl,.inr ⟨hc.1.1,rfl⟩⟩
   ·rw[if_neg hc]at h'
    simp only[Xc,hx]at h'
    cases h'
    exact⟨_,rfl,.inl rfl⟩
  |false=>
   simp only[Xc,hx]
   by_cases hc:(k₀==NameKind.free&&sc.kind== .function&&sc.names.lookup n==some .cell)=true
   ·rw[if_pos hc]at h'
    simp only[Xc,hx]at h'
    exact ih h'
   ·rw[if_neg hc]at h'
    simp only[Xc,hx]at h'
    exact ih h'
structure Mu(N:List Str)(sc scope:Scope)(own:List (Str×Nat)):Prop where
 kind:scope.kind=.function
 uniq:∀y∈scope.names,scope.names.lookup y.1=some y.2
 ix:∀p∈own,N[p.2]?=some p.1
 free:∀y∈scope.names,y.2=.free->sc.names.lookup y.1=some .cell\/sc.names.lookup y.1=some .free
 own:∀y∈scope.names,y.2=.local\/y.2=.cell->y.1∈own.map (·.1)\/y.1∉N
noncomputable def wipe(σ:St):List Nat->St
 |[]=>σ
 |v::vs=>(wipe σ vs).set v none
theorem UL(σ:St):∀vs:List Nat,(wipe σ vs).length=σ.length
 |[]=>rfl
 |v::vs=>by unfold wipe;rw[List.length_set,UL σ vs]
theorem SF{σ:St}{i:Nat}{x:V}:∀{vs:List Nat},(wipe σ vs)[i]?=some (some x)->σ[i]?=some (some x)/\i∉vs
 |[],h=>⟨h,by simp⟩
 |v::vs,h=>by
  unfold wipe at h
  by_cases hi:v=i
  ·subst hi
   by_cases hv:v<(wipe σ vs).length
   ·rw[W8 hv]at h;cases h
   ·rw[Z7 (by simpa using hv)]at h;cases h
  ·rw[VE hi]at h
   obtain⟨h1,h2⟩:=SF h
   exact⟨h1,by simp only[Zw,not_or];exact⟨fun e=>hi e.symm,h2⟩⟩
noncomputable abbrev Cx.blk(X:Cx)(s:Shared)(H:Hp)(scope:Scope)(cenv:Env)(fp:List Addr):Cx:={X with s_0:=s,H_0:=H,env:=cenv,outer:=X.stack,ex:=fp,fn:=fun x=>scope.names.lookup x==some .cell,pn:=[],xe:=fun _ _=>False}
section
variable{X:Cx}{pins:List (Addr×Obj)}{σ:St}{H:Hp}{s:Shared}
theorem Mn{scope:Scope}{own:List (Str×Nat)}{fp:List Addr}(I:Inv X pins σ H s)(ok:Mu X.N X.env.scope scope own)(hN:X.N.Nodup)(hfp:∀b∈fp,FpOk X pins H b/\b<s.heap.objs.size):
  Inv (X.blk s H scope (compEnvC scope (cellsFrom (s.heap.objs.size+1) scope.names (Xn X.env.cells scope.names [])) s.heap.objs.size X.env) fp) [] (wipe σ (own.map (·.2))) H {s with heap:=pushCells (s.heap.push {cls:=.type "dict",data:=.dict #[]}) scope.names}:=by
 have hfree:∀y∈scope.names,y.2=.free->∃c,X.env.cells.lookup y.1=some c:=fun y hy e=>by
  rcases ok.free y hy e with k|k
  ·exact I.ok.has _ (.inl k)
  ·exact I.ok.has _ (.inr k)
 generalize hcenv:compEnvC scope (cellsFrom (s.heap.objs.size+1) scope.names (Xn X.env.cells scope.names [])) s.heap.objs.size X.env=cenv
 have kp:∀b o,s.heap.get? b=some o->(pushCells (s.heap.push {cls:=.type "dict",data:=.dict #[]}) scope.names).get? b=some o:=fun b o e=>pushCells_keeps _ _ _ _ (Zz _ e)
 have hL:cenv.locals=s.heap.objs.size:=by rw[<-hcenv];rfl
 have hcl:cenv.cells=cellsFrom (s.heap.objs.size+1) scope.names (Xn X.env.cells scope.names []):=by rw[<-hcenv];rfl
 have hsc:cenv.scope=relS scope X.env.scope:=by rw[<-hcenv];rfl
 rw[<-YD s.heap {cls:=.type "dict",data:=.dict #[]}]at hcl
 have cm:∀{y c},(y,c)∈Xn X.env.cells scope.names []->X.env.cells.lookup y=some c/\c<s.heap.objs.size:=fun{y c} hm=>by
  rcases Ub hm with hm|⟨h1,rfl⟩
  ·cases hm
  ·obtain⟨c,hc⟩:=hfree _ h1 rfl
   rw[hc]
   obtain⟨w,z⟩:=I.cell _ _ hc
   exact⟨rfl,z.lt⟩
 have mem:∀{y c},cenv.cells.lookup y=some c->(X.env.cells.lookup y=some c/\c<s.heap.objs.size)\/(s.heap.objs.size+1<=c/\CellAt (pushCells (s.heap.push {cls:=.type "dict",data:=.dict #[]}) scope.names) c none):=fun{y c} e=>by
  rw[hcl]at e
  rcases Ur (Yb e)with hm|⟨_,h2,h3⟩
  ·exact .inl (cm hm)
  ·rw[YD]at h2;exact .inr ⟨h2,h3⟩
 have look:∀{y},scope.names.lookup y=some .free->∃c,cenv.cells.lookup y=some c/\X.env.cells.lookup y=some c:=fun{y} hl=>by
  have hy:(y,NameKind.free)∈scope.names:=Yb hl
  obtain⟨c',e'⟩:=mem_lookup (Tw (names:=scope.names) (n:=(s.heap.push {cls:=.type "dict",data:=.dict #[]}).objs.size) (U5 (cells:=X.env.cells) (acc:=[]) hy))
  rw[<-hcl]at e'
  refine⟨c',e',?_⟩
  rw[hcl]at e'
  rcases Ur (Yb e')with hm|⟨h1,_,_⟩
  ·exact(cm hm).1
  ·have:=ok.uniq _ h1
   rw[hl]at this;cases this
 have okB:(X.blk s H scope cenv fp).Ok:=by
  refine⟨I.ok.mod,by show cenv.scope.kind=_;rw[hsc];exact ok.kind,by show cenv.globals=_;rw[<-hcenv];exact I.ok.glob,by show cenv.builtins=_;rw[<-hcenv];exact I.ok.blt,by show s.heap.objs.size<=cenv.locals;rw[hL];exact Zl _,
   fun y z c e1 e2=>?_,fun y hy=>?_,fun y c z e=>?_,I.ok.hd,I.ok.frames,.inl rfl,fun b hb=>⟨?_,fun y c e z=>?_⟩,I.bs,Zi I.ok.bsz I.sz,fun b o e hb=>?_,fun b hb z=>?_,I.stack,I.stkFree⟩
  ·have e1:cenv.cells.lookup y=some c:=e1
   have e2:cenv.cells.lookup z=some c:=e2
   rw[hcl]at e1 e2
   refine Rn (fun p hp=>?_) (fun y z c a b=>I.ok.inj y z c (cm a).1 (cm b).1) (Yb e1) (Yb e2)
   rw[YD]
   exact Vm (cm (y:=p.1) (c:=p.2) hp).2
  ·show∃c,cenv.cells.lookup y=some c
   have key:∀k,cenv.kindOf y=some k->(k=.cell\/k=.free)->∃c,cenv.cells.lookup y=some c:=fun k hk hk'=>by
    unfold Env.kindOf at hk
    rw[hsc]at hk
    obtain⟨k',e,r⟩:=UY hk
    have:k'=.cell\/k'=.free:=by
     rcases r with rfl|⟨rfl,_⟩
     ·exact hk'
     ·exact .inr rfl
    rcases this with rfl|rfl
    ·obtain⟨c,hm⟩:=Ro (n:=(s.heap.push {cls:=.type "dict",data:=.dict #[]}).objs.size) (acc:=Xn X.env.cells scope.names []) (Yb e)
     obtain⟨c',e'⟩:=mem_lookup hm
     exact⟨c',by rw[hcl];exact e'⟩
    ·obtain⟨c,h1,_⟩:=look e
     exact⟨c,h1⟩
   rcases hy with hy|hy
   ·exact key _ hy (.inl rfl)
   ·exact key _ hy (.inr rfl)
  ·have z:(scope.names.lookup y==some NameKind.cell)=true:=z
   have z:scope.names.lookup y=some .cell:=by simpa using z
   have e:cenv.cells.lookup y=some c:=e
   rw[hcl]at e
   rcases Ur (Yb e)with hm|⟨_,h2,_⟩
   ·rcases Ub hm with hm|⟨h1,_⟩
    ·cases hm
    ·have q:=ok.uniq _ h1
     rw[z]at q;cases q
   ·rw[YD]at h2
    exact Nat.le_of_succ_le h2
  ·show b≠cenv.locals
   rw[hL];exact Z0 (hfp b hb).2
  ·have e:cenv.cells.lookup y=some c:=e
   rcases mem e with⟨h1,_⟩|⟨h1,_⟩
   ·exact(hfp b hb).1.2.2.2.2.1 y c h1 z
   ·have h2:s.heap.objs.size+1<=b:=by rw[<-z];exact h1
    exact absurd (ZX (hfp b hb).2 (Nat.le_of_succ_le h2)) (YZ _)
  ·rcases(hfp b hb).1.2.2.2.1 with z|z
   ·exact I.ok.noex b o e z
   ·exact absurd (ZX (ZF e) (Zi I.ok.bsz z)) (YZ _)
  ·rcases Zw.mp (I.stkSub b z)with z|z
   ·exact(hfp b hb).1.2.1 z
   ·exact(hfp b hb).1.2.2.1 z
 refine⟨okB,rfl,I.bare,Un.kept kp,⟨fun _=>none,?_,fun i y av e1 e2 e3=>?_⟩,fun y c e=>?_,?_,fun y c e=>?_,fun p hp=>?_,I.hok.kept kp,by rw[UL];exact I.len⟩
 ·show Heap.Ns _ cenv.locals _
  rw[hL]
  exact Heap.Ns.keeps (Heap.Ns.new ..) fun b o e=>pushCells_keeps _ _ _ _ e
 ·obtain⟨e2,hne⟩:=SF e2
  have hfr:scope.names.lookup y=some .free/\(cenv.kindOf y=some .cell\/cenv.kindOf y=some .free):=by
   have key:∀k,cenv.scope.names.lookup y=some k->k=.local\/k=.cell\/k=.free->scope.names.lookup y=some .free/\(cenv.kindOf y=some .cell\/cenv.kindOf y=some .free):=fun k hk hk'=>by
    have hk0:=hk
    rw[hsc]at hk
    obtain⟨k',e,r⟩:=UY hk
    have no:¬(k'=.local\/k'=.cell):=fun hh=>by
     rcases ok.own _ (Yb e) hh with e'|e'
     ·obtain⟨p,hp,hpy⟩:=ZS.mp e'
      have e3:=ok.ix p hp
      have:p.1=y:=hpy
      rw[this]at e3
      exact hne (ZS.mpr ⟨p,hp,QB hN e3 e1⟩)
     ·exact e' (Zp e1)
    rcases r with rfl|⟨rfl,rfl⟩
    ·rcases hk' with rfl|rfl|rfl
     ·exact absurd (.inl rfl) no
     ·exact absurd (.inr rfl) no
     ·exact⟨e,.inr hk0⟩
    ·exact⟨e,.inl hk0⟩
   have e3:Vis cenv.scope y:=e3
   rcases e3 with e3|e3|e3
   ·exact key _ e3 (.inl rfl)
   ·exact key _ e3 (.inr (.inl rfl))
   ·exact key _ e3 (.inr (.inr rfl))
  obtain⟨m,hn,hl⟩:=I.loc
  have hvis:Vis X.env.scope y:=(ok.free _ (Yb hfr.1) rfl).elim (fun k=>.inr (.inl k)) (fun k=>.inr (.inr k))
  obtain⟨w,r,q⟩:=hl i y av e1 e2 hvis
  refine⟨w,r,.inr ⟨hfr.2,?_⟩⟩
  obtain⟨c,h1,h2⟩:=look hfr.1
  rcases q with⟨k,_⟩|⟨_,c',e',z⟩
  ·have k:X.env.scope.names.lookup y=some .local:=k
   rcases ok.free _ (Yb hfr.1) rfl with k'|k'<;>rw[show X.env.scope.names.lookup y=_ from k']at k<;>cases k
  ·rw[h2]at e';cases e'
   exact⟨c,h1,z.keeps kp⟩
 ·have e:cenv.cells.lookup y=some c:=e
  rcases mem e with⟨h1,_⟩|⟨_,z⟩
  ·obtain⟨w,z⟩:=I.cell y c h1
   exact⟨w,z.keeps kp⟩
  ·exact⟨_,z⟩
 ·show H cenv.locals=none
  rw[hL];exact I.hok.fresh (Zl _)
 ·have e:cenv.cells.lookup y=some c:=e
  rcases mem e with⟨h1,_⟩|⟨h1,_⟩
  ·exact I.freeC y c h1
  ·exact I.hok.fresh (Nat.le_of_succ_le h1)
 ·exact absurd (show p∈([]:List (Addr×Obj))++[]from hp) (by simp)
theorem app_ok{E:Value->Shared->Prop}{D:Addr}{xs:List V}{y:V}{v:Value}{Q:Value->Shared->Prop}(I:Inv X pins σ H s)(hD:H D=some (.lst xs))(hz:xs.length<sizeLine)(r:RelV y v)
  (h:∀s',Inv X pins σ (upd H D (.lst (xs++[y]))) s'->Q .none s'):wpAny (model X.prog X.w) X.A (call (.builtin "list.append") [.ref D,v]) Q E s:=by
 obtain⟨hz',its,n,ri,e⟩:=I.hok D _ hD
 have hl:=ri.length
 refine append_at (hsz:=by rw[ZH];omega) e fun h' sb ho'=>?_
 refine h {s with heap:=h'} (I.write (t':=s.toks) (by rw[hD];trivial) (.inl rfl) (fun b u hb q=>(sb.2 b hb).trans q) ⟨_,ho'⟩ ⟨by rw[Zj];exact hz,its++[v],n+1,ri.append (.cons r .nil),?_⟩)
 rw[ho']
 simp
noncomputable def PTs(X:Cx)(ifs:List Expr)(t:TT):Prop:=
 ∀(pins:List (Addr×Obj))(s:Shared)(σ:St)(H:Hp)(Q:Bool->Hp->Prop),Inv X pins σ H s->t σ H Q->
  wpAny (model X.prog X.w) X.A (forIn ifs true fun c r=>if r=true then do let ok<-isTrue c X.env (eval c X.env);pure (ForInStep.yield ok)else pure (ForInStep.yield r)) (TP X pins σ Q) X.xe s
noncomputable def tYes:TT:=fun _ H Q=>Q true H
theorem Y4:PTs X [] tYes:=fun _ _ _ H _ I h=>wpAny_tests_nil ⟨H,I,h⟩
theorem Sj{c:Expr}{t:TT}(h:PT X c t):PTs X [c] t:=fun pins s σ H Q I hw=>wpAny_tests_one (h pins s σ H Q I hw)
end
theorem thnF{α:Type}{t:Sem α}{Q Q':α->Shared->Prop}{M:Model}{A:Around}{E:Value->Shared->Prop}{s:Shared}(h:wpAny M A t Q (fun _ _=>False) s)(hQ:∀a s,Q a s->Q' a s):wpAny M A t Q' E s:=XF h hQ fun _ _ z=>False.elim z
theorem Nm{prog:Program}{w:World}{A:Around}{R:Result->Shared->Prop}{s:Shared}{elt target iter:Expr}{ifs:List Expr}{scope:Scope}{pos:Pos}{it acc:Value}{env:Env}(I:Nat->Shared->Prop)
  (turn:∀n s,I n s->wpAny (model prog w) A (pyNext it) (fun r s₁=>match r with
   |none=>R (.ok .next) s₁
   |some v=>wpAny (model prog w) A (letOwnedTupleGo target it v) (fun _ s₁'=>wpAny (model prog w) A (assign target env v) (fun _ s₂=>
     wpAny (model prog w) A (forIn ifs true fun c r=>if r=true then do let ok<-isTrue c env (eval c env);pure (ForInStep.yield ok)else pure (ForInStep.yield r)) (fun ok s₃=>
      if ok=true then wpAny (model prog w) A (eval elt env) (fun x s₄=>
       wpAny (model prog w) A (call (.builtin "list.append") [acc,x]) (fun _ s₅=>∃m,m<n/\I m s₅) (notedBy (model prog w) A env fun e s'=>R (.error e) s') s₄) (notedBy (model prog w) A env fun e s'=>R (.error e) s') s₃
      else∃m,m<n/\I m s₃) (notedBy (model prog w) A env fun e s'=>R (.error e) s') s₂) (notedBy (model prog w) A env fun e s'=>R (.error e) s') s₁') (notedBy (model prog w) A env fun e s'=>R (.error e) s') s₁) (notedBy (model prog w) A env fun e s'=>R (.error e) s') s)
  (n:Nat) (h:I n s):
  codeAny (model prog w) A (.compLoop (.ListComp elt [⟨target,iter,ifs,0⟩] scope pos) 0 it acc env) R s:=by
 refine codeAny_loop rfl I (fun n s hI=>?_) n h
 show wpAny _ A ((compTurn (.ListComp elt [⟨target,iter,ifs,0⟩] scope pos) 0 it acc env).onRaise (fun x=>do noteFrame x env;theTreesLotGoes x)) _ _ s
 refine wpAny_noted ?_
 rw[compTurn_list]
 refine Zc (wpAny_standAt (Zc (XF (turn n s hI) (fun r s₁ h₁=>?_) fun _ _ h'=>h')))
 cases r with
 |none=>exact Zq h₁
 |some v=>
  refine Zc (XF h₁ (fun _ s₁' h₁'=>?_) fun _ _ h'=>h')
  refine Zc (XF h₁' (fun _ s₂ h₂=>Zc (XF h₂ (fun ok s₃ h₃=>?_) fun _ _ h'=>h')) fun _ _ h'=>h')
  cases ok with
  |false=>exact Zq ⟨rfl,h₃⟩
  |true=>
   exact Zc (Zc (XF h₃ (fun x s₄ h₄=>Zc (XF h₄ (fun _ s₅ h₅=>Zq (Zq ⟨rfl,h₅⟩)) fun _ _ h'=>h')) fun _ _ h'=>h'))
section
variable{X:Cx}
noncomputable def tLc(wi:TI)(g:TG)(tt:TT)(te:TE)(vs:List Nat):TE:=fun σ H Q=>wi σ H fun J H1=>∀D,H1 D=none->∃W:Nat->Nat->Hp->Prop,(∃m,W 0 m (upd H1 D (.lst [])))/\∀i m H,W i m H->
 (J.stop i H/\Q (.ref D) H)\/(J.go i H/\∃Nx:Hp->Prop,(∀H',Nx H'->∃m',m'<m/\W (i+1) m' H')/\∀x H',J.yld i H x H'->g x (wipe σ vs) H' fun σ2 H2=>wipe σ2 vs=wipe σ vs/\tt σ2 H2 fun b H3=>
  if b=true then te σ2 H3 fun y H4=>∃acc,H4 D=some (.lst acc)/\acc.length<sizeLine/\Nx (upd H4 D (.lst (acc++[y])))else Nx H3)
theorem LN{pins:List (Addr×Obj)}{s:Shared}{σ:St}{H:Hp}{Q:VK}{elt tg iter:Expr}{ifs:List Expr}{scope:Scope}{own:List (Str×Nat)}{pos pos':Pos}{wi:TI}{g:TG}{tt:TT}{te:TE}{use:Option (Value->Sem Unit)}{Qf:Value->Shared->Prop}
  (hc:X.calm=true) (hN:X.N.Nodup) (I:Inv X pins σ H s) (hi:PI X tg iter wi) (ok:Mu X.N X.env.scope scope own)
  (hg:∀(s:Shared)(H:Hp)(C:Addr)(cl:List (Str×Addr))(fp:List Addr),PG (X.blk s H scope (compEnvC scope cl C X.env) fp) tg g) (ht:∀(s:Shared)(H:Hp)(C:Addr)(cl:List (Str×Addr))(fp:List Addr),PTs (X.blk s H scope (compEnvC scope cl C X.env) fp) ifs tt)
  (he:∀(s:Shared)(H:Hp)(C:Addr)(cl:List (Str×Addr))(fp:List Addr),PE (X.blk s H scope (compEnvC scope cl C X.env) fp) elt te) (hs:∀x,foldedSetIterable iter X.env x=pure x)
  (h:tLc wi g tt te (own.map (·.2)) σ H Q)
  (hRR:∀D C s' m H',Inv X pins σ H' s'->Q (.ref D) H'->s'.heap.Ns C m->FpOk X pins H' C->compPost (model X.prog X.w) X.A X.xe use Qf (.ref D) C (.ok .next) s'):
  wpAny (model X.prog X.w) X.A (comprehension (.ListComp elt [⟨tg,iter,ifs,0⟩] scope pos) scope X.env pos' (newList []) false (eval iter X.env) use) Qf X.xe s:=by
 have hfree:∀y∈scope.names,y.2=.free->∃c,X.env.cells.lookup y.1=some c:=fun y hy e=>by
  rcases ok.free y hy e with k|k
  ·exact I.ok.has _ (.inl k)
  ·exact I.ok.has _ (.inr k)
 refine wpAny_comprehension_free (use:=use) rfl hs (Lh hfree) ok.kind (fun y hy e=>by rw[ok.uniq y hy,e])
  (thn (hi pins s σ H _ I h) fun xv s1 hx=>thn hx fun itv s2 h2=>?_)
 obtain⟨it,fp,tn,J,H2,e,I2,T,st2,f2,q⟩:=h2
 subst e
 refine wpAny_newObj_type (NY ?_) (by show 0<=sizeLine;decide)
 generalize hD:s2.heap.objs.size=D
 have hDn:H2 D=none:=I2.hok.fresh (Nat.le_of_eq hD)
 obtain⟨W,⟨m0,w0⟩,turn⟩:=q D hDn
 generalize hs3:({s2 with heap:=s2.heap.push {cls:=.type "list",data:=.seq ([]:List Value).toArray}}:Shared)=s3
 have I3:Inv X pins σ (upd H2 D (.lst [])) s3:=by
  rw[<-hs3]
  refine I2.laid (t':=s2.toks) (fun b o e=>Zz _ e) (Nat.le_of_eq hD) ⟨ZG _,[],0,.nil,?_⟩
  rw[<-hD]
  exact ZW _ rfl
 have h3:s3.heap=s2.heap.push {cls:=.type "list",data:=.seq ([]:List Value).toArray}:=by rw[<-hs3]
 have sz:∀b∈fp,b<s2.heap.objs.size:=fun b hb=>by
  obtain⟨o,e,_⟩:=T.obj _ _ st2 b hb
  exact ZF e
 have f3:∀b∈fp,FpOk X pins (upd H2 D (.lst [])) b/\b<s3.heap.objs.size:=fun b hb=>by
  have hlt:=sz b hb
  refine⟨⟨?_,(f2 b hb).2⟩,by rw[h3,YD];exact Vm hlt⟩
  rw[Zt (by rw[<-hD];exact Z0 hlt)]
  exact(f2 b hb).1
 have st3:tn 0 s3.heap:=T.keep _ _ _ st2 fun b _ o e=>by rw[h3];exact Zz _ e
 have I4:=Mn I3 ok hN f3
 have pg:=hg s3 (upd H2 D (.lst [])) s3.heap.objs.size (cellsFrom (s3.heap.objs.size+1) scope.names (Xn X.env.cells scope.names [])) fp
 have pt:=ht s3 (upd H2 D (.lst [])) s3.heap.objs.size (cellsFrom (s3.heap.objs.size+1) scope.names (Xn X.env.cells scope.names [])) fp
 have pe:=he s3 (upd H2 D (.lst [])) s3.heap.objs.size (cellsFrom (s3.heap.objs.size+1) scope.names (Xn X.env.cells scope.names [])) fp
 show codeAny _ _ (.compStart (.ListComp elt [⟨tg,iter,ifs,0⟩] scope pos) 0 (.ref it) (.ref D) (compEnvC scope (cellsFrom (s3.heap.objs.size+1) scope.names (Xn X.env.cells scope.names [])) s3.heap.objs.size X.env)) (compPost (model X.prog X.w) X.A X.xe use Qf (.ref D) s3.heap.objs.size) {s3 with heap:=pushCells (s3.heap.push {cls:=.type "dict",data:=.dict #[]}) scope.names}
 have nfp:∀b∈fp,(upd H2 D (.lst [])) b=none:=fun b hb=>(f3 b hb).1.1
 generalize hce:compEnvC scope (cellsFrom (s3.heap.objs.size+1) scope.names (Xn X.env.cells scope.names [])) s3.heap.objs.size X.env=ce at I4 pg pt pe⊢
 have cL:ce.locals=s3.heap.objs.size:=by subst hce;rfl
 generalize hH3:upd H2 D (.lst [])=H3 at I3 I4 pg pt pe w0 nfp f3
 generalize hs4:({s3 with heap:=pushCells (s3.heap.push {cls:=.type "dict",data:=.dict #[]}) scope.names}:Shared)=s4 at I4⊢
 have st4:tn 0 s4.heap:=T.keep _ _ _ st3 fun b _ o e=>by rw[<-hs4];exact pushCells_keeps _ _ _ _ (Zz _ e)
 have stat:∀{σ':St}{H':Hp}{s':Shared},Inv (X.blk s3 H3 scope ce fp) [] σ' H' s'->(∀b∈fp,H' b=none)->∀b∈fp,FpOk (X.blk s3 H3 scope ce fp) [] H' b:=fun{σ' H' s'} I' hn b hb=>
  ⟨hn b hb,(I'.ok.exf b hb).1,I'.ok.exfs b hb,.inl hb,fun x c e=>(I'.ok.exf b hb).2 x c e,fun p hp=>absurd (show p∈([]:List (Addr×Obj))++[]from hp) (by simp)⟩
 have loop:codeAny (model X.prog X.w) X.A (.compLoop (.ListComp elt [⟨tg,iter,ifs,0⟩] scope pos) 0 (.ref it) (.ref D) ce) (compPost (model X.prog X.w) X.A X.xe use Qf (.ref D) s3.heap.objs.size) s4:=by
  refine Nm (fun n s'=>∃i H',Inv (X.blk s3 H3 scope ce fp) [] (wipe σ (own.map (·.2))) H' s'/\tn i s'.heap/\(∀b∈fp,H' b=none)/\W i n H') ?_ m0 ⟨0,H3,I4,st4,nfp,w0⟩
  rintro n s5 ⟨i,H5,I5,st5,n5,w5⟩
  rcases turn i n H5 w5 with⟨stop,qq⟩|⟨go,Nx,hNx,step⟩
  ·have td:=T.done (X.blk s3 H3 scope ce fp) rfl rfl rfl hc i [] s5 _ H5 (fun _ _=>False) I5 (stat I5 n5) st5 stop
   refine thnF td fun r s6 ⟨hr,I6⟩=>?_
   subst hr
   have I7:Inv X pins σ H5 s6:=I3.call' (ch:=fp) I6.os I6.base I6.hok I6.bare fun b hb=>⟨(f3 b hb).1.2.2.2.1,(f3 b hb).1.2.1,(f3 b hb).1.2.2.2.2.1,(f3 b hb).1.2.2.2.2.2⟩
   have nC:H5 s3.heap.objs.size=none:=by
    have z:H5 ce.locals=none:=I6.free
    rw[cL]at z
    exact z
   obtain⟨m,hn,_⟩:=I6.loc
   have hn:s6.heap.Ns ce.locals m:=hn
   rw[cL]at hn
   exact hRR D s3.heap.objs.size s6 m H5 I7 qq hn (I3.fpOk (Zl _) nC)
  ·have ti:=T.item (X.blk s3 H3 scope ce fp) rfl rfl rfl hc i [] s5 _ H5 (fun _ _=>False) I5 (stat I5 n5) st5 go
   refine thnF ti fun r s6 ⟨u,hr,h6⟩=>?_
   subst hr
   refine thnF h6 fun _ s7 ⟨x,H7,I7,r7,y7,st7,n7⟩=>?_
   have I7':=I7.pinned (stat I7 n7) (T.obj _ _ st7)
   refine thnF (pg _ s7 _ H7 x u _ I7' r7 (step x H7 y7)) fun _ s8 ⟨σ8,H8,I8,hw8,q8⟩=>?_
   refine thnF (pt _ s8 σ8 H8 _ I8 q8) fun b s9 ⟨H9,I9,q9⟩=>?_
   have fin:∀{s':Shared}{H':Hp},Inv (X.blk s3 H3 scope ce fp) ([]++Qt fp s7.heap) σ8 H' s'->Nx H'->∃m,m<n/\∃i H',Inv (X.blk s3 H3 scope ce fp) [] (wipe σ (own.map (·.2))) H' s'/\tn i s'.heap/\(∀b∈fp,H' b=none)/\W i m H':=fun{s' H'} I' nx=>by
    obtain⟨m',hm,w'⟩:=hNx H' nx
    have pin':∀b∈fp,∀o,s7.heap.get? b=some o->s'.heap.get? b=some o/\H' b=none:=fun b hb o e=>
     let z:=I'.pin (b,o) (YA _ (YA _ (T6 hb e)))
     ⟨z.1,z.2.1⟩
    have hl:(wipe σ (own.map (·.2))).length=σ8.length:=by rw[<-hw8,UL]
    refine⟨m',hm,i+1,H',(I'.unpinned (pins:=[])).weak hl (fun j v e=>?_),T.keep _ _ _ st7 fun b hb o e=>(pin' b hb o e).1,fun b hb=>?_,w'⟩
    ·rw[<-hw8]at e
     exact(SF e).1
    ·obtain⟨o,e,_⟩:=T.obj _ _ st7 b hb
     exact(pin' b hb o e).2
   cases b with
   |false=>
    simp only[ZR,if_false]at q9⊢
    exact fin I9 q9
   |true=>
    simp only[if_true]at q9⊢
    refine thnF (pe _ s9 σ8 H9 _ I9 q9) fun z s10 ⟨yv,H10,I10,r10,acc,hD10,hz10,nx⟩=>?_
    exact app_ok (X:=X.blk s3 H3 scope ce fp) I10 hD10 hz10 r10 fun s11 I11=>fin I11 nx
 exact codeAny_compStart_list loop (T.self X.A 0 _ _ _ st4 loop)
theorem X1{elt tg iter:Expr}{ifs:List Expr}{scope:Scope}{own:List (Str×Nat)}{pos:Pos}{wi:TI}{g:TG}{tt:TT}{te:TE}(hc:X.calm=true)(hN:X.N.Nodup)(hi:PI X tg iter wi)(ok:Mu X.N X.env.scope scope own)
  (hg:∀(s:Shared)(H:Hp)(C:Addr)(cl:List (Str×Addr))(fp:List Addr),PG (X.blk s H scope (compEnvC scope cl C X.env) fp) tg g) (ht:∀(s:Shared)(H:Hp)(C:Addr)(cl:List (Str×Addr))(fp:List Addr),PTs (X.blk s H scope (compEnvC scope cl C X.env) fp) ifs tt)
  (he:∀(s:Shared)(H:Hp)(C:Addr)(cl:List (Str×Addr))(fp:List Addr),PE (X.blk s H scope (compEnvC scope cl C X.env) fp) elt te) (hs:∀x,foldedSetIterable iter X.env x=pure x:=by intro _;rfl):
  PE X (.ListComp elt [⟨tg,iter,ifs,0⟩] scope pos) (tLc wi g tt te (own.map (·.2))):=by
 intro pins s σ H Q I h
 rw[eval_ListComp]
 refine LN hc hN I hi ok hg ht he hs h fun D C s' m H' I' q hn f=>⟨m,hn,fun h'' sb=>?_⟩
 obtain⟨f0,f1,f2,f3,f4,f5⟩:=f
 exact⟨.ref D,H',I'.turned (t':=s'.toks) (fun b o hb e=>(sb.2 b hb).trans e) f0 f1 f3 f4 f5,rfl,q⟩
theorem Sk{i:Nat}{y:Str}{py:Pos}{elt tg iter:Expr}{ifs:List Expr}{scope:Scope}{own:List (Str×Nat)}{pos spos:Pos}{wi:TI}{g:TG}{tt:TT}{te:TE}(hc:X.calm=true)(hN:X.N.Nodup)(hy:X.N[i]?=some y)(hyl:X.env.scope.names.lookup y=some .local)
  (hsw:swapsWith (.ListComp elt [⟨tg,iter,ifs,0⟩] scope pos) (some (.Name y py)) spos.line X.env=pure true) (hi:PI X tg iter wi) (ok:Mu X.N X.env.scope scope own)
  (hg:∀(s:Shared)(H:Hp)(C:Addr)(cl:List (Str×Addr))(fp:List Addr),PG (X.blk s H scope (compEnvC scope cl C X.env) fp) tg g) (ht:∀(s:Shared)(H:Hp)(C:Addr)(cl:List (Str×Addr))(fp:List Addr),PTs (X.blk s H scope (compEnvC scope cl C X.env) fp) ifs tt)
  (he:∀(s:Shared)(H:Hp)(C:Addr)(cl:List (Str×Addr))(fp:List Addr),PE (X.blk s H scope (compEnvC scope cl C X.env) fp) elt te) (hs:∀x,foldedSetIterable iter X.env x=pure x:=by intro _;rfl):
  PS X (.Assign [.Name y py] (.ListComp elt [⟨tg,iter,ifs,0⟩] scope pos) spos) (tAsg (tLc wi g tt te (own.map (·.2))) (VD i)):=by
 intro pins s σ H D I h
 rw[exec_Assign_Name_used _ _ _ _ hsw]
 refine Zc (wpAny_standAt (Zc ?_))
 show wpAny _ X.A (do let _<-comprehension (.ListComp elt [⟨tg,iter,ifs,0⟩] scope pos) scope X.env (firstIterPos [⟨tg,iter,ifs,0⟩] pos) (newList []) false (eval iter X.env) (some (assign (.Name y py) X.env))) _ _ s
 have h:tLc wi g tt te (own.map (·.2)) σ H (fun x H1=>VD i x σ H1 D.nx):=h
 refine Zc (thn (LN (Qf:=fun _ s'=>SP X pins D .next s') hc hN I hi ok hg ht he hs h fun L C s' m H' I' q hn f=>?_) fun _ s' hq=>Zq (Zq hq))
 show wpAny _ _ (assign (.Name y py) X.env (.ref L)) _ _ _
 refine wpAny_assign_Name (Pt (v:=V.ref L) I' hN hy (.inl hyl) rfl (fun s2 I2 ⟨a,sb,ha⟩=>?_) (.inr hyl))
 obtain⟨f0,f1,f2,f3,f4,f5⟩:=f
 have haC:C≠a:=by
  rcases ha with z|z
  ·rw[z];exact f1
  ·exact fun e=>f4 y a z e.symm
 refine⟨m,hn.sameBut sb haC,fun h3 sb3=>?_⟩
 exact⟨_,H',I2.turned (t':=s2.toks) (fun b o hb e=>(sb3.2 b hb).trans e) f0 f1 f3 f4 f5,q⟩
theorem RP{elt:Expr}{gs:List Comprehension}{scope:Scope}{pos py:Pos}{y:Str}{l:Nat}{env:Env}(hk:env.scope.kind=.function)(hy:env.scope.names.lookup y=some .local)(hl:(py.line==pos.line)=true)
  (ha:(scope.names.any fun(n,k)=>n==y&&(k== .local||k== .cell))=false):swapsWith (.ListComp elt gs scope pos) (some (.Name y py)) l env=pure true:=by
 have ky:env.kindOf y=some .local:=hy
 have hb:env.blockKind=.function:=by unfold Env.blockKind;rw[hk];rfl
 unfold swapsWith
 simp only[hb,ky,ha,Expr.pos,hl]
 rfl
end
theorem lc_range{lo:Int}{n:Nat}{g:TG}{tt:TT}{te:TE}{vs:List Nat}{σ:St}{H1:Hp}{D:Addr}{Qd:Hp->Prop}(Pv:Nat->Hp->Prop)(h0:Pv 0 (upd H1 D (.lst [])))
  (hs:∀i H,i<n->Pv i H->g (.int (lo+i)) (wipe σ vs) H fun σ2 H2=>wipe σ2 vs=wipe σ vs/\tt σ2 H2 fun b H3=>
   if b=true then te σ2 H3 fun y H4=>∃acc,H4 D=some (.lst acc)/\acc.length<sizeLine/\Pv (i+1) (upd H4 D (.lst (acc++[y])))else Pv (i+1) H3) (hd:∀H,Pv n H->Qd H):
  ∃W:Nat->Nat->Hp->Prop,(∃m,W 0 m (upd H1 D (.lst [])))/\∀i m H,W i m H->
   ((Itr lo n).stop i H/\Qd H)\/((Itr lo n).go i H/\∃Nx:Hp->Prop,(∀H',Nx H'->∃m',m'<m/\W (i+1) m' H')/\∀x H',(Itr lo n).yld i H x H'->g x (wipe σ vs) H' fun σ2 H2=>wipe σ2 vs=wipe σ vs/\tt σ2 H2 fun b H3=>
    if b=true then te σ2 H3 fun y H4=>∃acc,H4 D=some (.lst acc)/\acc.length<sizeLine/\Nx (upd H4 D (.lst (acc++[y])))else Nx H3):=by
 refine⟨fun i m H=>m=n-i/\i<=n/\Pv i H,⟨n,by simp,ZG _,h0⟩,?_⟩
 rintro i m H ⟨rfl,hi,p⟩
 by_cases hlt:i<n
 ·refine .inr ⟨hlt,Pv (i+1),fun H' p'=>⟨n-(i+1),by omega,rfl,hlt,p'⟩,fun x H' y=>?_⟩
  obtain⟨e,y⟩:=y
  subst e y
  exact hs i _ hlt p
 ·have e:i=n:=by omega
  subst e
  exact .inl ⟨Zl _,hd H p⟩
theorem Tp{K:PySem.W.Frag}{a:Addr}{xs:List V}{g:TG}{tt:TT}{te:TE}{vs:List Nat}{σ:St}{H1:Hp}{D:Addr}{Qd:Hp->Prop}(Pv:Nat->Hp->Prop)(h0:Pv 0 (upd H1 D (.lst [])))(hl:∀i H,i<=xs.length->Pv i H->SqL K H a xs)
  (hs:∀i x H,xs[i]?=some x->Pv i H->g x (wipe σ vs) H fun σ2 H2=>wipe σ2 vs=wipe σ vs/\tt σ2 H2 fun b H3=>
   if b=true then te σ2 H3 fun y H4=>∃acc,H4 D=some (.lst acc)/\acc.length<sizeLine/\Pv (i+1) (upd H4 D (.lst (acc++[y])))else Pv (i+1) H3) (hd:∀H,Pv xs.length H->Qd H):
  ∃W:Nat->Nat->Hp->Prop,(∃m,W 0 m (upd H1 D (.lst [])))/\∀i m H,W i m H->
   ((Itl K a).stop i H/\Qd H)\/((Itl K a).go i H/\∃Nx:Hp->Prop,(∀H',Nx H'->∃m',m'<m/\W (i+1) m' H')/\∀x H',(Itl K a).yld i H x H'->g x (wipe σ vs) H' fun σ2 H2=>wipe σ2 vs=wipe σ vs/\tt σ2 H2 fun b H3=>
    if b=true then te σ2 H3 fun y H4=>∃acc,H4 D=some (.lst acc)/\acc.length<sizeLine/\Nx (upd H4 D (.lst (acc++[y])))else Nx H3):=by
 refine⟨fun i m H=>m=xs.length-i/\i<=xs.length/\Pv i H,⟨xs.length,by simp,ZG _,h0⟩,?_⟩
 rintro i m H ⟨rfl,hi,p⟩
 have q:=hl i H hi p
 by_cases hlt:i<xs.length
 ·refine .inr ⟨⟨xs,xs[i],q,by simp[hlt]⟩,Pv (i+1),fun H' p'=>⟨xs.length-(i+1),by omega,rfl,hlt,p'⟩,fun x H' y=>?_⟩
  obtain⟨e,y⟩:=y
  subst e
  exact hs i x _ (y xs q) p
 ·have e:i=xs.length:=by omega
  subst e
  exact .inl ⟨⟨xs,q,Zl _⟩,hd H p⟩
theorem lc_tup{K:PySem.W.Frag}{a:Addr}{xs:List V}{g:TG}{tt:TT}{te:TE}{vs:List Nat}{σ:St}{H1:Hp}{D:Addr}{Qd:Hp->Prop}(Pv:Nat->Hp->Prop)(h0:Pv 0 (upd H1 D (.lst [])))(hl:∀i H,i<=xs.length->Pv i H->SqT K H a xs)
  (hs:∀i x H,xs[i]?=some x->Pv i H->g x (wipe σ vs) H fun σ2 H2=>wipe σ2 vs=wipe σ vs/\tt σ2 H2 fun b H3=>
   if b=true then te σ2 H3 fun y H4=>∃acc,H4 D=some (.lst acc)/\acc.length<sizeLine/\Pv (i+1) (upd H4 D (.lst (acc++[y])))else Pv (i+1) H3) (hd:∀H,Pv xs.length H->Qd H):
  ∃W:Nat->Nat->Hp->Prop,(∃m,W 0 m (upd H1 D (.lst [])))/\∀i m H,W i m H->
   ((Itt K a).stop i H/\Qd H)\/((Itt K a).go i H/\∃Nx:Hp->Prop,(∀H',Nx H'->∃m',m'<m/\W (i+1) m' H')/\∀x H',(Itt K a).yld i H x H'->g x (wipe σ vs) H' fun σ2 H2=>wipe σ2 vs=wipe σ vs/\tt σ2 H2 fun b H3=>
    if b=true then te σ2 H3 fun y H4=>∃acc,H4 D=some (.lst acc)/\acc.length<sizeLine/\Nx (upd H4 D (.lst (acc++[y])))else Nx H3):=by
 refine⟨fun i m H=>m=xs.length-i/\i<=xs.length/\Pv i H,⟨xs.length,by simp,ZG _,h0⟩,?_⟩
 rintro i m H ⟨rfl,hi,p⟩
 have q:=hl i H hi p
 by_cases hlt:i<xs.length
 ·refine .inr ⟨⟨xs,xs[i],q,by simp[hlt]⟩,Pv (i+1),fun H' p'=>⟨xs.length-(i+1),by omega,rfl,hlt,p'⟩,fun x H' y=>?_⟩
  obtain⟨e,y⟩:=y
  subst e
  exact hs i x _ (y xs q) p
 ·have e:i=xs.length:=by omega
  subst e
  exact .inl ⟨⟨xs,q,Zl _⟩,hd H p⟩
noncomputable def blkC(N:List Str)(sc scope:Scope)(own:List (Str×Nat)):Bool:=
 (match scope.kind with| .function=>true|_=>false)&&(scope.names.all fun y=>decide (scope.names.lookup y.1=some y.2))&&(own.all fun p=>decide (N[p.2]?=some p.1))&&
  (scope.names.all fun y=>match y.2 with
   | .free=>(match sc.names.lookup y.1 with|some .cell=>true|some .free=>true|_=>false)
   | .local=>decide (y.1∈own.map (·.1))||decide (y.1∉N)
   | .cell=>decide (y.1∈own.map (·.1))||decide (y.1∉N)
   |_=>true)
theorem Yr{N:List Str}{sc scope:Scope}{own:List (Str×Nat)}(h:blkC N sc scope own=true):Mu N sc scope own:=by
 unfold blkC at h
 simp only[Zv,Xd,decide_eq_true_eq]at h
 obtain⟨⟨⟨h1,h2⟩,h3⟩,h4⟩:=h
 refine⟨?_,h2,h3,fun y hy e=>?_,fun y hy e=>?_⟩
 ·split at h1
  ·assumption
  ·cases h1
 ·have q:=h4 y hy
  simp only[e]at q
  split at q<;>first|exact .inl (by assumption)|exact .inr (by assumption)|cases q
 ·have q:=h4 y hy
  rcases e with e|e<;>(simp only[e,Bool.or_eq_true,decide_eq_true_eq]at q;exact q)
end L2
namespace L2
open PySem PySem.Spec PyProof.Rows
section
variable{prog:Program}{w:World}{A:Around}{R:Result->Shared->Prop}{s:Shared}{elt t0 i0 t1 i1:Expr}{ifs0 ifs1:List Expr}{scope:Scope}{pos:Pos}{it acc:Value}{env:Env}
end
section
variable{X:Cx}
end
end L2
namespace L2
open PySem PySem.Spec PyProof.Rows
section
variable{κ:Type}[DecidableEq κ]
noncomputable def valV(kvs:List (κ×V))(k:κ):Option V:=(kvs.find? fun kv=>decide (kv.1=k)).map (·.2)
noncomputable def W7(kvs:List (κ×V))(k:κ):List (κ×V):=kvs.filter fun kv=>decide (kv.1≠k)
theorem R7{p:κ×V}{r:List (κ×V)}{k:κ}(e:p.1=k):valV (p::r) k=some p.2:=by simp[valV,Wf,e]
theorem Se{p:κ×V}{r:List (κ×V)}{k:κ}(e:¬p.1=k):valV (p::r) k=valV r k:=by simp[valV,Wf,e]
theorem RelO.isSome_eq{o:Option V}{u:Option Value}(r:RelO o u):o.isSome=u.isSome:=by
 cases o with
 |none=>cases u with
  |none=>rfl
  |some _=>exact(show False from r).elim
 |some _=>cases u with
  |none=>exact(show False from r).elim
  |some _=>rfl
theorem KV.val{kvs:List (κ×V)}{vs:List (κ×Value)}(r:KV kvs vs)(k:κ):RelO (valV kvs k) (valueAt vs k):=by
 unfold KV at r
 induction r with
 |nil=>exact True.intro
 |@cons p q ps qs h t ih=>
  obtain⟨h1,h2⟩:=h
  by_cases e:p.1=k
  ·have e':q.1=k:=h1.symm.trans e
   have b:valueAt (q::qs) k=some q.2:=by simp[valueAt,Wf,e']
   rw[R7 e,b];exact h2
  ·have e':¬q.1=k:=fun z=>e (h1.trans z)
   have b:valueAt (q::qs) k=valueAt qs k:=by simp[valueAt,Wf,e']
   rw[Se e,b];exact ih
theorem dropK_le(kvs:List (κ×V))(k:κ):(W7 kvs k).length<=kvs.length:=YS _ _
end
theorem kV_is{P:Program}{w:World}{k:Key}{u:Value}(r:RelV (kV k) u):(YJ P w).is k u=true:=by
 cases k with
 |inl i=>obtain⟨t,e⟩:=(show∃t,u=Value.int i t from r);subst e;exact UV P w i t
 |inr x=>obtain⟨t,e⟩:=(show∃t,u=Value.str x t from r);subst e;exact NZ P w x t
theorem Ow{P:Program}{w:World}:∀{ks:List Key}{us:List Value},Vals (ks.map kV) us->ItemsAre (YJ P w) ks us
 |[],_,r=>by rw[Wz]at r;cases r;exact .nil
 |k::ks,_,r=>by
  rw[ZB]at r
  cases r with
  |cons h t=>exact .cons (kV_is h) (Ow t)
noncomputable abbrev KT(H:Hp):List (List Key×V)->List (List Key×Addr×Value)->Prop:=Paired fun p q=>p.1=q.1/\H q.2.1=some (.tup (p.1.map kV))/\RelV p.2 q.2.2
theorem KT.val{H:Hp}{kvs:List (List Key×V)}{xs:List (List Key×Addr×Value)}(r:KT H kvs xs)(k:List Key):RelO (valV kvs k) ((atKey xs k).map (·.2)):=by
 induction r with
 |nil=>exact True.intro
 |@cons p q ps qs h t ih=>
  obtain⟨h1,_,h2⟩:=h
  by_cases e:p.1=k
  ·have e':q.1=k:=h1.symm.trans e
   have b:atKey (q::qs) k=some q.2:=by simp[atKey,Wf,e']
   rw[R7 e,b];exact h2
  ·have e':¬q.1=k:=fun z=>e (h1.trans z)
   have b:atKey (q::qs) k=atKey qs k:=by simp[atKey,Wf,e']
   rw[Se e,b];exact ih
theorem KT.keeps{H H':Hp}{kvs:List (List Key×V)}{xs:List (List Key×Addr×Value)}(r:KT H kvs xs)(ht:∀b ys,H b=some (.tup ys)->H' b=some (.tup ys)):KT H' kvs xs:=
 Paired.mapP r fun _ _ z=>⟨z.1,ht _ _ z.2.1,z.2.2⟩
section
variable{P:Program}{w:World}{H:Hp}{h:Heap}{a:Addr}
theorem rd_of{u:HO}(ok:HOk P w H h)(e:Rd H a u):Wu P w H h a u:=e.ok ok
theorem dk_rd{kvs:List (Key×V)}(ok:HOk P w H h)(e:Rd H a (.dK kvs)):kvs.length<=sizeLine/\(a==sysModules)=false/\∃vs,KV kvs vs/\h.DictOf (YJ P w) a vs:=
 show Wu P w H h a (.dK kvs)from rd_of ok e
theorem QI{ks:List Key}(ok:HOk P w H h)(e:H a=some (.tup (ks.map kV))):(tupleKind (YJ P w)).is h ks a:=by
 obtain⟨_,its,r,o,h1,h2,n,h3⟩:=(show Wu P w H h a (.tup (ks.map kV))from ok a _ e)
 exact⟨o,its.toArray,n,h1,h2,h3,by simpa using Ow r⟩
theorem dt_rd{kvs:List (List Key×V)}(ok:HOk P w H h)(e:Rd H a (.dT kvs)):kvs.length<=sizeLine/\(a==sysModules)=false/\
  ∃xs,KT H kvs xs/\h.DictOfH (tupleKind (YJ P w)) a xs:=by
 obtain⟨z,y,xs,r,o,es,ep,h1,h2,h3,h4,h5⟩:=(show Wu P w H h a (.dT kvs)from rd_of ok e)
 refine⟨z,y,xs,r,o,es,ep,h1,h2,h3,h4,fun x hx=>?_,h5⟩
 have all:∀{l:List (List Key×V)}{m:List (List Key×Addr×Value)},KT H l m->∀x∈m,(tupleKind (YJ P w)).is h x.1 x.2.1:=by
  intro l m q
  induction q with
  |nil=>intro x hx;exact nomatch hx
  |@cons p q ps qs hq t ih=>
   intro x hx
   rcases Zw.mp hx with e|hx
   ·subst e
    exact QI ok (by rw[<-hq.1];exact hq.2.1)
   ·exact ih x hx
 exact all r x hx
theorem dt_of{kvs:List (List Key×V)}(ok:HOk P w H h)(e:H a=some (.dT kvs)):kvs.length<=sizeLine/\(a==sysModules)=false/\
  ∃xs,KT H kvs xs/\h.DictOfH (tupleKind (YJ P w)) a xs:=dt_rd ok (.inl e)
end
noncomputable def DGet(H:Hp)(a:Addr)(y:V)(r:Option V):Prop:=
 (∃kvs k,Rd H a (.dK kvs)/\y=kV k/\r=valV kvs k)\/∃kvs k b,Rd H a (.dT kvs)/\y=.ref b/\H b=some (.tup (k.map kV))/\r=valV kvs k
theorem DGet.t{H:Hp}{a b:Addr}{kvs:List (List Key×V)}{k:List Key}(e:H a=some (.dT kvs))(eb:H b=some (.tup (k.map kV))):DGet H a (.ref b) (valV kvs k):=.inr ⟨kvs,k,b,.inl e,rfl,eb,rfl⟩
section
variable{X:Cx}{pins:List (Addr×Obj)}{σ:St}{H:Hp}{s:Shared}{a:Addr}{y v:V}{u r:Value}{o:Option V}{A:Around}{E:Value->Shared->Prop}
theorem Inv.big(I:Inv X pins σ H s):sysModules<s.heap.objs.size:=by
 have h:mainGlobals<s.heap.objs.size:=(I.mod.glob.keeps I.bk).lt
 exact Wa (by decide) h
theorem d_in{Q:Value->Shared->Prop}(hu:A.units+1<cLine)(I:Inv X pins σ H s)(g:DGet H a y o)(ry:RelV y u)(h:∀s',Inv X pins σ H s'->Q (.bool o.isSome) s'):
  wpAny (model X.prog X.w) A (compareOp .In u (.ref a)) Q E s:=by
 rcases g with⟨kvs,k,e,ey,l⟩|⟨kvs,k,b,e,ey,eb,l⟩
 ·subst ey
  obtain⟨z,hd,vs,rel,dd⟩:=dk_rd I.hok e
  refine wpAny_in_of (kV_is ry) hd dd.mapOf ?_
  rw[<-(rel.val k).isSome_eq,<-l]
  exact h _ (I.tok _)
 ·subst ey
  cases(show u=Value.ref b from ry)
  obtain⟨z,hd,xs,rel,dd⟩:=dt_rd I.hok e
  refine wpAny_in_heap (tupleKind_room_in1 hu) (QI I.hok eb) hd dd ?_
  have q:=(rel.val k).isSome_eq
  rw[Option.isSome_map]at q
  rw[<-q,<-l]
  exact h _ (I.tok _)
theorem d_write{h':Heap}{t':Nat}{ob:HO}(I:Inv X pins σ H s)(mu:Mut (H a))(hs:Heap.SameBut a s.heap h')(he:∃q,h'.get? a=some q)(new:Wu X.prog X.w (upd H a ob) h' a ob):
  Inv X pins σ (upd H a ob) {s with heap:=h',toks:=t'}:=
 I.write (x:=a) (e:=a) mu (.inl rfl) (fun b q hb z=>(hs.2 b hb).trans z) he new
end
section
variable{X:Cx}{pins:List (Addr×Obj)}{σ:St}{H:Hp}{s:Shared}{a:Addr}{kvs:List (Key×V)}{k:Key}{u:Value}{A:Around}{E:Value->Shared->Prop}
end
noncomputable def NoSl(i:Expr):Prop:=∀ov iv,subscripted i false ov iv=operate [ov,iv] (getItem ov iv)
theorem subD_of{prog:Program}{w:World}{A:Around}{E:Value->Shared->Prop}{s:Shared}{env:Env}{value slice:Expr}{pos:Pos}{T id:String}{Q:Value->Shared->Prop}
  (hl:typeLookup (.type T) "__getitem__"=pure (some (.builtin id))) (hs:NoSl slice)
  (h:wpAny (model prog w) A (eval value env) (fun o s₁=>wpAny (model prog w) A (eval slice env) (fun i s₂=>s₂.TypeIs o T/\wpAny (model prog w) A (getItem o i) Q E s₂) E s₁) E s):
  wpAny (model prog w) A (eval (.Subscript value slice pos) env) Q E s:=by
 refine Subscript_ (XF h (fun o s₁ h₁=>XF h₁ (fun i s₂ h₂=>?_) fun _ _ x=>x) fun _ _ x=>x)
 obtain⟨hT,h₂⟩:=h₂
 unfold subscriptTail
 refine Zc ?_
 rw[getitemInPython_of_ne hT.not_modules]
 refine Zc (wpAny_specialOf hT hl ?_)
 have fin:wpAny (model prog w) A (subscripted slice false o i) (fun r s₃=>wpAny (model prog w) A (letTemporaryGo value o r >>= fun _=>pure r) Q E s₃) E s₂:=by
  rw[hs o i]
  exact wpAny_operating (XF h₂ (fun r s₃ h₃=>Zc (wpAny_letTemporaryGo (Zq h₃))) fun _ _ x=>x)
 first
  |exact Zq (Zc fin)
  |exact Zc (Zq (Zc fin))
  |exact Zc fin
noncomputable def tDIn(ty td:TE):TE:=fun σ H Q=>ty σ H fun y H1=>td σ H1 fun x H2=>∃a o,x=.ref a/\DGet H2 a y o/\Q (.bl o.isSome) H2
section
variable{X:Cx}{o i e value:Expr}{pos pos' tpos:Pos}{td ty tv:TE}
theorem pc_din(hu:X.A.units+1<cLine)(hi:PE X i ty)(ho:PE X o td):PC X .In i o (tDIn ty td):=by
 intro pins s σ H Q I h
 refine thn (hi pins s σ H _ I h) fun iv s1 ⟨y,H1,I1,ry,q1⟩=>thn (ho pins s1 σ H1 _ I1 q1) fun u s2 ⟨x,H2,I2,rx,a,ov,ex,g,q2⟩=>?_
 subst ex
 obtain rfl:u=Value.ref a:=rx
 exact d_in hu I2 g ry fun s3 I3=>⟨.bl ov.isSome,H2,I3,rfl,q2⟩
end
section
variable{X:Cx}{pos:Pos}
end
structure M1(X:Cx)(o:Expr)(m:Str)(apos:Pos)(e:Expr)(cpos:Pos):Prop where
 base:attributeBase o m X.env (eval o X.env)=eval o X.env
 few:((backTo cpos (starEach [e] X.env)).all (fun x=>!x.1)&&(backToKw cpos (keywordEach [] X.env)).all (fun x=>x.1.isSome)
  &&decide (([e]:List Expr).length+([]:List Keyword).length+(if([]:List Keyword).isEmpty then 0 else 1)<30))=true
 line:(apos.endLine==cpos.line)=true
 trees:backTo cpos (starEach [e] X.env)=[(false,eval e X.env)]
noncomputable def IsD(H:Hp)(a:Addr):Prop:=(∃kvs,Rd H a (.dK kvs))\/∃kvs,Rd H a (.dT kvs)
theorem isD_at{X:Cx}{pins:List (Addr×Obj)}{σ:St}{H:Hp}{s:Shared}{a:Addr}(I:Inv X pins σ H s)(d:IsD H a):
  s.TypeIs (.ref a) "dict"/\(∀b,Value.ref a=.ref b->∃ob,s.heap.get? b=some ob/\ob.dict=none)/\(a==sysModules)=false:=by
 rcases d with⟨kvs,e⟩|⟨kvs,e⟩
 ·obtain⟨_,hd,vs,_,dd⟩:=dk_rd I.hok e
  refine⟨dd.typeIs,fun b q=>?_,hd⟩
  cases q
  obtain⟨ob,_,_,h1,h2,_⟩:=dd
  exact⟨ob,h1,h2.2.1⟩
 ·obtain⟨_,hd,xs,_,dd⟩:=dt_rd I.hok e
  refine⟨dd.typeIs,fun b q=>?_,hd⟩
  cases q
  obtain⟨ob,_,_,h1,h2,_⟩:=dd
  exact⟨ob,h1,h2.2.1⟩
section
variable{X:Cx}{pins:List (Addr×Obj)}{σ:St}{H:Hp}{s:Shared}{a:Addr}{y d:V}{u r:Value}{o:Option V}{A:Around}{E:Value->Shared->Prop}
end
section
variable{X:Cx}{o e f:Expr}{apos cpos:Pos}{td ty tx:TE}
end
section
variable{X:Cx}{pins:List (Addr×Obj)}{σ:St}{H:Hp}{s:Shared}{a:Addr}{kvs:List (Key×V)}{A:Around}{E:Value->Shared->Prop}
end
section
variable{X:Cx}{pins:List (Addr×Obj)}{σ:St}{H:Hp}{s:Shared}{a:Addr}{y:V}{u:Value}{A:Around}{E:Value->Shared->Prop}
end
end L2
namespace L2
open PySem PySem.Spec PyProof.Rows
theorem QF:typeLookup (.type "list") "keys"=pure none:=am_miss_of_fast (by first|decide +kernel|rfl)
theorem Nv:entryFor table "dict.update.loop"=some Builtin.«dict.update.loop»:=entryFor_of_tree (by kernel_rfl)
theorem UN:plainId "dict.update.loop"=true:=by decide +kernel
section
variable{prog:Program}{w:World}{A:Around}{E:Value->Shared->Prop}
theorem Ky{s:Shared}{a:Addr}{o:Obj}{xs:Array Value}{k:Nat}{Q:Option Value->Shared->Prop}(hx:s.heap.get? a=some o)(hc:o.cls=.type "list")(hdat:o.data=.seq xs k)(hd:o.dict=none)(hA:A.handled=none)
  (h:∀h' tk,(∀b ob,s.heap.get? b=some ob->h'.get? b=some ob)->Q none {s with heap:=h',toks:=tk}):wpAny (model prog w) A (getAttr? (.ref a) "keys") Q E s:=by
 obtain⟨c,dct,dat,sl⟩:=o
 simp only at hc hdat hd
 subst hc hdat hd
 obtain⟨hp,g,d,tk,os⟩:=s
 have hT:∀tk',(⟨hp,g,d,tk',os⟩:Shared).TypeIs (.ref a) "list":=fun _=>⟨_,hx,rfl⟩
 have hmiss:=QF
 have hname:(["__module__","__name__","__qualname__","__doc__","__annotations__"]:List Str).contains "keys"=false:=by decide +kernel
 have hsz:("keys":Str).length+100<=sizeLine:=by first|size_fits|decide +kernel
 have f1:=sub_AttributeError
 have f3:=Vn.lookup
 have f4:=Vn.bind (.ref a)
 have f5:=am_list_getattr_none
 unfold getAttr? getAttrBy? getAttrBy
 repeat (any_goals (first|assumption|exact hT _|((with_reducible show wpAny _ _ (call (Value.builtin "list.__getattribute__") _ _) _ _ _);refine call_meets Vn (hT _) am_entry_list_getattribute (PySem.F.args_list_getattribute_2 _ _) (meets_getattribute_miss_list a xs k sl "keys" _ hmiss hname hsz) ⟨hx,hA,fun h' tk' e hx'=>?_⟩)|wp_step))
 obtain⟨t',u',he⟩:=hx'.there
 show wpAny _ _ (getattributeRaised _ _ _ _ _ _ _) _ _ _
 unfold getattributeRaised
 repeat (any_goals (first|assumption|wp_step))
 all_goals first|exact h _ _ hx'.keeps|(dsimp only;repeat (any_goals (first|assumption|exact h _ _ hx'.keeps|wp_step)))
end
section
variable{X:Cx}
theorem O2:∀{ps:List Addr}{us:List Value},Vals (ps.map V.ref) us->us=ps.map Value.ref
 |[],us,r=>by
  rw[Wz]at r
  cases r
  rfl
 |p::ps,us,r=>by
  rw[ZB]at r
  cases r with
  |cons h t=>
   cases h
   rw[ZB,<-O2 t]
end
end L2
namespace L2
open PySem PySem.Spec PyProof.Rows
theorem Q7:bootBuiltins "reversed"=some (.type "reversed"):=by decide +kernel
section
variable{X:Cx}{pins:List (Addr×Obj)}{σ:St}{H:Hp}{s:Shared}{h':Heap}
theorem Inv.turnedL{t':Nat}{ch:List Addr}(I:Inv X pins σ H s)(k:∀b o,b∉ch->s.heap.get? b=some o->h'.get? b=some o)(hf:∀b∈ch,FpOk X pins H b):Inv X pins σ H {s with heap:=h',toks:=t'}:=by
 have nit:∀b u,H b=some u->b∉ch:=fun b u e z=>by
  have q:=(hf b z).1
  rw[q]at e;cases e
 refine I.step (g':=s.gens) (d':=s.drawn) (ch:=ch) (fun b hb=>⟨(hf b hb).2.2.2.1,(hf b hb).2.1,(hf b hb).2.2.2.2.1,(hf b hb).2.2.2.2.2⟩) (fun b o _ _ hc e _=>k b o hc e) (fun b o _ _ hc e _=>⟨o.slots,k b o hc e⟩)
  (fun _ _ _ _ n=>n) (fun b o hc e=>⟨o,k b o hc e⟩) (fun _ _ e=>e) (fun _ _ _ e=>e) (fun b ps e=>⟨#[],by rw[e];simp⟩) (fun m hm=>?_) (fun b u e=>?_) I.bare
 ·obtain⟨o,es,ep,ho,r⟩:=hm
  exact⟨o,es,ep,k _ o (fun z=>(hf _ z).2.1 rfl) ho,r⟩
 ·refine(I.hok b u e).stay (fun c v hc q=>k c v ?_ q) (fun _ q=>q) fun _ _ q=>q
  rcases hc with z|z
  ·rw[z];exact nit b u e
  ·exact nit c _ z
theorem Inv.turnedNew{t':Nat}{ch:List Addr}{T:Addr}{ob:HO}(I:Inv X pins σ H s)(k:∀b o,b∉ch->s.heap.get? b=some o->h'.get? b=some o)(hf:∀b∈ch,FpOk X pins H b)(hT:s.heap.objs.size<=T)
  (new:Wu X.prog X.w (upd H T ob) h' T ob):Inv X pins σ (upd H T ob) {s with heap:=h',toks:=t'}:=by
 have hn:H T=none:=I.hok.fresh hT
 have nit:∀b u,H b=some u->b∉ch:=fun b u e z=>by
  have q:=(hf b z).1
  rw[q]at e;cases e
 refine I.step (g':=s.gens) (d':=s.drawn) (ch:=ch) (fun b hb=>⟨(hf b hb).2.2.2.1,(hf b hb).2.1,(hf b hb).2.2.2.2.1,(hf b hb).2.2.2.2.2⟩) (fun b o _ _ hc e _=>k b o hc e) (fun b o _ _ hc e _=>⟨o.slots,k b o hc e⟩)
  (fun b o _ e n=>?_) (fun b o hc e=>⟨o,k b o hc e⟩) (fun b xs e=>?_) (fun b o u e=>?_) (fun b ps e=>⟨#[],?_⟩) (fun m hm=>?_) (fun b u e=>?_) I.bare
 ·rw[Zt (Z0 (ZX (ZF e) hT))];exact n
 ·rw[Zt (ZD e hn)];exact e
 ·rw[Zt (ZD e hn)];exact e
 ·rw[Zt (ZD e hn),e];simp
 ·obtain⟨o,es,ep,ho,r⟩:=hm
  exact⟨o,es,ep,k _ o (fun z=>(hf _ z).2.1 rfl) ho,r⟩
 ·by_cases hb:b=T
  ·subst hb
   rw[Zf]at e
   cases e
   exact new
  ·rw[Zt hb]at e
   refine(I.hok b u e).stay (fun c v hc q=>k c v ?_ q) (fun c q=>by rw[Zt (ZD q hn)];exact q) fun c xs q=>by rw[Zt (ZD q hn)];exact q
   rcases hc with z|z
   ·rw[z];exact nit b u e
   ·exact nit c _ z
end
section
variable{X:Cx}
theorem pi_one{tg:Expr}{pins:List (Addr×Obj)}{σ:St}{H:Hp}{s:Shared}{R:It->Hp->Prop}{J:It}{tn:Nat->Heap->Prop}{tk:Nat}(I:Inv X pins σ H s)(o:Obj)
  (T:Turn X.prog X.w X.K tg J [s.heap.objs.size] s.heap.objs.size tn) (st:tn 0 (s.heap.push o)) (q:R J H):PIE X pins σ tg R (.ref s.heap.objs.size) {s with heap:=s.heap.push o,toks:=tk}:=by
 refine⟨s.heap.objs.size,[s.heap.objs.size],tn,J,H,rfl,I.kept fun b ob e=>Zz _ e,T,st,fun b hb=>?_,q⟩
 have e:b=s.heap.objs.size:=by simpa using hb
 subst e
 exact I.fpOk (Zl _) (I.hok.fresh (Zl _))
end
section
variable{X:Cx}{tg:Expr}
end
noncomputable def Itv(K:PySem.W.Frag)(a:Addr)(n:Nat):It:=
 ⟨fun i H=>i<n/\∃(xs:List V)(x:V),SqL K H a xs/\xs[n-1-i]?=some x,fun i H x H'=>H'=H/\∀xs,SqL K H a xs->xs[n-1-i]?=some x,fun i _=>n<=i⟩
theorem turn_rev{P:Program}{w:World}{K:PySem.W.Frag}{tg:Expr}(a it:Addr)(n:Nat):Turn P w K tg (Itv K a n) [it] it (fun i h=>i<=n/\h.IsRevIter it a ((n:Int)-1-(i:Nat)))where
 mem:=by simp
 obj:=fun i h st b hb=>by
  have e:b=it:=by simpa using hb
  subst e
  obtain⟨_,o,e,c,d⟩:=st
  exact⟨o,e,fun v z=>by rw[d]at z;cases z⟩
 keep:=fun i h h' st k=>⟨st.1,st.2.at fun o e=>k it (by simp) o e⟩
 item:=by
  intro X hP hw hK hc i pins s σ H E I hf st hg
  subst hP hw hK
  obtain⟨hin,xs,x,hq,hx⟩:=hg
  obtain⟨its,rv,p,hz⟩:=I.list hq
  obtain⟨u,hu,ru⟩:=rv.get hx
  obtain⟨f0,f1,f2,f3,f4,f5⟩:=hf it (by simp)
  obtain⟨_,hit⟩:=st
  have e1:(n:Int)-1-((i:Nat):Int)=((n-1-i:Nat):Int):=by omega
  rw[e1]at hit
  refine wpAny_pyNext_rev_item hit p.isList (x:=u) (by simpa using hu) fun h' st' sb=>?_
  have e2:((n-1-i:Nat):Int)-1=(n:Int)-1-((i+1:Nat):Int):=by omega
  rw[e2]at st'
  have I1:Inv X pins σ H {s with heap:=h'}:=I.turned (t':=s.toks) (fun b o hb e=>(sb.2 b hb).trans e) f0 f1 f3 f4 f5
  obtain⟨o,e,c,d⟩:=id st'
  exact⟨u,rfl,LQ (s:={s with heap:=h'}) e c d (by decide) ⟨x,H,I1,ru,⟨rfl,fun ys hy=>by rw[I.list_inj hy hq];exact hx⟩,⟨hin,st'⟩,fun b hb=>(hf b hb).1⟩⟩
 done:=by
  intro X hP hw hK hc i pins s σ H E I hf st hg
  subst hP hw hK
  obtain⟨f0,f1,f2,f3,f4,f5⟩:=hf it (by simp)
  obtain⟨hin,hit⟩:=st
  have hge:n<=i:=hg
  have e1:(n:Int)-1-((i:Nat):Int)=-1:=by omega
  rw[e1]at hit
  exact wpAny_pyNext_rev_end (I.ok.hd hc) hit fun h' eb=>⟨rfl,I.turned (t':=s.toks) (fun b o hb e=>eb b o hb e) f0 f1 f3 f4 f5⟩
 self:=fun A i s Q E st h=>wpAny_pyIter_revIter st.2 h
noncomputable def iRev(K:PySem.W.Frag)(ta:TA):TI:=fun σ H R=>ta σ H fun vs H1=>∃(a:Addr)(xs:List V),vs=[.ref a]/\SqL K H1 a xs/\R (Itv K a xs.length) H1
section
variable{X:Cx}{tg:Expr}
theorem RB{e:Expr}{ta:TA}{p pos:Pos}(hg:Gl X "reversed")(hm:X.mg "reversed"=none)(ha:PA X [e] ta)(hs:starEach [e] X.env=[(false,eval e X.env)]:=by rfl):PI X tg (.Call (.Name "reversed" p) [e] [] pos) (iRev X.K ta):=by
 intro pins s σ H R I h
 refine Call_ (VY I hg hm Q7 (Ym (thn (ha pos pins s σ H _ I h) fun us s1 ⟨vs,H1,I1,r1,q1⟩=>?_) hs rfl))
 obtain⟨a,xs,e,hq,q⟩:=q1
 subst e
 cases r1 with
 |cons r rr=>
  cases rr
  cases r
  obtain⟨its,rv,p',hz⟩:=I1.list hq
  have hl:=rv.length
  have e1:((its.toArray.size:Nat):Int)-1=(xs.length:Int)-1-((0:Nat):Int):=by simp only[ZH];omega
  refine call_reversed_list p'.isList (wpAny_pyIter_revIter (l:=a) (i:=((its.toArray.size:Nat):Int)-1) ⟨_,ZW _ rfl,rfl,rfl⟩ ?_)
  refine pi_one (tk:=s1.toks) I1 _ (turn_rev a _ xs.length) ⟨ZG _,?_⟩ q
  rw[<-e1]
  exact⟨_,ZW _ rfl,rfl,rfl⟩
end
section
variable{prog:Program}{w:World}{A:Around}{E:Value->Shared->Prop}{s:Shared}
end
theorem Z4{α β:Type}{G:α->β->Prop}{l₁:List α}{l₂:List β}(h:Paired G l₁ l₂):∀{i:Nat}{a:α},l₁[i]?=some a->∃b,l₂[i]?=some b/\G a b:=by
 induction h with
 |nil=>intro i a e;simp at e
 |@cons a b l₁ l₂ r t ih=>
  intro i a' e
  cases i with
  |zero=>
   simp only[List.getElem?_cons_zero,Option.some.injEq]at e
   subst e
   exact⟨b,rfl,r⟩
  |succ j=>
   simp only[List.getElem?_cons_succ]at e⊢
   exact ih e
section
variable{X:Cx}{pins:List (Addr×Obj)}{σ:St}{H:Hp}{s:Shared}{d:Addr}{o:Obj}
end
section
variable{P:Program}{w:World}{K:PySem.W.Frag}{tg:Expr}{d:Addr}{o:Obj}{es:Array DictEntry}{ep:Nat}
end
section
variable{X:Cx}{tg e:Expr}{td:TE}{apos cpos:Pos}
end
noncomputable def Ite(K:PySem.W.Frag)(a:Addr):It:=
 ⟨fun i H=>∃(xs:List V)(x:V),SqL K H a xs/\xs[i]?=some x,fun i H v H'=>∃T x,v=.ref T/\H T=none/\H'=upd H T (.tup [.int (i:Nat),x])/\∀xs,SqL K H a xs->xs[i]?=some x,fun i H=>∃xs:List V,SqL K H a xs/\xs.length<=i⟩
theorem L8{P:Program}{w:World}{K:PySem.W.Frag}{elts:List Expr}{kk:Nat}{tpos:Pos}(a e it:Addr):
  Turn P w K (.Tuple elts kk tpos) (Ite K a) [e,it] e (fun i h=>(∃old,IsEnum h e it ((i:Nat):Int) old)/\h.IsListIter it a i/\e≠it)where
 mem:=by simp
 obj:=fun i h st b hb=>by
  obtain⟨⟨old,he⟩,⟨o,ho,hc,hd⟩,_⟩:=st
  have e':b=e\/b=it:=by simpa using hb
  rcases e' with z|z
  ·rw[z];exact⟨_,he,fun v q=>nomatch q⟩
  ·rw[z];exact⟨o,ho,fun v q=>by rw[hd]at q;cases q⟩
 keep:=fun i h h' st k=>let⟨⟨old,he⟩,hi,hne⟩:=st;⟨⟨old,k e (by simp) _ he⟩,hi.at fun o q=>k it (by simp) o q,hne⟩
 item:=by
  intro X hP hw hK hc i pins s σ H E I hf st hg
  subst hP hw hK
  obtain⟨⟨old,he⟩,hit,hne⟩:=st
  obtain⟨xs,x,hq,hx⟩:=hg
  obtain⟨its,rv,p,hz⟩:=I.list hq
  obtain⟨u,hu,ru⟩:=rv.get hx
  have hel:e<s.heap.objs.size:=ZF he
  have hil:it<s.heap.objs.size:=by obtain⟨_,q,_⟩:=hit;exact ZF q
  refine wpAny_pyNext_enum_item he hit p.isList (x:=u) (by simpa using hu) hne fun h' ho hit' hT hsz hk=>?_
  refine⟨_,rfl,wpAny_letOwnedTupleGo_enum (s:={s with heap:=h',toks:=s.toks+1}) ho fun h'' he' sb=>?_⟩
  have hT2:h''.get? s.heap.objs.size=some {cls:=.type "tuple",data:=.seq #[.int i s.toks,u]}:=(sb.2 _ (Nat.ne_of_gt hel)).trans hT
  have new:Wu X.prog X.w (upd H s.heap.objs.size (.tup [.int (i:Nat),x])) h'' s.heap.objs.size (.tup [.int (i:Nat),x]):=
   ⟨by show 2<=sizeLine;decide,[.int i s.toks,u],.cons ⟨_,rfl⟩ (.cons ru .nil),⟨_,hT2,rfl,_,rfl⟩⟩
  have I1:Inv X pins σ (upd H s.heap.objs.size (.tup [.int (i:Nat),x])) {s with heap:=h'',toks:=s.toks+1}:=
   I.turnedNew (ch:=[e,it]) (fun b ob hb q=>(sb.2 b (fun z=>hb (by simp[z]))).trans (hk b ob (fun z=>hb (by simp[z])) (fun z=>hb (by simp[z])) q)) hf (Zl _) new
  refine⟨.ref s.heap.objs.size,_,I1,rfl,⟨_,x,rfl,I.hok.fresh (Zl _),rfl,fun ys hy=>by rw[I.list_inj hy hq];exact hx⟩,⟨⟨u,?_⟩,hit'.at fun o q=>(sb.2 it (Yq hne)).trans q,hne⟩,fun b hb=>?_⟩
  ·have e1:((i+1:Nat):Int)=(i:Int)+1:=by omega
   rw[e1];exact he'
  ·have hb':b<s.heap.objs.size:=by
    have e':b=e\/b=it:=by simpa using hb
    rcases e' with z|z
    ·rw[z];exact hel
    ·rw[z];exact hil
   rw[Zt (Z0 hb')]
   exact(hf b hb).1
 done:=by
  intro X hP hw hK hc i pins s σ H E I hf st hg
  subst hP hw hK
  obtain⟨⟨old,he⟩,hit,hne⟩:=st
  obtain⟨xs,hq,hx⟩:=hg
  obtain⟨its,rv,p,hz⟩:=I.list hq
  obtain⟨f0,f1,f2,f3,f4,f5⟩:=hf it (by simp)
  have hl:=rv.length
  exact wpAny_pyNext_enum_end (I.ok.hd hc) he hit p.isList (by simp;omega) fun h' eb=>⟨rfl,I.turned (t':=s.toks) (fun b o hb q=>eb b o hb q) f0 f1 f3 f4 f5⟩
 self:=fun A i s Q E st h=>let⟨⟨_,he⟩,_⟩:=st;wpAny_pyIter_enum he h
noncomputable def iEnum(K:PySem.W.Frag)(ta:TA):TI:=fun σ H R=>ta σ H fun vs H1=>∃a xs,vs=[.ref a]/\SqL K H1 a xs/\R (Ite K a) H1
theorem Sm{X:Cx}{e:Expr}{ta:TA}{p pos tpos:Pos}{elts:List Expr}{kk:Nat}(hg:Gl X "enumerate")(hm:X.mg "enumerate"=none)(ha:PA X [e] ta)(hs:starEach [e] X.env=[(false,eval e X.env)]:=by rfl):
  PI X (.Tuple elts kk tpos) (.Call (.Name "enumerate" p) [e] [] pos) (iEnum X.K ta):=by
 intro pins s σ H R I h
 refine Call_ (VY I hg hm boot_enumerate (Ym (thn (ha pos pins s σ H _ I h) fun us s1 ⟨vs,H1,I1,r1,q1⟩=>?_) hs rfl))
 obtain⟨a,xs,ex,hq,q⟩:=q1
 subst ex
 cases r1 with
 |cons r rr=>
  cases rr
  cases r
  obtain⟨its,rv,p',hz⟩:=I1.list hq
  refine call_enumerate_list p'.isList fun h' he hit hsz hk=>wpAny_pyIter_enum he ?_
  have I2:Inv X pins σ H1 {s1 with heap:=h'}:=I1.kept (t':=s1.toks) hk
  refine⟨s1.heap.objs.size+1,[s1.heap.objs.size+1,s1.heap.objs.size],_,_,H1,rfl,I2,L8 a (s1.heap.objs.size+1) s1.heap.objs.size,⟨⟨.none,he⟩,hit,Nat.succ_ne_self _⟩,fun b hb=>?_,q⟩
  have e':b=s1.heap.objs.size+1\/b=s1.heap.objs.size:=by simpa using hb
  have hle:s1.heap.objs.size<=b:=by
   rcases e' with z|z
   ·rw[z];exact Y1 _ _
   ·rw[z];exact Zl _
  exact I1.fpOk hle (I1.hok.fresh hle)
theorem KY:bootBuiltins "zip"=some (.type "zip"):=by decide +kernel
noncomputable def Itz(K:PySem.W.Frag)(a b:Addr):It:=
 ⟨fun i H=>∃(xs ys:List V)(x y:V),SqL K H a xs/\SqL K H b ys/\xs[i]?=some x/\ys[i]?=some y,
  fun i H v H'=>∃T x y,v=.ref T/\H T=none/\H'=upd H T (.tup [x,y])/\(∀xs,SqL K H a xs->xs[i]?=some x)/\∀ys,SqL K H b ys->ys[i]?=some y,
  fun i H=>∃xs ys:List V,SqL K H a xs/\SqL K H b ys/\(xs.length<=i\/ys.length<=i)⟩
theorem turn_zip{P:Program}{w:World}{K:PySem.W.Frag}{elts:List Expr}{kk:Nat}{tpos:Pos}{a b z TI TO i1 i2:Addr}(D:ZipApart z TI TO i1 i2 a b):
  Turn P w K (.Tuple elts kk tpos) (Itz K a b) [z,TI,TO,i1,i2] z (fun i h=>IsZip h z TI TO .none/\IsPair h TI (.ref i1) (.ref i2)/\(∃x y,IsPair h TO x y)/\h.IsListIter i1 a i/\h.IsListIter i2 b i)where
 mem:=by simp
 obj:=fun i h st c hc=>by
  obtain⟨hz,hTI,⟨x,y,hTO⟩,⟨o1,e1,_,d1⟩,⟨o2,e2,_,d2⟩⟩:=st
  have e':c=z\/c=TI\/c=TO\/c=i1\/c=i2:=by simpa using hc
  rcases e' with q|q|q|q|q
  ·rw[q];exact⟨_,hz,fun v q=>nomatch q⟩
  ·rw[q];exact⟨_,hTI,fun v q=>nomatch q⟩
  ·rw[q];exact⟨_,hTO,fun v q=>nomatch q⟩
  ·rw[q];exact⟨o1,e1,fun v q=>by rw[d1]at q;cases q⟩
  ·rw[q];exact⟨o2,e2,fun v q=>by rw[d2]at q;cases q⟩
 keep:=fun i h h' st k=>by
  obtain⟨hz,hTI,⟨x,y,hTO⟩,h1,h2⟩:=st
  exact⟨k z (by simp) _ hz,k TI (by simp) _ hTI,⟨x,y,k TO (by simp) _ hTO⟩,h1.at fun o q=>k i1 (by simp) o q,h2.at fun o q=>k i2 (by simp) o q⟩
 item:=by
  intro X hP hw hK hc i pins s σ H E I hf st hg
  subst hP hw hK
  obtain⟨hz,hTI,⟨x0,y0,hTO⟩,h1,h2⟩:=st
  obtain⟨xs,ys,x,y,hqx,hqy,hx,hy⟩:=hg
  obtain⟨its,rv,p,_⟩:=I.list hqx
  obtain⟨its2,rv2,p2,_⟩:=I.list hqy
  obtain⟨u,hu,ru⟩:=rv.get hx
  obtain⟨u2,hu2,ru2⟩:=rv2.get hy
  have hzl:z<s.heap.objs.size:=ZF hz
  refine wpAny_pyNext_zip_item D hz hTI hTO h1 h2 p.isList p2.isList (x:=u) (y:=u2) (by simpa using hu) (by simpa using hu2) fun h' z' TO' h1' h2' hT hsz hk=>?_
  refine⟨_,rfl,wpAny_letOwnedTupleGo_zip (s:={s with heap:=h'}) z' fun h'' z'' sb=>?_⟩
  have hT2:h''.get? s.heap.objs.size=some {cls:=.type "tuple",data:=.seq #[u,u2]}:=(sb.2 _ (Nat.ne_of_gt hzl)).trans hT
  have new:Wu X.prog X.w (upd H s.heap.objs.size (.tup [x,y])) h'' s.heap.objs.size (.tup [x,y]):=
   ⟨by show 2<=sizeLine;decide,[u,u2],.cons ru (.cons ru2 .nil),⟨_,hT2,rfl,_,rfl⟩⟩
  have I1:Inv X pins σ (upd H s.heap.objs.size (.tup [x,y])) {s with heap:=h''}:=
   I.turnedNew (t':=s.toks) (ch:=[z,TI,TO,i1,i2]) (fun c o hb q=>(sb.2 c (fun q'=>hb (by simp[q']))).trans (hk c o (fun q'=>hb (by simp[q'])) (fun q'=>hb (by simp[q'])) (fun q'=>hb (by simp[q'])) (fun q'=>hb (by simp[q'])) q)) hf (Zl _) new
  refine⟨.ref s.heap.objs.size,_,I1,rfl,⟨_,x,y,rfl,I.hok.fresh (Zl _),rfl,fun l hl=>by rw[I.list_inj hl hqx];exact hx,fun l hl=>by rw[I.list_inj hl hqy];exact hy⟩,⟨z'',?_,⟨u,u2,?_⟩,?_,?_⟩,fun c hcm=>?_⟩
  ·exact(sb.2 _ D.TIz).trans (hk _ _ D.TIz D.TITO D.TIi1 D.TIi2 hTI)
  ·exact(sb.2 _ D.TOz).trans TO'
  ·exact h1'.at fun o q=>(sb.2 _ D.i1z).trans q
  ·exact h2'.at fun o q=>(sb.2 _ D.i2z).trans q
  ·have hlt:c<s.heap.objs.size:=by
    have e':c=z\/c=TI\/c=TO\/c=i1\/c=i2:=by simpa using hcm
    rcases e' with q|q|q|q|q
    ·rw[q];exact hzl
    ·rw[q];exact ZF hTI
    ·rw[q];exact ZF hTO
    ·rw[q];obtain⟨_,e1,_⟩:=h1;exact ZF e1
    ·rw[q];obtain⟨_,e2,_⟩:=h2;exact ZF e2
   rw[Zt (Z0 hlt)]
   exact(hf c hcm).1
 done:=by
  intro X hP hw hK hc i pins s σ H E I hf st hg
  subst hP hw hK
  obtain⟨hz,hTI,⟨x0,y0,hTO⟩,h1,h2⟩:=st
  obtain⟨xs,ys,hqx,hqy,hend⟩:=hg
  obtain⟨its,rv,p,_⟩:=I.list hqx
  obtain⟨its2,rv2,p2,_⟩:=I.list hqy
  have l1:=rv.length
  have l2:=rv2.length
  have he:its.toArray[i]?=none\/its2.toArray[i]?=none:=by
   rcases hend with q|q
   ·exact .inl (by simp;omega)
   ·exact .inr (by simp;omega)
  exact wpAny_pyNext_zip_end (I.ok.hd hc) D hz hTI hTO h1 h2 p.isList p2.isList he fun h' hk=>⟨rfl,I.turnedL (t':=s.toks) (ch:=[z,TI,TO,i1,i2]) (fun c o hb q=>
   hk c o (fun q'=>hb (by simp[q'])) (fun q'=>hb (by simp[q'])) (fun q'=>hb (by simp[q'])) (fun q'=>hb (by simp[q'])) q) hf⟩
 self:=fun A i s Q E st h=>wpAny_pyIter_zip st.1 h
noncomputable def iZip(K:PySem.W.Frag)(ta:TA):TI:=fun σ H R=>ta σ H fun vs H1=>∃a b xs ys,vs=[.ref a,.ref b]/\SqL K H1 a xs/\SqL K H1 b ys/\R (Itz K a b) H1
theorem pi_zip{X:Cx}{e e2:Expr}{ta:TA}{p pos tpos:Pos}{elts:List Expr}{kk:Nat}(hg:Gl X "zip")(hm:X.mg "zip"=none)(ha:PA X [e,e2] ta)
  (hs:starEach [e,e2] X.env=(false,eval e X.env)::starEach [e2] X.env:=by rfl) (hpl:(backTo pos (starEach [e2] X.env)).any (·.1)=false:=by rfl):
  PI X (.Tuple elts kk tpos) (.Call (.Name "zip" p) [e,e2] [] pos) (iZip X.K ta):=by
 intro pins s σ H R I h
 refine Call_ (VY I hg hm KY (Ym (thn (ha pos pins s σ H _ I h) fun us s1 ⟨vs,H1,I1,r1,q1⟩=>?_) hs hpl))
 obtain⟨a,b,xs,ys,ex,hqx,hqy,q⟩:=q1
 subst ex
 cases r1 with
 |cons r rr=>
  cases rr with
  |cons r' rr=>
   cases rr
   cases r
   cases r'
   obtain⟨its,rv,p1,_⟩:=I1.list hqx
   obtain⟨its2,rv2,p2,_⟩:=I1.list hqy
   have la:a<s1.heap.objs.size:=p1.lt
   have lb:b<s1.heap.objs.size:=p2.lt
   refine call_zip_2 p1.isList p2.isList fun h' hz hTI hTO h1 h2 hsz hk=>wpAny_pyIter_zip hz ?_
   have I2:Inv X pins σ H1 {s1 with heap:=h'}:=I1.kept (t':=s1.toks) hk
   refine⟨s1.heap.objs.size+4,[s1.heap.objs.size+4,s1.heap.objs.size+2,s1.heap.objs.size+3,s1.heap.objs.size,s1.heap.objs.size+1],_,_,H1,rfl,I2,turn_zip (PySem.W.ktu_apart s1.heap.objs.size a b la lb),⟨hz,hTI,⟨_,_,hTO⟩,h1,h2⟩,fun c hcm=>?_,q⟩
   have e':c=s1.heap.objs.size+4\/c=s1.heap.objs.size+2\/c=s1.heap.objs.size+3\/c=s1.heap.objs.size\/c=s1.heap.objs.size+1:=by simpa using hcm
   have hle:s1.heap.objs.size<=c:=by
    rcases e' with z|z|z|z|z
    ·rw[z];exact Y1 _ _
    ·rw[z];exact Y1 _ _
    ·rw[z];exact Y1 _ _
    ·rw[z];exact Zl _
    ·rw[z];exact Y1 _ _
   exact I1.fpOk hle (I1.hok.fresh hle)
end L2
section
namespace Bits
open PySem PyProof.Rows
end Bits
end
section
namespace TL
open PySem PySem.Builtin PySem.Builtin.Str PySem.StrLaws
end TL
end
namespace L2
open PySem PySem.Spec PyProof.Rows
section
variable{X:Cx}{pins:List (Addr×Obj)}{σ:St}{H:Hp}{s:Shared}{Q:VK}
end
section
variable{X:Cx}
end
section
variable{X:Cx}{o e:Expr}{to te:TE}
end
end L2
namespace L2
open PySem PySem.Spec PyProof.Rows
section
variable{X:Cx}
end
end L2
namespace Att
open PySem PySem.W PySem.Calls PyProof.Rows
section
variable{prog:Program}{w:World}{A:Around}{E:Value->Shared->Prop}{s:Shared}{K:Frag}
end
end Att
namespace L2
open PySem PySem.Spec PyProof.Rows
end L2
namespace L2
open PySem PySem.Spec PyProof.Rows
end L2
namespace L2
open PySem PySem.Spec PyProof.Rows
noncomputable def XG(s:Stmt)(j:Nat):Stmt:=match s with
 | .ClassDef _ _ _ body _ _ _ _ _ _ _=>body.getD j (.Pass ⟨0,0,0,0⟩)
 |_=>.Pass ⟨0,0,0,0⟩
noncomputable def ZO(s:Stmt):Arguments:=match s with
 | .FunctionDef _ a _ _ _ _ _ _ _ _=>a
 |_=>{posonlyargs:=[],args:=[],vararg:=none,kwonlyargs:=[],kw_defaults:=[],kwarg:=none,defaults:=[]}
noncomputable def ZL(s:Stmt):List Stmt:=match s with
 | .FunctionDef _ _ b _ _ _ _ _ _ _=>b
 |_=>[]
noncomputable def Zh(s:Stmt):Scope:=match s with
 | .FunctionDef _ _ _ _ _ _ sc _ _ _=>sc
 |_=>{kind:=.function,names:=[],isGenerator:=false,isCoroutine:=false}
noncomputable abbrev CX0:CXT:=fun _ _ _ _ _ _=>False
noncomputable abbrev E0:XK:=fun _ _ _=>False
theorem Oh{X:Cx}:U9 CX0 X E0:=fun _ _ _ _ _ _ _ h=>h.elim
structure Fun(K:PySem.W.Frag)(x qual:Str)(st:Stmt)(f:Addr)(fd:FuncData):Prop where
 ex:∃(oc:Value)(od:Option Addr)(kV doc pm:Value)(an:Option Addr)(cdv ct:Value)(osl:Array (Option Value)),
  fd=PySem.W.fnOf x qual (ZO st) (ZL st) (Zh st) .none kV doc pm an cdv ct/\K.lookup f=some ⟨oc,od,.func fd,osl⟩/\PySem.W.codeIn K cdv qual=true
 kp:PySem.W.keepIn K (.ref f)=true
section
variable{P:Program}{w:World}{K:PySem.W.Frag}{mg:Str->Option Value}{base:Heap}
theorem Fun.ok{x qual:Str}{st:Stmt}{f:Addr}{fd:FuncData}{N ps:List Str}{k:Nat}{sp:Sp}(F:Fun K x qual st f fd)(S:ZP N ps (Zh st))(len:∀vs H Q E,sp vs H Q E->vs.length=ps.length)
  (hbody:∀(cdv:Value)(A:Around)(outer:List Env)(s:Shared)(H:Hp)(vs:List V)(Q:VK)(E:XK),Room k (A.deeper (envOfC qual (Zh st) s.heap.objs.size f cdv))->sp vs H Q E->
   ∃t,PSs (cxOf CX0 P w K mg base N qual (Zh st) f cdv A outer s H E).nox (ZL st) t/\t {nx:=fun _ H'=>Q .non H',rt:=Q} (start N vs) H):FnOk P w K mg base CX0 (k+1) f fd ps sp:=by
 obtain⟨oc,od,kV,doc,pm,an,cdv,ct,osl,rfl,lk,hcd⟩:=F.ex
 refine fn_of lk hcd S len fun A outer s H vs Q E hr hsp=>?_
 obtain⟨t,h,q⟩:=hbody cdv A outer s H vs Q E hr hsp
 exact⟨t,h.nox,q⟩
theorem Fun.binds{x qual:Str}{st:Stmt}{f:Addr}{fd:FuncData}{ps:List Str}(F:Fun K x qual st f fd)
  (h:∀(kV doc pm:Value)(an:Option Addr)(cdv ct:Value)(us:List Value),us.length=ps.length->bindArgs (PySem.W.fnOf x qual (ZO st) (ZL st) (Zh st) .none kV doc pm an cdv ct) ⟨us,[]⟩=pure (ps.zip us)):Binds K fd ps []:=by
 obtain⟨oc,od,kV,doc,pm,an,cdv,ct,osl,rfl,lk,hcd⟩:=F.ex
 exact .all (h kV doc pm an cdv ct)
theorem Z1{x qual:Str}{st:Stmt}{f:Addr}{oc:Value}{od an:Option Addr}{osl:Array (Option Value)}{kV doc pm cdv ct:Value}(l:K.lookup f=some ⟨oc,od,.func (PySem.W.fnOf x qual (ZO st) (ZL st) (Zh st) .none kV doc pm an cdv ct),osl⟩)
  (c:PySem.W.codeIn K cdv qual=true) (k:PySem.W.keepIn K (.ref f)=true):Fun K x qual st f (PySem.W.fnOf x qual (ZO st) (ZL st) (Zh st) .none kV doc pm an cdv ct):=⟨⟨oc,od,kV,doc,pm,an,cdv,ct,osl,rfl,l,c⟩,k⟩
end
theorem hu_of{A:Around}{k:Nat}(hr:Room k A):A.units+1<cLine:=Z3 (Nat.add_le_add_left (by decide:1<=64) _) hr.units
section
variable{X:Cx}
theorem pv(i:Nat){x:Str}{pos:Pos}(hN:X.N[i]?=some x:=by rfl)(hv:Vis X.env.scope x:=by first|exact Or.inl rfl|exact Or.inr (Or.inl rfl)|exact Or.inr (Or.inr rfl))(hd:(x==("__debug__":Str))=false:=by decide)
  (hcd:(x==("__classdict__":Str))=false:=by decide):PE X (.Name x pos) (tVar i):=pe_var hN hv hd hcd
end
theorem iteF{A B:Prop}(h:B):if false=true then A else B:=by
 rw[if_neg ZM]
 exact h
theorem iteT{A B:Prop}(h:A):if true=true then A else B:=by
 rw[if_pos rfl]
 exact h
theorem ite2{c A B:Prop}[Decidable c](h1:c->A)(h2:¬c->B):if c then A else B:=by
 by_cases h:c
 ·rw[if_pos h]
  exact h1 h
 ·rw[if_neg h]
  exact h2 h
noncomputable def Same(H H':Hp):Prop:=∀b o,H b=some o->H' b=some o
theorem Same.refl(H:Hp):Same H H:=fun _ _ h=>h
theorem Same.trans{H H1 H2:Hp}(a:Same H H1)(b:Same H1 H2):Same H H2:=fun c o h=>b c o (a c o h)
theorem Same.free{H H':Hp}(e:Same H H'){l:Addr}(h:H' l=Option.none):H l=Option.none:=by
 cases q:H l with
 |none=>rfl
 |some o=>
  rw[e l o q]at h
  cases h
theorem Same.seq{K:PySem.W.Frag}{H H':Hp}{a:Addr}{xs:List V}(e:Same H H')(h:SqL K H a xs):SqL K H' a xs:=by
 rcases h with(h|⟨o,h⟩)|h
 ·exact .inl (.inl (e _ _ h))
 ·exact .inl (.inr ⟨o,e _ _ h⟩)
 ·exact .inr h
section
variable{κ:Type}[DecidableEq κ]
theorem Nc:∀{l:List κ}{k:κ},l.Nodup->¬k∈l->(l++[k]).Nodup
 |[],k,_,_=>by simp
 |a::r,k,h,hk=>by
  obtain⟨h1,h2⟩:=YB.mp h
  show(a::(r++[k])).Nodup
  refine YB.mpr ⟨fun m=>?_,Nc h2 fun m=>hk (Zw.mpr (Or.inr m))⟩
  rcases Zs.mp m with q|q
  ·exact h1 q
  ·exact hk (Zw.mpr (Or.inl (ZI.mp q).symm))
theorem OD{p:κ×V}{r:List (κ×V)}{k:κ}(e:p.1=k):W7 (p::r) k=W7 r k:=by
 unfold W7
 rw[List.filter_cons,if_neg (by simp[e])]
theorem OE{p:κ×V}{r:List (κ×V)}{k:κ}(e:¬p.1=k):W7 (p::r) k=p::W7 r k:=by
 unfold W7
 rw[List.filter_cons,if_pos (by simp[e])]
end
theorem Xu{xs:List V}{z:Int}{j:Nat}{v:V}(e:z=(j:Int))(h:xs[j]?=some v):atI xs z=some v:=by
 rw[e]
 exact atI_nat h
theorem nd_ix{α:Type}{l:List α}(hN:l.Nodup){i j:Nat}{x:α}(a:l[i]?=some x)(b:l[j]?=some x):i=j:=by
 obtain⟨h1,e1⟩:=Zd.mp a
 obtain⟨h2,e2⟩:=Zd.mp b
 exact(List.getElem_inj hN).mp (e1.trans e2.symm)
theorem Same.made{H H1:Hp}{x dx C:Addr}(nx:H x=Option.none)(nd:H dx=Option.none)(k:∀b o,(upd (upd H dx (.own x)) x (.ins C dx [])) b=some o->b≠x->H1 b=some o):Same H H1:=fun b o e=>
 k b o (by rw[Zt (ZD e nx),Zt (ZD e nd)];exact e) (ZD e nx)
end L2
end
section
section
namespace L2
open PySem PySem.Spec PyProof.Rows
open PySem.W (WData Codec OpenSpec Well WellAll ReadsW ReadsAllW)
mutual
inductive Dw(K:PySem.W.Frag)(H:Hp):V->WData->Prop
 |non:Dw K H .non .none
 |bl (b:Bool):Dw K H (.bl b) (.bool b)
 |int (i:Int):Dw K H (.int i) (.int i)
 |str (x:Str):Dw K H (.str x) (.str x)
 |byt (b:Array UInt8):Dw K H (.byt b) (.bytes b.toList)
 |lst {a:Addr} {xs:List V} {ds:List WData}:SqL K H a xs->UK K H xs ds->Dw K H (.ref a) (.list ds)
 |tup {a:Addr} {xs:List V} {ds:List WData}:SqT K H a xs->UK K H xs ds->Dw K H (.ref a) (.tuple ds)
inductive UK(K:PySem.W.Frag)(H:Hp):List V->List WData->Prop
 |nil:UK K H [] []
 |cons {v:V} {vs:List V} {d:WData} {ds:List WData}:Dw K H v d->UK K H vs ds->UK K H (v::vs) (d::ds)
end
theorem dw_ints{K:PySem.W.Frag}{H:Hp}:∀ns:List Int,UK K H (ns.map V.int) (ns.map WData.int)
 |[]=>.nil
 |n::r=>.cons (.int n) (dw_ints r)
theorem ints_dw{K:PySem.W.Frag}{H:Hp}:∀(ns:List Int)(xs:List V),UK K H xs (ns.map WData.int)->xs=ns.map V.int
 |[],xs,h=>by
  cases h
  rfl
 |n::r,xs,h=>by
  cases h with
  |cons h1 h2=>
   cases h1
   rw[ints_dw r _ h2]<;>rfl
section
variable{P:Program}{w:World}{K:PySem.W.Frag}{H:Hp}{h:Heap}{R:PySem.W.WRecords}{cl:Str->Option Addr}
theorem sqL_at{a:Addr}{xs:List V}(hok:HOk P w H h)(KX:K.In h)(q:SqL K H a xs):∃(its:List Value)(o:Obj)(n:Nat),Vals xs its/\h.get? a=some o/\o.cls=.type "list"/\o.data=.seq its.toArray n:=by
 rcases q with q|⟨o,its,n,e,hc,_,hd,_,hv⟩
 ·obtain⟨_,its,n,hv,e⟩:=(show Wu P w H h a (.lst xs)from q.ok hok)
  exact⟨its,_,n,hv,e,rfl,rfl⟩
 ·exact⟨its.toList,o,n,hv,KX _ _ e,hc,by simp[hd]⟩
theorem sqT_at{a:Addr}{xs:List V}(hok:HOk P w H h)(KX:K.In h)(q:SqT K H a xs):∃(its:List Value)(o:Obj)(n:Nat),Vals xs its/\h.get? a=some o/\o.cls=.type "tuple"/\o.data=.seq its.toArray n:=by
 rcases q with q|⟨o,its,n,e,hc,hd,_,hv⟩
 ·obtain⟨_,its,hv,o,e,hc,n,hd⟩:=(show Wu P w H h a (.tup xs)from q.ok hok)
  exact⟨its,o,n,hv,e,hc,hd⟩
 ·exact⟨its.toList,o,n,hv,KX _ _ e,hc,by simp[hd]⟩
mutual
theorem Dw.reads(hok:HOk P w H h)(KX:K.In h):∀(d:WData)(v:V)(u:Value),Dw K H v d->RelV v u->∃as,ReadsW R cl h u d as
 | .none,_,_,x,r=>by
  cases x
  cases r
  exact⟨_,ReadsW.none⟩
 | .bool b,_,_,x,r=>by
  cases x
  cases r
  exact⟨_,ReadsW.bool b⟩
 | .int i,_,_,x,r=>by
  cases x
  obtain⟨t,rfl⟩:=r
  exact⟨_,ReadsW.int i t⟩
 | .str s,_,_,x,r=>by
  cases x
  obtain⟨t,rfl⟩:=r
  exact⟨_,ReadsW.str s t⟩
 | .bytes b,_,_,x,r=>by
  cases x
  obtain⟨t,rfl⟩:=r
  exact⟨_,ReadsW.bytes _ t⟩
 | .list ds,_,_,x,r=>by
  cases x with
  |lst hs ha=>
   cases r
   obtain⟨its,o,n,rv,ho,hc,hd⟩:=sqL_at hok KX hs
   obtain⟨as,hr⟩:=Dw.readsAll hok KX ds _ its ha rv
   exact⟨_,ReadsW.list ho hc hd hr⟩
 | .tuple ds,_,_,x,r=>by
  cases x with
  |tup hs ha=>
   cases r
   obtain⟨its,o,n,rv,ho,hc,hd⟩:=sqT_at hok KX hs
   obtain⟨as,hr⟩:=Dw.readsAll hok KX ds _ its ha rv
   exact⟨_,ReadsW.tuple ho hc hd hr⟩
 | .float _,_,_,x,_=>by cases x
 | .dict _,_,_,x,_=>by cases x
 | .bytearray _,_,_,x,_=>by cases x
 | .set _,_,_,x,_=>by cases x
 | .frozenset _,_,_,x,_=>by cases x
 | .obj _ _,_,_,x,_=>by cases x
theorem Dw.readsAll(hok:HOk P w H h)(KX:K.In h):∀(ds:List WData)(vs:List V)(us:List Value),UK K H vs ds->Vals vs us->∃as,ReadsAllW R cl h us ds as
 |[],_,_,x,r=>by
  cases x
  cases r
  exact⟨_,ReadsAllW.nil⟩
 |d::ds,_,_,x,r=>by
  cases x with
  |cons h1 h2=>
   cases r with
   |cons r1 r2=>
    obtain⟨as,q1⟩:=Dw.reads hok KX d _ _ h1 r1
    obtain⟨bs,q2⟩:=Dw.readsAll hok KX ds _ _ h2 r2
    exact⟨_,ReadsAllW.cons q1 q2⟩
end
end
mutual
noncomputable def plW:WData->Bool
 | .none=>true
 | .bool _=>true
 | .int _=>true
 | .str _=>true
 | .bytes _=>true
 | .list xs=>plWs xs
 | .tuple xs=>plWs xs
 |_=>false
noncomputable def plWs:List WData->Bool
 |[]=>true
 |x::r=>plW x&&plWs r
end
theorem NQ{α:Type}{f:α->WData}(h:∀a,plW (f a)=true):∀l:List α,plWs (l.map f)=true
 |[]=>rfl
 |x::r=>by
  show(plW (f x)&&plWs (r.map f))=true
  rw[h x,NQ h r]<;>rfl
theorem UT:∀(c:Codec)(a:c.denote),plW (c.enc a)=true
 | .unit,_=>rfl
 | .bool,_=>rfl
 | .int _ _,_=>rfl
 | .nat _ _,_=>rfl
 | .u8,_=>rfl
 | .bytes _ _,_=>rfl
 | .text _ _ _ _,_=>rfl
 | .list _ _ c,a=>NQ (fun x=>UT c x) a
 | .pair c d,a=>by
  show(plW (c.enc a.1)&&(plW (d.enc a.2)&&true))=true
  rw[UT c a.1,UT d a.2]<;>rfl
 | .triple c d e,a=>by
  show(plW (c.enc a.1)&&(plW (d.enc a.2.1)&&(plW (e.enc a.2.2)&&true)))=true
  rw[UT c a.1,UT d a.2.1,UT e a.2.2]<;>rfl
 | .option c,none=>rfl
 | .option c,some x=>UT c x
theorem Of:∀(cs:List Codec)(a:Codec.denoteAll cs),plWs (Codec.encAll cs a)=true
 |[],_=>rfl
 |c::cs,a=>by
  show(plW (c.enc a.1)&&plWs (Codec.encAll cs a.2))=true
  rw[UT c a.1,Of cs a.2]<;>rfl
theorem TU:∀{xs:List WData}{d:WData},d∈xs->d.weight<=WData.weightAll xs
 |[],d,h=>absurd h (by simp)
 |x::r,d,h=>by
  show d.weight<=x.weight+1+WData.weightAll r
  rcases Zw.mp h with e|m
  ·rw[e]
   omega
  ·have z:=TU m
   omega
noncomputable def toV:Value->V
 | .none=>.non
 | .bool b=>.bl b
 | .int i _=>.int i
 | .str x _=>.str x
 | .bytes b _=>.byt b
 | .ref a=>.ref a
 |_=>.non
noncomputable def OkU(A:List Addr):Value->Prop
 | .none=>True
 | .bool _=>True
 | .int _ _=>True
 | .str _ _=>True
 | .bytes _ _=>True
 | .ref a=>a∈A
 |_=>False
theorem OkU.mono{A B:List Addr}(h:∀a∈A,a∈B):∀{u:Value},OkU A u->OkU B u:=fun{u} x=>by
 cases u with
 |ref a=>exact h a x
 |none=>trivial
 |bool b=>trivial
 |int i t=>trivial
 |str s t=>trivial
 |bytes b t=>trivial
 |_=>exact False.elim x
theorem relV_toV{A:List Addr}{u:Value}(x:OkU A u):RelV (toV u) u:=by
 cases u with
 |ref a=>rfl
 |none=>rfl
 |bool b=>rfl
 |int i t=>exact⟨t,rfl⟩
 |str s t=>exact⟨t,rfl⟩
 |bytes b t=>exact⟨t,rfl⟩
 |_=>exact False.elim x
theorem Uh{A:List Addr}:∀{vs:List Value},(∀u∈vs,OkU A u)->Vals (vs.map toV) vs
 |[],_=>.nil
 |u::r,h=>.cons (relV_toV (h u (Zm ..))) (Uh fun x hx=>h x (Ze _ hx))
noncomputable def Tc(h:Heap)(A:List Addr)(a:Addr):Prop:=∃vs:List Value,vs.length<=sizeLine/\(∀u∈vs,OkU A u)/\
 (h.get? a=some {cls:=.type "list",data:=.seq vs.toArray}\/h.get? a=some {cls:=.type "tuple",data:=.seq vs.toArray})
theorem Tc.mono{h:Heap}{A B:List Addr}{a:Addr}(k:∀a∈A,a∈B)(x:Tc h A a):Tc h B a:=by
 obtain⟨vs,h1,h2,h3⟩:=x
 exact⟨vs,h1,fun u hu=>(h2 u hu).mono k,h3⟩
theorem V6{P:Params}{h:Heap}:∀{vs:List Value}{ds:List WData},WellAll P h vs ds->vs.length=ds.length
 |_,_,.nil=>rfl
 |_,_,.cons _ b=>by
  show _+1=_+1
  rw[V6 b]
theorem Pg{P:Params}{h:Heap}{v:Value}{ds:List WData}(x:Well P h v (.list ds)):∃(a:Addr)(vs:List Value),v=.ref a/\h.get? a=some {cls:=.type "list",data:=.seq vs.toArray}/\WellAll P h vs ds:=by
 cases x with
 |list ho hall=>exact⟨_,_,rfl,ho,hall⟩
theorem R5{P:Params}{h:Heap}{v:Value}{ds:List WData}(x:Well P h v (.tuple ds)):∃(a:Addr)(vs:List Value),v=.ref a/\h.get? a=some {cls:=.type "tuple",data:=.seq vs.toArray}/\WellAll P h vs ds:=by
 cases x with
 |tuple ho hall=>exact⟨_,_,rfl,ho,hall⟩
theorem Ph{P:Params}{h:Heap}{us:List Value}{d:WData}{ds:List WData}(x:WellAll P h us (d::ds)):∃(v:Value)(vs:List Value),us=v::vs/\Well P h v d/\WellAll P h vs ds:=by
 cases x with
 |cons a b=>exact⟨_,_,rfl,a,b⟩
theorem LK{n:Nat}(h:n<=1048576):n<=sizeLine:=Zi h (by decide)
section
variable{P:Params}{h:Heap}
mutual
theorem area_one:∀(d:WData)(v:Value),Well P h v d->plW d=true->d.weight<=1048576->∃A:List Addr,OkU A v/\∀a∈A,Tc h A a
 | .none,_,x,_,_=>by
  cases x
  exact⟨[],trivial,fun a m=>absurd m (by simp)⟩
 | .bool b,_,x,_,_=>by
  cases x
  exact⟨[],trivial,fun a m=>absurd m (by simp)⟩
 | .int i,_,x,_,_=>by
  cases x
  exact⟨[],trivial,fun a m=>absurd m (by simp)⟩
 | .str s,_,x,_,_=>by
  cases x
  exact⟨[],trivial,fun a m=>absurd m (by simp)⟩
 | .bytes b,_,x,_,_=>by
  cases x
  exact⟨[],trivial,fun a m=>absurd m (by simp)⟩
 | .list ds,_,x,p,z=>by
  obtain⟨a,vs,rfl,ho,hall⟩:=Pg x
  have z2:WData.weightAll ds<=1048576:=z
  obtain⟨A,h1,h2⟩:=SD ds _ hall p fun d hd=>Zi (TU hd) z2
  have k:∀b∈A,b∈a::A:=fun b hb=>Ze _ hb
  refine⟨a::A,Zm ..,fun b hb=>?_⟩
  rcases Zw.mp hb with e|m
  ·rw[e]
   exact⟨vs,LK (by rw[V6 hall];exact Zi (PySem.W.length_le_weightAllW ds) z2),fun u hu=>(h1 u hu).mono k,.inl ho⟩
  ·exact(h2 b m).mono k
 | .tuple ds,_,x,p,z=>by
  obtain⟨a,vs,rfl,ho,hall⟩:=R5 x
  have z2:WData.weightAll ds<=1048576:=z
  obtain⟨A,h1,h2⟩:=SD ds _ hall p fun d hd=>Zi (TU hd) z2
  have k:∀b∈A,b∈a::A:=fun b hb=>Ze _ hb
  refine⟨a::A,Zm ..,fun b hb=>?_⟩
  rcases Zw.mp hb with e|m
  ·rw[e]
   exact⟨vs,LK (by rw[V6 hall];exact Zi (PySem.W.length_le_weightAllW ds) z2),fun u hu=>(h1 u hu).mono k,.inr ho⟩
  ·exact(h2 b m).mono k
 | .float _,_,_,p,_=>Bool.noConfusion (show false=true from p)
 | .dict _,_,_,p,_=>Bool.noConfusion (show false=true from p)
 | .bytearray _,_,_,p,_=>Bool.noConfusion (show false=true from p)
 | .set _,_,_,p,_=>Bool.noConfusion (show false=true from p)
 | .frozenset _,_,_,p,_=>Bool.noConfusion (show false=true from p)
 | .obj _ _,_,_,p,_=>Bool.noConfusion (show false=true from p)
theorem SD:∀(ds:List WData)(vs:List Value),WellAll P h vs ds->plWs ds=true->(∀d∈ds,d.weight<=1048576)->∃A:List Addr,(∀u∈vs,OkU A u)/\∀a∈A,Tc h A a
 |[],_,x,_,_=>by
  cases x
  exact⟨[],fun u m=>absurd m (by simp),fun a m=>absurd m (by simp)⟩
 |d::ds,_,x,p,z=>by
  obtain⟨v,vs,rfl,x1,x2⟩:=Ph x
  have q:plW d=true/\plWs ds=true:=Bool.and_eq_true_iff.mp p
  obtain⟨A,a1,a2⟩:=area_one d v x1 q.1 (z d (Zm ..))
  obtain⟨B,b1,b2⟩:=SD ds vs x2 q.2 fun e he=>z e (Ze _ he)
  have kA:∀b∈A,b∈A++B:=fun b hb=>Zs.mpr (.inl hb)
  have kB:∀b∈B,b∈A++B:=fun b hb=>Zs.mpr (.inr hb)
  refine⟨A++B,fun u hu=>?_,fun b hb=>?_⟩
  ·rcases Zw.mp hu with e|m
   ·rw[e]
    exact a1.mono kA
   ·exact(b1 u m).mono kB
  ·rcases Zs.mp hb with m|m
   ·exact(a2 b m).mono kA
   ·exact(b2 b m).mono kB
end
end
noncomputable def hoOf(o:Obj):Option HO:=match o.data with
 | .seq vs _=>if(o.cls==Value.type "list")=true then some (.frz o (.lst (vs.toList.map toV)))else some (.frz o (.tup (vs.toList.map toV)))
 |_=>none
noncomputable def argH(K:PySem.W.Frag)(h:Heap)(A:List Addr):Hp:=fun b=>if b∈A then(if(K.lookup b).isNone=true then(h.get? b).bind hoOf else none)else none
noncomputable def Mr(H:Hp):Prop:=∀b,H b=none\/∃o u,H b=some (.frz o u)
theorem N6(vs:List Value):hoOf {cls:=.type "list",data:=.seq vs.toArray}=some (.frz {cls:=.type "list",data:=.seq vs.toArray} (.lst (vs.map toV))):=by
 show(if(Value.type "list"==Value.type "list")=true then some (HO.frz {cls:=.type "list",data:=.seq vs.toArray} (.lst (vs.toArray.toList.map toV)))else some (HO.frz {cls:=.type "list",data:=.seq vs.toArray} (.tup (vs.toArray.toList.map toV))))=_
 rw[if_pos (beq_self_eq_true _)]
theorem N5(vs:List Value):hoOf {cls:=.type "tuple",data:=.seq vs.toArray}=some (.frz {cls:=.type "tuple",data:=.seq vs.toArray} (.tup (vs.map toV))):=by
 show(if(Value.type "tuple"==Value.type "list")=true then some (HO.frz {cls:=.type "tuple",data:=.seq vs.toArray} (.lst (vs.toArray.toList.map toV)))else some (HO.frz {cls:=.type "tuple",data:=.seq vs.toArray} (.tup (vs.toArray.toList.map toV))))=_
 rw[if_neg (by decide)]
section
variable{P:Program}{w:World}{K:PySem.W.Frag}{h:Heap}{A:List Addr}
theorem R3{b:Addr}{o:Obj}(hb:b∈A)(hk:K.lookup b=none)(e:h.get? b=some o):argH K h A b=hoOf o:=by
 unfold argH
 rw[if_pos hb,hk,if_pos (show(none:Option Obj).isNone=true from rfl),e]<;>rfl
theorem of_argH{b:Addr}{u:HO}(q:argH K h A b=some u):b∈A/\K.lookup b=none:=by
 unfold argH at q
 by_cases hb:b∈A
 ·rw[if_pos hb]at q
  cases hk:K.lookup b with
  |none=>exact⟨hb,rfl⟩
  |some o=>
   rw[hk,if_neg (by simp)]at q
   cases q
 ·rw[if_neg hb]at q
  cases q
theorem R0(ar:∀a∈A,Tc h A a){b:Addr}{u:HO}(q:argH K h A b=some u):K.lookup b=none/\∃vs:List Value,vs.length<=sizeLine/\(∀u∈vs,OkU A u)/\
  ((h.get? b=some {cls:=.type "list",data:=.seq vs.toArray}/\u=.frz {cls:=.type "list",data:=.seq vs.toArray} (.lst (vs.map toV)))\/
   (h.get? b=some {cls:=.type "tuple",data:=.seq vs.toArray}/\u=.frz {cls:=.type "tuple",data:=.seq vs.toArray} (.tup (vs.map toV)))):=by
 obtain⟨hb,hk⟩:=of_argH q
 obtain⟨vs,h1,h2,h3⟩:=ar b hb
 refine⟨hk,vs,h1,h2,?_⟩
 rcases h3 with e|e
 ·rw[R3 hb hk e,N6]at q
  exact .inl ⟨e,(ZC q).symm⟩
 ·rw[R3 hb hk e,N5]at q
  exact .inr ⟨e,(ZC q).symm⟩
theorem K0(ar:∀a∈A,Tc h A a):Mr (argH K h A):=fun b=>by
 cases q:argH K h A b with
 |none=>exact .inl rfl
 |some u=>
  obtain⟨_,vs,_,_,⟨_,e⟩|⟨_,e⟩⟩:=R0 ar q
  ·exact .inr ⟨_,_,by rw[e]⟩
  ·exact .inr ⟨_,_,by rw[e]⟩
theorem argH_ok(ar:∀a∈A,Tc h A a):HOk P w (argH K h A) h:=fun b u q=>by
 obtain⟨_,vs,h1,h2,⟨e,rfl⟩|⟨e,rfl⟩⟩:=R0 ar q
 ·exact⟨e,by rw[Za];exact h1,vs,_,Uh h2,e⟩
 ·exact⟨e,by rw[Za];exact h1,vs,Uh h2,_,e,rfl,_,rfl⟩
theorem RV{c c':Value}{vs us:List Value}(e:(some {cls:=c,data:=.seq vs.toArray}:Option Obj)=some {cls:=c',data:=.seq us.toArray}):c=c'/\vs=us:=by
 have e1:=ZC e
 have e2:c=c':=congrArg Obj.cls e1
 have e3:Data.seq vs.toArray=Data.seq us.toArray:=congrArg Obj.data e1
 injection e3 with e4
 refine⟨e2,?_⟩
 have e5:=congrArg Array.toList e4
 simpa using e5
theorem argL(KX:K.In h)(ar:∀a∈A,Tc h A a){a:Addr}{vs:List Value}(ha:a∈A)(e:h.get? a=some {cls:=.type "list",data:=.seq vs.toArray}):(∀u∈vs,OkU A u)/\SqL K (argH K h A) a (vs.map toV):=by
 obtain⟨us,h1,h2,h3⟩:=ar a ha
 have hu:us=vs:=by
  rcases h3 with q|q
  ·rw[e]at q
   exact(RV q).2.symm
  ·rw[e]at q
   exact absurd (Value.type.inj (RV q).1) (by decide)
 subst hu
 refine⟨h2,?_⟩
 cases hk:K.lookup a with
 |none=>exact .inl (.inr ⟨_,by rw[R3 ha hk e,N6]⟩)
 |some o=>
  have e2:=KX a o hk
  rw[e]at e2
  obtain rfl:=ZC e2
  exact .inr ⟨_,us.toArray,_,hk,rfl,rfl,rfl,by rw[ZH];exact h1,by simpa using Uh h2⟩
theorem argT(KX:K.In h)(ar:∀a∈A,Tc h A a){a:Addr}{vs:List Value}(ha:a∈A)(e:h.get? a=some {cls:=.type "tuple",data:=.seq vs.toArray}):(∀u∈vs,OkU A u)/\SqT K (argH K h A) a (vs.map toV):=by
 obtain⟨us,h1,h2,h3⟩:=ar a ha
 have hu:us=vs:=by
  rcases h3 with q|q
  ·rw[e]at q
   exact absurd (Value.type.inj (RV q).1) (by decide)
  ·rw[e]at q
   exact(RV q).2.symm
 subst hu
 refine⟨h2,?_⟩
 cases hk:K.lookup a with
 |none=>exact .inl (.inr ⟨_,by rw[R3 ha hk e,N5]⟩)
 |some o=>
  have e2:=KX a o hk
  rw[e]at e2
  obtain rfl:=ZC e2
  exact .inr ⟨_,us.toArray,_,hk,rfl,rfl,by rw[ZH];exact h1,by simpa using Uh h2⟩
mutual
theorem dw_one{Pm:Params}(KX:K.In h)(ar:∀a∈A,Tc h A a):∀(d:WData)(v:Value),Well Pm h v d->plW d=true->OkU A v->Dw K (argH K h A) (toV v) d
 | .none,_,x,_,_=>by
  cases x
  exact .non
 | .bool b,_,x,_,_=>by
  cases x
  exact .bl b
 | .int i,_,x,_,_=>by
  cases x
  exact .int i
 | .str s,_,x,_,_=>by
  cases x
  exact .str s
 | .bytes b,_,x,_,_=>by
  cases x
  have z:=Dw.byt (K:=K) (H:=argH K h A) b.toArray
  exact z
 | .list ds,_,x,p,hu=>by
  obtain⟨a,vs,rfl,ho,hall⟩:=Pg x
  obtain⟨h2,hs⟩:=argL KX ar hu ho
  exact .lst hs (Nk KX ar ds _ hall p h2)
 | .tuple ds,_,x,p,hu=>by
  obtain⟨a,vs,rfl,ho,hall⟩:=R5 x
  obtain⟨h2,hs⟩:=argT KX ar hu ho
  exact .tup hs (Nk KX ar ds _ hall p h2)
 | .float _,_,_,p,_=>Bool.noConfusion (show false=true from p)
 | .dict _,_,_,p,_=>Bool.noConfusion (show false=true from p)
 | .bytearray _,_,_,p,_=>Bool.noConfusion (show false=true from p)
 | .set _,_,_,p,_=>Bool.noConfusion (show false=true from p)
 | .frozenset _,_,_,p,_=>Bool.noConfusion (show false=true from p)
 | .obj _ _,_,_,p,_=>Bool.noConfusion (show false=true from p)
theorem Nk{Pm:Params}(KX:K.In h)(ar:∀a∈A,Tc h A a):∀(ds:List WData)(vs:List Value),WellAll Pm h vs ds->plWs ds=true->(∀u∈vs,OkU A u)->UK K (argH K h A) (vs.map toV) ds
 |[],_,x,_,_=>by
  cases x
  exact .nil
 |d::ds,_,x,p,hu=>by
  obtain⟨v,vs,rfl,x1,x2⟩:=Ph x
  have q:plW d=true/\plWs ds=true:=Bool.and_eq_true_iff.mp p
  exact .cons (dw_one KX ar d v x1 q.1 (hu _ (Zm ..))) (Nk KX ar ds vs x2 q.2 fun u m=>hu u (Ze _ m))
end
end
theorem Kb{P:Program}{w:World}{K:PySem.W.Frag}{mg mb:Str->Option Value}{CX:CXT}{k:Nat}{fa:Addr}{fd:FuncData}{ps:List Str}{sp:Sp}{s₁:Shared}{vals:List Value}{ds:List WData}{R:PySem.W.WRecords}{cl:Str->Option Addr}{d0:WData}
  (KX:K.In s₁.heap) (hns:s₁.heap.Ns mainGlobals mg) (hb:s₁.heap.Ns builtinsNs mb) (hbb:∀x:Str,x≠"__name__"->mb x=bootBuiltins x) (hlim:s₁.heap.NoLimit) (hg:s₁.gens=#[])
  (hwl:WellAll w.params s₁.heap vals ds) (hpl:plWs ds=true) (hwt:∀d∈ds,d.weight<=1048576) (hr:Room k callerA)
  (F:∀base:Heap,K.In base->base.Ns mainGlobals mg->FnOk P w K mg base CX k fa fd ps sp) (hbind:∀(s:Shared)(us:List Value),us.length=ps.length->BindsTo s fd ⟨us,[]⟩ (ps.zip us)) (hlen:ds.length=ps.length)
  (hsp:∀(H:Hp)(xs:List V),Mr H->UK K H xs ds->sp xs H (fun v H'=>Dw K H' v d0) fun _ _ _=>False)
  (hCX:∀H e s',CX [] H s₁ (fun _ _ _=>False) e s'->False):
  codeAny (model P w) callerA (.call (.ref fa) ⟨vals,[]⟩) (fun r s'=>∃u as,r=.ok (.ret u)/\ReadsW R cl s'.heap u d0 as/\OldK s₁.heap s'.heap/\s'.os=s₁.os/\AllBare s'.gens) s₁:=by
 obtain⟨A,ho,ar⟩:=SD ds vals hwl hpl hwt
 have hO:Mr (argH K s₁.heap A):=K0 ar
 have hok:HOk P w (argH K s₁.heap A) s₁.heap:=argH_ok ar
 have hS:=Nk KX ar ds vals hwl hpl ho
 have hV:=Uh ho
 have hK:∀b u,argH K s₁.heap A b=some u->K.lookup b=none:=fun b u q=>(R0 ar q).1
 have noA:∀{b:Addr}{o:Obj}{es:Array DictEntry}{ep:Nat},s₁.heap.get? b=some o->o.data=.dict es ep->argH K s₁.heap A b=none:=fun{b o es ep} e d=>by
  cases q:argH K s₁.heap A b with
  |none=>rfl
  |some u=>
   obtain⟨_,vs,_,_,⟨e2,_⟩|⟨e2,_⟩⟩:=R0 ar q
   ·rw[e2]at e
    cases e
    have d':Data.seq vs.toArray _=Data.dict es ep:=d
    cases d'
   ·rw[e2]at e
    cases e
    have d':Data.seq vs.toArray _=Data.dict es ep:=d
    cases d'
 generalize argH K s₁.heap A=H at hO hok hS hK noA
 have base_of:∀{b:Addr}{o:Obj},s₁.heap.get? b=some o->H b=none->(hidT s₁.heap H).get? b=some o:=fun e n=>hidT_get e n
 have nsK:∀{b:Addr}{m:Str->Option Value},s₁.heap.Ns b m->(hidT s₁.heap H).Ns b m:=fun{b m} ⟨o,es,ep,e,d,r⟩=>⟨o,es,ep,base_of e (noA e d),d,r⟩
 have nK:∀b o,K.lookup b=some o->H b=none:=fun b o e=>by
  cases q:H b with
  |none=>rfl
  |some u=>
   rw[hK b u q]at e
   cases e
 have hKb:K.In (hidT s₁.heap H):=fun b o e=>base_of (KX b o e) (nK b o e)
 have hM:Mod K mg (hidT s₁.heap H):=⟨hKb,nsK hns,⟨mb,nsK hb,hbb⟩,let⟨mc,h1,h2⟩:=hlim;⟨mc,nsK h1,h2⟩⟩
 have e0:Env0 P w K mg (hidT s₁.heap H) callerA [] s₁ H:=⟨rfl,hM,fun b o e=>of_hidT e,Nat.le_of_eq (KG _ _),trivial,fun b hb=>absurd (show b∈([]:List Addr)from hb) (by simp),hok,.of_eq hg⟩
 have hl:vals.length=ps.length:=by rw[V6 hwl];exact hlen
 refine codeAny_mono ((F _ hKb (nsK hns)).run callerA [] s₁ H ⟨vals,[]⟩ vals (vals.map toV) _ _ hr e0 (hbind s₁ vals hl) hV (hsp H _ hO hS)) fun r s' x=>?_
 cases r with
 |error e=>exact(hCX H e s' x).elim
 |ok fl=>
  cases fl with
  |next=>exact False.elim x
  |brk=>exact False.elim x
  |cont=>exact False.elim x
  |ret u=>
   obtain⟨v,H',os,bare,un,hok',r',q⟩:=x
   have kept:∀b o,s₁.heap.get? b=some o->s'.heap.get? b=some o:=fun b o e=>by
    cases q2:H b with
    |none=>exact un.keep b o e q2 (by intro z;exact absurd (show b∈([]:List Addr)from z) (by simp)) (by simp)
    |some u2=>
     rcases hO b with z|⟨ob,u3,z⟩
     ·rw[q2]at z
      cases z
     ·have z2:=un.frzs b ob _ z
      obtain⟨e1,_⟩:=hok b _ z
      obtain⟨e2,_⟩:=hok' b _ z2
      rw[e]at e1
      cases e1
      exact e2
   have KX':K.In s'.heap:=fun b o e=>kept b o (KX b o e)
   obtain⟨as,hrd⟩:=Dw.reads (R:=R) (cl:=cl) hok' KX' d0 v u q r'
   exact⟨u,as,rfl,hrd,OldK.of_keep kept,os,bare⟩
theorem QH{ds:List WData}(h:WData.layableAll ds=true):∀d∈ds,d.weight<=1048576:=fun d hd=>
 (PySem.W.layableW_iff.mp (Xd.mp h d hd)).2.2
theorem QW:∀(cs:List Codec)(a:Codec.denoteAll cs),(Codec.encAll cs a).length=cs.length
 |[],_=>rfl
 |c::cs,a=>by
  show(Codec.encAll cs a.2).length+1=cs.length+1
  rw[QW cs a.2]
theorem L4{r:OpenSpec}{k:Nat}{q:Program}{loose:List Str}{XP:(Str->Option Value)->Heap->Prop}{YP:World->Heap->Prop}{d:DefRec}{K:Params->PySem.W.Frag}{CX:World->CXT}{ps:List Str}{sp:World->Sp}
  (hwell:r.wellSaid=true) (hdf:d.params.defaults=[]) (hlen:r.args.length=ps.length) (hr:Room k callerA)
  (hY:∀(w:World)(h:Heap),YP w h->(K w.params).In h)
  (F:∀(w:World)(mg:Str->Option Value)(fa:Addr)(h:Heap),YP w h->(K w.params).In h->h.Ns mainGlobals mg->mg d.name=some (.ref fa)->
   ∃fd:FuncData,(∀(s:Shared)(us:List Value),us.length=ps.length->BindsTo s fd ⟨us,[]⟩ (ps.zip us))/\
    ∀base:Heap,(K w.params).In base->base.Ns mainGlobals mg->FnOk r.prog w (K w.params) mg base (CX w) k fa fd ps (sp w))
  (hsp:∀(w:World)(H:Hp)(xs:List V)(a:Codec.denoteAll r.args),Mr H->Codec.withinAll r.args a=true->Codec.app r.args r.asked a=true->UK (K w.params) H xs (Codec.encAll r.args a)->
   sp w xs H (fun v H'=>Dw (K w.params) H' v (r.ret.enc (Codec.app r.args r.f a))) fun _ _ _=>False)
  (hCX:∀(w:World)(H:Hp)(s:Shared)(e:Value)(s':Shared),CX w [] H s (fun _ _ _=>False) e s'->False):
  PySem.W.WalkOS q loose XP YP r d [] (fun f vs=>PySem.call f vs):=by
 intro w s_0 s₁ mg mb G Y fa o pm cd doc dV kV ho hd hcd hD hmg hg args vals as hpre hlay hrd hwl hlo
 obtain⟨a,e1,e2⟩:=PySem.W.os_pre_some hpre
 obtain⟨e3,hwi⟩:=Codec.encAll_of_decAll r.args args a e1
 subst e3
 have KX:=hY w _ Y
 obtain⟨fd,hb,hF⟩:=F w mg fa _ Y KX G.T.g hmg
 refine PySem.W.enter_call (codeAny_mono (Kb (R:=[]) (cl:=classAt s_0.heap) (d0:=r.ret.enc (Codec.app r.args r.f a)) KX G.T.g G.T.b G.T.builtins G.T.nolimit hg hwl (Of _ _) (QH hlay) hr hF hb (by rw[QW];exact hlen)
  (fun H xs hO hS=>hsp w H xs a hO hwi e2 hS) fun H e s'=>hCX w H s₁ e s') fun r' s' hq=>?_)
 obtain⟨u,as',rfl,h1,h2,h3,h4⟩:=hq
 exact⟨.inl ⟨u,_,as',rfl,fun _=>rfl,h1,(OpenSpec.post_iff hwell hwi _ _).mpr rfl,fun z=>Bool.noConfusion (show false=true from z)⟩,h2,h3,h4⟩
theorem walk_specK{r:OpenSpec}{k:Nat}{q:Program}{loose:List Str}{XP:(Str->Option Value)->Heap->Prop}{YP:World->Heap->Prop}{d:DefRec}{K:Params->PySem.W.Frag}{CX:CXT}{ps:List Str}{sp:PySem.W.Frag->Sp}
  (hwell:r.wellSaid=true) (hdf:d.params.defaults=[]) (hlen:r.args.length=ps.length) (hr:Room k callerA)
  (hY:∀(w:World)(h:Heap),YP w h->(K w.params).In h)
  (F:∀(w:World)(mg:Str->Option Value)(fa:Addr)(h:Heap),YP w h->(K w.params).In h->h.Ns mainGlobals mg->mg d.name=some (.ref fa)->
   ∃fd:FuncData,(∀(s:Shared)(us:List Value),us.length=ps.length->BindsTo s fd ⟨us,[]⟩ (ps.zip us))/\
    ∀base:Heap,(K w.params).In base->base.Ns mainGlobals mg->FnOk r.prog w (K w.params) mg base CX k fa fd ps (sp (K w.params)))
  (hsp:∀(K:PySem.W.Frag)(H:Hp)(xs:List V)(a:Codec.denoteAll r.args),Mr H->Codec.withinAll r.args a=true->Codec.app r.args r.asked a=true->UK K H xs (Codec.encAll r.args a)->
   sp K xs H (fun v H'=>Dw K H' v (r.ret.enc (Codec.app r.args r.f a))) fun _ _ _=>False)
  (hCX:∀(H:Hp)(s:Shared)(e:Value)(s':Shared),CX [] H s (fun _ _ _=>False) e s'->False):
  PySem.W.WalkOS q loose XP YP r d [] (fun f vs=>PySem.call f vs):=
 L4 (K:=K) (CX:=fun _=>CX) (sp:=fun w=>sp (K w.params)) hwell hdf hlen hr hY F (fun w H xs a h1 h2 h3 h4=>hsp (K w.params) H xs a h1 h2 h3 h4) fun _ H s e s'=>hCX H s e s'
end L2
end
end
section
namespace Ma
open Vamato
theorem WU(w h:Nat):cellsOf w (h+1)=cellsOf w h++(List.range w).map fun i=>(i,h):=by
 unfold cellsOf
 rw[YC,List.flatMap_append]
 simp
theorem YI(w:Nat):∀h,(cellsOf w h).length=h*w
 |0=>by simp[cellsOf]
 |h+1=>by rw[WU,Zj,YI w h];simp;rw[Nat.succ_mul]
theorem RJ{w i:Nat}(hi:i<w):∀{h j:Nat},j<h->(cellsOf w h)[j*w+i]?=some (i,j)
 |0,j,hj=>absurd hj (WN _)
 |h+1,j,hj=>by
  rw[WU]
  by_cases e:j=h
  ·subst e
   rw[XI (by rw[YI];omega),YI]
   simp[hi]
  ·have hj':j<h:=by omega
   have hlt:j*w+i<(cellsOf w h).length:=by
    rw[YI]
    have:(j+1)*w<=h*w:=Nat.mul_le_mul_right w hj'
    rw[Nat.succ_mul]at this
    omega
   rw[Xk hlt]
   exact RJ hi hj'
theorem Ua{w h:Nat}{c:Nat×Nat}:c∈cellsOf w h↔c.1<w/\c.2<h:=by
 unfold cellsOf
 obtain⟨i,j⟩:=c
 simp only[List.mem_flatMap,Ye,ZS,XU]
 constructor
 ·rintro⟨j',hj,i',hi,rfl,rfl⟩
  exact⟨hi,hj⟩
 ·rintro⟨hi,hj⟩
  exact⟨j,hj,i,hi,rfl,rfl⟩
theorem Ug(w h:Nat):(cellsOf w h).Nodup:=by
 induction h with
 |zero=>simp[cellsOf]
 |succ h ih=>
  rw[WU]
  refine Va.mpr ⟨ih,?_,?_⟩
  ·refine List.Pairwise.map _ (fun a b hab=>?_) (List.nodup_range (n:=w))
   intro e;exact hab (Prod.mk.inj e).1
  ·intro a ha b hb e
   subst e
   have h1:=(Ua.mp ha).2
   simp only[ZS,Ye]at hb
   obtain⟨i,_,e⟩:=hb
   subst e
   exact absurd h1 (YZ _)
theorem UD{w h i j:Nat}{f:Nat->Nat->Bool}(hi:i<w)(hj:j<h):(bitsOf w h f).getD (j*w+i) false=f i j:=by
 unfold bitsOf
 have e:=RJ hi hj
 simp[V4,e]
theorem WW{w h:Nat}{f g:Nat->Nat->Bool}(e:∀i j,i<w->j<h->f i j=g i j):bitsOf w h f=bitsOf w h g:=by
 unfold bitsOf
 congr 1
 refine Xh fun c hc=>?_
 have:=Ua.mp hc
 exact e _ _ this.1 this.2
theorem Lm{w h:Nat}{f g:Nat->Nat->Bool}(e:bitsOf w h f=bitsOf w h g){i j:Nat}(hi:i<w)(hj:j<h):f i j=g i j:=by
 rw[<-UD (f:=f) hi hj,e,UD hi hj]
theorem VW{g:Grid}{f:Nat->Nat->Bool}(e:g.bits=bitsOf g.width g.height f)(i j:Nat):g.painted i j=(decide (i<g.width)&&(decide (j<g.height)&&f i j)):=by
 unfold Grid.painted
 by_cases hi:i<g.width
 ·by_cases hj:j<g.height
  ·rw[e,UD hi hj]
  ·simp[hj]
 ·simp[hi]
theorem Wp(g:Grid)(f:Nat->Nat->Bool)(i j:Nat):(g.with f).painted i j=(decide (i<g.width)&&(decide (j<g.height)&&f i j)):=
 VW (g:=g.with f) rfl i j
noncomputable def Told(g:Grid):Prop:=g.bits=bitsOf g.width g.height g.painted
theorem RN{g:Grid}{f:Nat->Nat->Bool}(e:g.bits=bitsOf g.width g.height f):Told g:=by
 unfold Told
 rw[e]
 refine WW fun i j hi hj=>?_
 rw[VW e]
 simp[hi,hj]
theorem VN(g:Grid)(f:Nat->Nat->Bool):Told (g.with f):=RN (f:=f) rfl
noncomputable def Adj(corners:Bool)(a b:Nat×Nat):Prop:=
 (a.1=b.1/\(a.2=b.2+1\/b.2=a.2+1))\/(a.2=b.2/\(a.1=b.1+1\/b.1=a.1+1))\/
  (corners=true/\(a.1=b.1+1\/b.1=a.1+1)/\(a.2=b.2+1\/b.2=a.2+1))
theorem Adj.symm{corners:Bool}{a b:Nat×Nat}(h:Adj corners a b):Adj corners b a:=by
 rcases h with⟨a,b⟩|⟨a,b⟩|⟨a,b,c⟩
 ·exact .inl ⟨a.symm,b.symm⟩
 ·exact .inr (.inl ⟨a.symm,b.symm⟩)
 ·exact .inr (.inr ⟨a,b.symm,c.symm⟩)
theorem mA1{a b i j:Nat}:(a,b)∈(if 0<i then[(i-1,j)]else[])↔i=a+1/\b=j:=by
 cases i with
 |zero=>simp
 |succ n=>simp[eq_comm]
theorem mA2{a b i j:Nat}:(a,b)∈(if 0<j then[(i,j-1)]else[])↔a=i/\j=b+1:=by
 cases j with
 |zero=>simp
 |succ n=>simp[eq_comm]
theorem mA3{a b i j:Nat}:(a,b)∈(if 0<i/\0<j then[(i-1,j-1)]else[])↔i=a+1/\j=b+1:=by
 cases i with
 |zero=>simp
 |succ n=>cases j with
  |zero=>simp
  |succ m=>simp[eq_comm]
theorem MZ{corners:Bool}{i j:Nat}{d:Nat×Nat}:d∈around corners i j↔Adj corners d (i,j):=by
 obtain⟨a,b⟩:=d
 unfold around Adj
 cases corners with
 |false=>
  simp only[ZR,if_false,Zs,Zw,Xe,or_false,XU,mA1,mA2,false_and]
  constructor
  ·rintro((⟨rfl,rfl⟩|⟨rfl,rfl⟩)|(⟨rfl,rfl⟩|⟨rfl,rfl⟩))
   ·exact .inr ⟨rfl,.inl rfl⟩
   ·exact .inl ⟨rfl,.inl rfl⟩
   ·exact .inr ⟨rfl,.inr rfl⟩
   ·exact .inl ⟨rfl,.inr rfl⟩
  ·rintro(⟨rfl,(rfl|rfl)⟩|⟨rfl,(rfl|rfl)⟩)
   ·exact .inl (.inr ⟨rfl,rfl⟩)
   ·exact .inr (.inr ⟨rfl,rfl⟩)
   ·exact .inl (.inl ⟨rfl,rfl⟩)
   ·exact .inr (.inl ⟨rfl,rfl⟩)
 |true=>
  simp only[if_true,Zs,Zw,Xe,or_false,XU,mA1,mA2,mA3,true_and]
  constructor
  ·rintro(((⟨rfl,rfl⟩|⟨rfl,rfl⟩)|(⟨rfl,rfl⟩|⟨rfl,rfl⟩))|(⟨rfl,rfl⟩|(⟨rfl,rfl⟩|(⟨rfl,rfl⟩|⟨rfl,rfl⟩))))
   ·exact .inr (.inl ⟨rfl,.inl rfl⟩)
   ·exact .inl ⟨rfl,.inl rfl⟩
   ·exact .inr (.inl ⟨rfl,.inr rfl⟩)
   ·exact .inl ⟨rfl,.inr rfl⟩
   ·exact .inr (.inr ⟨.inl rfl,.inl rfl⟩)
   ·exact .inr (.inr ⟨.inr rfl,.inl rfl⟩)
   ·exact .inr (.inr ⟨.inl rfl,.inr rfl⟩)
   ·exact .inr (.inr ⟨.inr rfl,.inr rfl⟩)
  ·rintro(⟨rfl,(rfl|rfl)⟩|⟨rfl,(rfl|rfl)⟩|⟨(rfl|rfl),(rfl|rfl)⟩)
   ·exact .inl (.inl (.inr ⟨rfl,rfl⟩))
   ·exact .inl (.inr (.inr ⟨rfl,rfl⟩))
   ·exact .inl (.inl (.inl ⟨rfl,rfl⟩))
   ·exact .inl (.inr (.inl ⟨rfl,rfl⟩))
   ·exact .inr (.inl ⟨rfl,rfl⟩)
   ·exact .inr (.inr (.inr (.inl ⟨rfl,rfl⟩)))
   ·exact .inr (.inr (.inl ⟨rfl,rfl⟩))
   ·exact .inr (.inr (.inr (.inr ⟨rfl,rfl⟩)))
inductive Reach(w h:Nat)(corners:Bool)(allowed:Nat->Nat->Bool)(start:Nat×Nat->Prop):Nat×Nat->Prop
 |base {c}:start c->Reach w h corners allowed start c
 |step {c d}:Reach w h corners allowed start c->Adj corners c d->d.1<w->d.2<h->allowed d.1 d.2=true->Reach w h corners allowed start d
noncomputable def Rx(w h:Nat)(corners:Bool)(allowed P:Nat->Nat->Bool)(i j:Nat):Bool:=
 (decide (i<w)&&(decide (j<h)&&P i j))||(allowed i j&&(around corners i j).any fun c=>decide (c.1<w)&&(decide (c.2<h)&&P c.1 c.2))
theorem ND{w h n:Nat}{corners:Bool}{allowed P:Nat->Nat->Bool}:
  spread w h corners allowed (n+1) (bitsOf w h P)=if(bitsOf w h (Rx w h corners allowed P)==bitsOf w h P)=true then bitsOf w h P else spread w h corners allowed n (bitsOf w h (Rx w h corners allowed P)):=by
 have has:∀i j,(decide (i<w)&&(decide (j<h)&&(bitsOf w h P).getD (j*w+i) false))=(decide (i<w)&&(decide (j<h)&&P i j)):=by
  intro i j
  by_cases hi:i<w
  ·by_cases hj:j<h
   ·rw[UD hi hj]
   ·simp[hj]
  ·simp[hi]
 rw[spread]
 simp only[has]
 rfl
theorem UO{w h:Nat}{corners:Bool}{allowed P:Nat->Nat->Bool}{i j:Nat}(hi:i<w)(hj:j<h):
  Rx w h corners allowed P i j=true↔P i j=true\/(allowed i j=true/\∃c:Nat×Nat,Adj corners c (i,j)/\c.1<w/\c.2<h/\P c.1 c.2=true):=by
 unfold Rx
 simp only[hi,hj,decide_true,Bool.true_and,Bool.or_eq_true,Zv,WA,decide_eq_true_eq,MZ]
noncomputable def cnt(w h:Nat)(P:Nat->Nat->Bool):Nat:=(cellsOf w h).countP fun c=>P c.1 c.2
theorem cnt_le(w h:Nat)(P:Nat->Nat->Bool):cnt w h P<=w*h:=by
 unfold cnt
 refine Zi List.countP_le_length ?_
 rw[YI,Y0]
 exact Zl _
theorem OF{α:Type}{p q:α->Bool}:∀{l:List α},(∀x∈l,p x=true->q x=true)->(∃x∈l,p x=false/\q x=true)->l.countP p<l.countP q
 |[],_,⟨x,hx,_⟩=>nomatch hx
 |a::l,h,⟨x,hx,hp,hq⟩=>by
  have ht:∀y∈l,p y=true->q y=true:=fun y hy=>h y (Ze _ hy)
  have hle:l.countP p<=l.countP q:=List.countP_mono_left ht
  rw[X3,X3]
  rcases Zw.mp hx with rfl|hx
  ·rw[hp,hq];simp;omega
  ·have ih:=OF ht ⟨x,hx,hp,hq⟩
   have ha:=h a Zm
   cases e:p a with
   |false=>simp;omega
   |true=>rw[ha e];simp;omega
theorem cnt_full{w h:Nat}{P:Nat->Nat->Bool}(e:w*h<=cnt w h P){i j:Nat}(hi:i<w)(hj:j<h):P i j=true:=by
 unfold cnt at e
 have h1:(cellsOf w h).countP (fun c=>P c.1 c.2)=(cellsOf w h).length:=by
  refine Nat.le_antisymm List.countP_le_length ?_
  rw[YI,Y0];exact e
 have h2:=List.countP_eq_length.mp h1 (i,j) (Ua.mpr ⟨hi,hj⟩)
 simpa using h2
theorem UP{w h:Nat}{corners:Bool}{allowed:Nat->Nat->Bool}:∀(n:Nat)(P:Nat->Nat->Bool),w*h<=cnt w h P+n->
  ∃P':Nat->Nat->Bool,spread w h corners allowed n (bitsOf w h P)=bitsOf w h P'/\
   ∀i j,i<w->j<h->(P' i j=true↔Reach w h corners allowed (fun c=>c.1<w/\c.2<h/\P c.1 c.2=true) (i,j))
 |0,P,hn=>by
  refine⟨P,rfl,fun i j hi hj=>⟨fun e=>.base ⟨hi,hj,e⟩,fun _=>cnt_full (by omega) hi hj⟩⟩
 |n+1,P,hn=>by
  rw[ND]
  by_cases e:(bitsOf w h (Rx w h corners allowed P)==bitsOf w h P)=true
  ·rw[if_pos e]
   refine⟨P,rfl,fun i j hi hj=>⟨fun q=>.base ⟨hi,hj,q⟩,fun r=>?_⟩⟩
   have e1:=eq_of_beq e
   have cl:∀i j,i<w->j<h->allowed i j=true->(∃c:Nat×Nat,Adj corners c (i,j)/\c.1<w/\c.2<h/\P c.1 c.2=true)->P i j=true:=by
    intro i j hi hj ha hc
    rw[<-Lm e1 hi hj]
    exact(UO hi hj).mpr (.inr ⟨ha,hc⟩)
   have all:∀c,Reach w h corners allowed (fun c=>c.1<w/\c.2<h/\P c.1 c.2=true) c->c.1<w/\c.2<h/\P c.1 c.2=true:=by
    intro c r
    induction r with
    |base q=>exact q
    |step _ ad h1 h2 ha ih=>exact⟨h1,h2,cl _ _ h1 h2 ha ⟨_,ad,ih⟩⟩
   exact(all _ r).2.2
  ·rw[if_neg e]
   have hlt:cnt w h P<cnt w h (Rx w h corners allowed P):=by
    refine OF (fun c hc q=>?_) ?_
    ·have:=Ua.mp hc
     exact(UO this.1 this.2).mpr (.inl q)
    ·refine ZY fun hno=>e ?_
     rw[beq_iff_eq]
     refine WW fun i j hi hj=>?_
     cases q:P i j with
     |true=>exact(UO hi hj).mpr (.inl q)
     |false=>
      cases q2:Rx w h corners allowed P i j with
      |false=>rfl
      |true=>exact absurd ⟨(i,j),Ua.mpr ⟨hi,hj⟩,q,q2⟩ hno
   obtain⟨P',e1,e2⟩:=UP (w:=w) (h:=h) (corners:=corners) (allowed:=allowed) n (Rx w h corners allowed P) (by omega)
   refine⟨P',e1,fun i j hi hj=>(e2 i j hi hj).trans ⟨fun r=>?_,fun r=>?_⟩⟩
   ·generalize (i,j)=c at r
    induction r with
    |base q=>
     obtain⟨h1,h2,q⟩:=q
     rcases(UO h1 h2).mp q with q|⟨ha,c,ad,h3,h4,q⟩
     ·exact .base ⟨h1,h2,q⟩
     ·exact .step (.base ⟨h3,h4,q⟩) ad h1 h2 ha
    |step _ ad h1 h2 ha ih=>exact .step ih ad h1 h2 ha
   ·generalize (i,j)=c at r
    induction r with
    |base q=>exact .base ⟨q.1,q.2.1,(UO q.1 q.2.1).mpr (.inl q.2.2)⟩
    |step _ ad h1 h2 ha ih=>exact .step ih ad h1 h2 ha
theorem Reach.inside{w h:Nat}{corners:Bool}{allowed:Nat->Nat->Bool}{start:Nat×Nat->Prop}{c:Nat×Nat}(hs:∀c,start c->c.1<w/\c.2<h)(r:Reach w h corners allowed start c):c.1<w/\c.2<h:=by
 cases r with
 |base q=>exact hs _ q
 |step _ _ h1 h2 _=>exact⟨h1,h2⟩
theorem Reach.mono{w h:Nat}{corners:Bool}{allowed:Nat->Nat->Bool}{s t:Nat×Nat->Prop}{c:Nat×Nat}(hs:∀c,s c->Reach w h corners allowed t c)(r:Reach w h corners allowed s c):Reach w h corners allowed t c:=by
 induction r with
 |base q=>exact hs _ q
 |step _ ad h1 h2 ha ih=>exact .step ih ad h1 h2 ha
theorem VI(g:Grid)(corners:Bool)(allowed:Nat->Nat->Bool)(c:Nat×Nat)(hc:c.1<g.width/\c.2<g.height):
  Told (pieceAt g corners allowed c)/\∀i j,(pieceAt g corners allowed c).painted i j=true↔Reach g.width g.height corners allowed (fun d=>d=c) (i,j):=by
 obtain⟨P',e1,e2⟩:=UP (w:=g.width) (h:=g.height) (corners:=corners) (allowed:=allowed) (g.width*g.height) (fun i j=>decide ((i,j)=c)) (Nat.le_add_left _ _)
 have eb:(pieceAt g corners allowed c).bits=bitsOf g.width g.height P':=e1
 refine⟨RN (g:=pieceAt g corners allowed c) eb,fun i j=>?_⟩
 have e3:=VW (g:=pieceAt g corners allowed c) eb i j
 rw[e3]
 have hw:(pieceAt g corners allowed c).width=g.width:=rfl
 have hh:(pieceAt g corners allowed c).height=g.height:=rfl
 rw[hw,hh]
 have conv:∀d,Reach g.width g.height corners allowed (fun d:Nat×Nat=>d.1<g.width/\d.2<g.height/\decide ((d.1,d.2)=c)=true) d↔Reach g.width g.height corners allowed (fun d=>d=c) d:=by
  intro d
  constructor
  ·exact Reach.mono fun x ⟨_,_,q⟩=>.base (of_decide_eq_true q)
  ·refine Reach.mono fun x q=>.base ?_
   subst q
   exact⟨hc.1,hc.2,decide_eq_true rfl⟩
 constructor
 ·intro q
  simp only[Zv,decide_eq_true_eq]at q
  exact(conv _).mp ((e2 i j q.1 q.2.1).mp q.2.2)
 ·intro r
  have hin:=Reach.inside (fun d (q:d=c)=>q▸hc) r
  simp only[Zv,decide_eq_true_eq]
  exact⟨hin.1,hin.2,(e2 i j hin.1 hin.2).mpr ((conv _).mpr r)⟩
end Ma
end
section
namespace Ma
open Vamato
noncomputable def Comp(w h:Nat)(corners:Bool)(allowed:Nat->Nat->Bool)(c d:Nat×Nat):Prop:=Reach w h corners allowed (fun x=>x=c) d
theorem Comp.refl{w h:Nat}{corners:Bool}{allowed:Nat->Nat->Bool}{c:Nat×Nat}:Comp w h corners allowed c c:=.base rfl
theorem Comp.trans{w h:Nat}{corners:Bool}{allowed:Nat->Nat->Bool}{c d e:Nat×Nat}(a:Comp w h corners allowed c d)(b:Comp w h corners allowed d e):Comp w h corners allowed c e:=by
 refine Reach.mono (fun x q=>?_) b
 rw[q]
 exact a
theorem Comp.ok{w h:Nat}{corners:Bool}{allowed:Nat->Nat->Bool}{c d:Nat×Nat}(hc:c.1<w/\c.2<h/\allowed c.1 c.2=true)(a:Comp w h corners allowed c d):d.1<w/\d.2<h/\allowed d.1 d.2=true:=by
 cases a with
 |base q=>rw[q];exact hc
 |step _ _ h1 h2 h3=>exact⟨h1,h2,h3⟩
theorem Comp.symm{w h:Nat}{corners:Bool}{allowed:Nat->Nat->Bool}{c d:Nat×Nat}(hc:c.1<w/\c.2<h/\allowed c.1 c.2=true)(a:Comp w h corners allowed c d):Comp w h corners allowed d c:=by
 induction a with
 |base q=>rw[q];exact .refl
 |step r ad h1 h2 h3 ih=>
  have hr:=Comp.ok hc r
  exact Comp.trans (Reach.step Comp.refl ad.symm hr.1 hr.2.1 hr.2.2) ih
theorem Su{a b:Grid}(hl:a.left=b.left)(hb:a.low=b.low)(hw:a.width=b.width)(hh:a.height=b.height)(hs:a.size=b.size)(ta:Told a)(tb:Told b)
  (e:∀i j,i<a.width->j<a.height->a.painted i j=b.painted i j):a=b:=by
 have q:a.bits=b.bits:=by
  rw[ta,tb,<-hw,<-hh]
  exact WW e
 cases a;cases b
 simp_all
theorem SC{a b:Bool}(h:a=true↔b=true):a=b:=by cases a<;>cases b<;>simp_all
section
variable{g:Grid}{corners:Bool}{allowed:Nat->Nat->Bool}
noncomputable def Xj(g:Grid)(corners:Bool)(allowed:Nat->Nat->Bool)(l:List Grid)(c:Nat×Nat):List Grid:=if(!allowed c.1 c.2||l.any fun p=>p.painted c.1 c.2)=true then l else l++[pieceAt g corners allowed c]
theorem RA:piecesBy g corners allowed=g.cells.foldl (Xj g corners allowed) []:=rfl
noncomputable def WX(g:Grid)(corners:Bool)(allowed:Nat->Nat->Bool)(p:Grid):Prop:=∃c:Nat×Nat,(c.1<g.width/\c.2<g.height/\allowed c.1 c.2=true)/\p=pieceAt g corners allowed c
theorem XA{c d:Nat×Nat}(hc:c.1<g.width/\c.2<g.height):(pieceAt g corners allowed c).painted d.1 d.2=true↔Comp g.width g.height corners allowed c d:=(VI g corners allowed c hc).2 d.1 d.2
theorem WX.comp{p:Grid}(hp:WX g corners allowed p){d:Nat×Nat}(hd:p.painted d.1 d.2=true):∀e:Nat×Nat,p.painted e.1 e.2=true↔Comp g.width g.height corners allowed d e:=by
 obtain⟨c,hc,rfl⟩:=hp
 intro e
 have h1:=(XA (allowed:=allowed) (corners:=corners) ⟨hc.1,hc.2.1⟩).mp hd
 rw[XA ⟨hc.1,hc.2.1⟩]
 exact⟨fun q=>(Comp.symm hc h1).trans q,fun q=>h1.trans q⟩
theorem WX.ok{p:Grid}(hp:WX g corners allowed p){d:Nat×Nat}(hd:p.painted d.1 d.2=true):d.1<g.width/\d.2<g.height/\allowed d.1 d.2=true:=by
 obtain⟨c,hc,rfl⟩:=hp
 exact Comp.ok hc ((XA ⟨hc.1,hc.2.1⟩).mp hd)
theorem WX.told{p:Grid}(hp:WX g corners allowed p):Told p:=by
 obtain⟨c,hc,rfl⟩:=hp
 exact(VI g corners allowed c ⟨hc.1,hc.2.1⟩).1
theorem WX.same{p:Grid}(hp:WX g corners allowed p):p.left=g.left/\p.low=g.low/\p.width=g.width/\p.height=g.height/\p.size=g.size:=by
 obtain⟨c,hc,rfl⟩:=hp
 exact⟨rfl,rfl,rfl,rfl,rfl⟩
theorem XQ(l:List Grid)(c:Nat×Nat):(Xj g corners allowed l c=l/\(allowed c.1 c.2=false\/∃p∈l,p.painted c.1 c.2=true))\/
  (Xj g corners allowed l c=l++[pieceAt g corners allowed c]/\allowed c.1 c.2=true/\∀p∈l,p.painted c.1 c.2=false):=by
 unfold Xj
 by_cases e:(!allowed c.1 c.2||l.any fun p=>p.painted c.1 c.2)=true
 ·rw[if_pos e]
  refine .inl ⟨rfl,?_⟩
  simpa using e
 ·rw[if_neg e]
  refine .inr ⟨rfl,?_⟩
  simpa using e
structure Made(g:Grid)(corners:Bool)(allowed:Nat->Nat->Bool)(cs:List (Nat×Nat))(l:List Grid):Prop where
 each:∀p∈l,WX g corners allowed p
 all:∀c∈cs,allowed c.1 c.2=true->∃p∈l,p.painted c.1 c.2=true
 apart:l.Pairwise fun p q=>∀c:Nat×Nat,p.painted c.1 c.2=true->q.painted c.1 c.2=false
theorem Ot{cs:List (Nat×Nat)}{l:List Grid}{c:Nat×Nat}(hc:c.1<g.width/\c.2<g.height)(m:Made g corners allowed cs l):Made g corners allowed (cs++[c]) (Xj g corners allowed l c):=by
 rcases XQ (g:=g) (corners:=corners) (allowed:=allowed) l c with⟨e,h⟩|⟨e,ha,hn⟩
 ·rw[e]
  refine⟨m.each,fun d hd hal=>?_,m.apart⟩
  rcases Zs.mp hd with hd|hd
  ·exact m.all d hd hal
  ·simp only[ZI]at hd
   subst hd
   rcases h with h|h
   ·rw[h]at hal;cases hal
   ·exact h
 ·rw[e]
  have hp:WX g corners allowed (pieceAt g corners allowed c):=⟨c,⟨hc.1,hc.2,ha⟩,rfl⟩
  have hcc:(pieceAt g corners allowed c).painted c.1 c.2=true:=(XA hc).mpr .refl
  refine⟨fun p q=>?_,fun d hd hal=>?_,?_⟩
  ·rcases Zs.mp q with q|q
   ·exact m.each p q
   ·simp only[ZI]at q
    subst q
    exact hp
  ·rcases Zs.mp hd with hd|hd
   ·obtain⟨p,q,z⟩:=m.all d hd hal
    exact⟨p,Yo _ q,z⟩
   ·simp only[ZI]at hd
    subst hd
    exact⟨_,YA _ (ZI.mpr rfl),hcc⟩
  ·refine List.pairwise_append.mpr ⟨m.apart,List.pairwise_singleton _ _,fun p q r hr d hd=>?_⟩
   simp only[ZI]at hr
   subst hr
   cases z:(pieceAt g corners allowed c).painted d.1 d.2 with
   |false=>rfl
   |true=>
    have h1:=((hp.comp z) c).mp hcc
    have h2:=(((m.each p q).comp hd) c).mpr h1
    rw[hn p q]at h2
    cases h2
theorem Rh:∀(cs done:List (Nat×Nat))(l:List Grid),(∀c∈cs,c.1<g.width/\c.2<g.height)->Made g corners allowed done l->Made g corners allowed (done++cs) (cs.foldl (Xj g corners allowed) l)
 |[],done,l,_,m=>by simpa using m
 |c::cs,done,l,h,m=>by
  have:=Rh cs (done++[c]) _ (fun d hd=>h d (Ze _ hd)) (Ot (h c Zm) m)
  simpa using this
theorem QE:Made g corners allowed [] []:=⟨fun _ h=>(nomatch h),fun _ h=>(nomatch h),List.Pairwise.nil⟩
theorem Vp:Made g corners allowed g.cells (piecesBy g corners allowed):=by
 rw[RA]
 have:=Rh (g:=g) (corners:=corners) (allowed:=allowed) g.cells [] [] (fun c hc=>Ua.mp hc) QE
 simpa using this
end
noncomputable def WV(g:Grid)(c:Nat×Nat):Bool:=c.1==0||(c.2==0||(c.1+1==g.width||c.2+1==g.height))
noncomputable def clear(g:Grid)(i j:Nat):Bool:=!g.painted i j
noncomputable def UI(g p:Grid):Bool:=g.cells.all fun c=>!(p.painted c.1 c.2&&WV g c)
theorem TF(g:Grid)(d:Nat×Nat):(outerOf g).painted d.1 d.2=true↔∃c:Nat×Nat,(c.1<g.width/\c.2<g.height/\clear g c.1 c.2=true)/\WV g c=true/\Comp g.width g.height true (clear g) c d:=by
 obtain⟨P',e1,e2⟩:=UP (w:=g.width) (h:=g.height) (corners:=true) (allowed:=clear g) (g.width*g.height) (fun i j=>WV g (i,j)&&clear g i j) (Nat.le_add_left _ _)
 have eb:(outerOf g).bits=bitsOf g.width g.height P':=e1
 have e3:=VW (g:=outerOf g) eb d.1 d.2
 have hw:(outerOf g).width=g.width:=rfl
 have hh:(outerOf g).height=g.height:=rfl
 rw[e3,hw,hh]
 have conv:∀d,Reach g.width g.height true (clear g) (fun d:Nat×Nat=>d.1<g.width/\d.2<g.height/\(WV g (d.1,d.2)&&clear g d.1 d.2)=true) d↔
   ∃c:Nat×Nat,(c.1<g.width/\c.2<g.height/\clear g c.1 c.2=true)/\WV g c=true/\Comp g.width g.height true (clear g) c d:=by
  intro d
  constructor
  ·intro r
   induction r with
   |base q=>
    obtain⟨h1,h2,q⟩:=q
    rw[Zv]at q
    exact⟨_,⟨h1,h2,q.2⟩,q.1,.refl⟩
   |step _ ad h1 h2 h3 ih=>
    obtain⟨c,hc,hb,r⟩:=ih
    exact⟨c,hc,hb,.step r ad h1 h2 h3⟩
  ·rintro⟨c,hc,hb,r⟩
   refine Reach.mono (fun x q=>.base ?_) r
   subst q
   exact⟨hc.1,hc.2.1,by rw[Zv];exact⟨hb,hc.2.2⟩⟩
 constructor
 ·intro q
  simp only[Zv,decide_eq_true_eq]at q
  exact(conv d).mp ((e2 d.1 d.2 q.1 q.2.1).mp q.2.2)
 ·intro r
  have hr:=(conv d).mpr r
  obtain⟨c,hc,_,rr⟩:=r
  have hin:=Comp.ok hc rr
  simp only[Zv,decide_eq_true_eq]
  exact⟨hin.1,hin.2.1,(e2 d.1 d.2 hin.1 hin.2.1).mpr hr⟩
theorem X5(g:Grid)(d:Nat×Nat):(holeCells g).painted d.1 d.2=true↔(d.1<g.width/\d.2<g.height/\clear g d.1 d.2=true)/\∀e,Comp g.width g.height true (clear g) d e->WV g e=false:=by
 have e1:=Wp g (fun i j=>!g.painted i j&&!(outerOf g).painted i j) d.1 d.2
 have e2:(holeCells g).painted d.1 d.2=(decide (d.1<g.width)&&(decide (d.2<g.height)&&(!g.painted d.1 d.2&&!(outerOf g).painted d.1 d.2))):=e1
 rw[e2]
 simp only[Zv,decide_eq_true_eq,Xw,clear]
 constructor
 ·rintro⟨h1,h2,h3,h4⟩
  refine⟨⟨h1,h2,h3⟩,fun e r=>?_⟩
  cases q:WV g e with
  |false=>rfl
  |true=>
   have hd:d.1<g.width/\d.2<g.height/\clear g d.1 d.2=true:=⟨h1,h2,by simp[clear,h3]⟩
   have:=(TF g d).mpr ⟨e,Comp.ok hd r,q,Comp.symm hd r⟩
   rw[h4]at this;cases this
 ·rintro⟨⟨h1,h2,h3⟩,hb⟩
  refine⟨h1,h2,h3,?_⟩
  cases q:(outerOf g).painted d.1 d.2 with
  |false=>rfl
  |true=>
   obtain⟨c,hc,hbc,r⟩:=(TF g d).mp q
   rw[hb c (Comp.symm hc r)]at hbc;cases hbc
theorem Uq{g p:Grid}(hp:∀c:Nat×Nat,p.painted c.1 c.2=true->c.1<g.width/\c.2<g.height):UI g p=true↔∀c:Nat×Nat,p.painted c.1 c.2=true->WV g c=false:=by
 unfold UI
 rw[Xd]
 constructor
 ·intro h c hc
  have:=h c (Ua.mpr (hp c hc))
  rw[hc]at this
  simpa using this
 ·intro h c _
  cases q:p.painted c.1 c.2 with
  |false=>simp
  |true=>simp[h c q]
theorem N3{g:Grid}{c:Nat×Nat}(hc:c.1<g.width/\c.2<g.height/\clear g c.1 c.2=true):UI g (pieceAt g true (clear g) c)=(holeCells g).painted c.1 c.2:=by
 refine SC ?_
 have hp:WX g true (clear g) (pieceAt g true (clear g) c):=⟨c,hc,rfl⟩
 rw[Uq (fun d hd=>let z:=hp.ok hd;⟨z.1,z.2.1⟩),X5]
 constructor
 ·intro h
  exact⟨hc,fun e r=>h e ((XA ⟨hc.1,hc.2.1⟩).mpr r)⟩
 ·intro h d hd
  exact h.2 d ((XA ⟨hc.1,hc.2.1⟩).mp hd)
theorem M9{g:Grid}{c:Nat×Nat}(hc:(holeCells g).painted c.1 c.2=true):pieceAt (holeCells g) true (holeCells g).painted c=pieceAt g true (clear g) c:=by
 have hh:=(X5 g c).mp hc
 have t1:=VI (holeCells g) true (holeCells g).painted c ⟨hh.1.1,hh.1.2.1⟩
 have t2:=VI g true (clear g) c ⟨hh.1.1,hh.1.2.1⟩
 refine Su rfl rfl rfl rfl rfl t1.1 t2.1 fun i j _ _=>SC ?_
 rw[t1.2,t2.2]
 show Comp g.width g.height true (holeCells g).painted c (i,j)↔Comp g.width g.height true (clear g) c (i,j)
 constructor
 ·generalize (i,j)=d
  intro r
  induction r with
  |base q=>exact .base q
  |step _ ad h1 h2 h3 ih=>exact .step ih ad h1 h2 ((X5 g _).mp h3).1.2.2
 ·intro r
  have all:∀d,Comp g.width g.height true (clear g) c d->Comp g.width g.height true (holeCells g).painted c d:=by
   intro d r
   induction r with
   |base q=>exact .base q
   |@step d e r ad h1 h2 h3 ih=>
    refine .step ih ad h1 h2 ((X5 g _).mpr ⟨⟨h1,h2,h3⟩,fun x rx=>hh.2 x ?_⟩)
    exact Comp.trans (.step r ad h1 h2 h3) rx
  exact all _ r
theorem QO{g:Grid}:∀(cs done:List (Nat×Nat))(l:List Grid),(∀c∈cs,c.1<g.width/\c.2<g.height)->Made g true (clear g) done l->
  cs.foldl (Xj (holeCells g) true (holeCells g).painted) (l.filter (UI g))=(cs.foldl (Xj g true (clear g)) l).filter (UI g)
 |[],_,_,_,_=>rfl
 |c::cs,done,l,h,m=>by
  have hc:=h c Zm
  have ih:=QO cs (done++[c]) _ (fun d hd=>h d (Ze _ hd)) (Ot hc m)
  rw[Y7,Y7,<-ih]
  congr 1
  rcases XQ (g:=g) (corners:=true) (allowed:=clear g) l c with⟨e,q⟩|⟨e,ha,hn⟩
  ·rw[e]
   rcases XQ (g:=holeCells g) (corners:=true) (allowed:=(holeCells g).painted) (l.filter (UI g)) c with⟨e',_⟩|⟨e',ha',hn'⟩
   ·exact e'
   ·have hh:=(X5 g c).mp ha'
    rcases q with q|⟨p,hp,hpc⟩
    ·rw[hh.1.2.2]at q;cases q
    ·have ip:=m.each p hp
     have:UI g p=true:=by
      rw[Uq (fun d hd=>let z:=ip.ok hd;⟨z.1,z.2.1⟩)]
      exact fun d hd=>hh.2 d ((ip.comp hpc d).mp hd)
     rw[hn' p (Yv.mpr ⟨hp,this⟩)]at hpc
     cases hpc
  ·rw[e,Y9]
   have ei:=N3 (g:=g) (c:=c) ⟨hc.1,hc.2,ha⟩
   cases z:(holeCells g).painted c.1 c.2 with
   |false=>
    rw[z]at ei
    rw[Yk (by rw[ei];simp),VR,Y6]
    unfold Xj
    rw[z]
    rfl
   |true=>
    rw[z]at ei
    rw[Yl (by rw[ei]),VR,<-M9 z]
    rcases XQ (g:=holeCells g) (corners:=true) (allowed:=(holeCells g).painted) (l.filter (UI g)) c with⟨_,q⟩|⟨e',_,_⟩
    ·rcases q with q|⟨p,hp,hpc⟩
     ·rw[z]at q;cases q
     ·rw[hn p (Yv.mp hp).1]at hpc;cases hpc
    ·exact e'
theorem QP(g:Grid):holesOf g=(piecesBy g true (clear g)).filter (UI g):=by
 have:=QO (g:=g) g.cells [] [] (fun c hc=>Ua.mp hc) QE
 exact this
theorem hole_iff(g:Grid)(c:Nat×Nat):(holeCells g).painted c.1 c.2=true↔∃p∈(piecesBy g true (clear g)).filter (UI g),p.painted c.1 c.2=true:=by
 have m:=Vp (g:=g) (corners:=true) (allowed:=clear g)
 constructor
 ·intro q
  have hh:=(X5 g c).mp q
  obtain⟨p,hp,hpc⟩:=m.all c (Ua.mpr ⟨hh.1.1,hh.1.2.1⟩) hh.1.2.2
  have ip:=m.each p hp
  refine⟨p,Yv.mpr ⟨hp,?_⟩,hpc⟩
  rw[Uq (fun d hd=>let z:=ip.ok hd;⟨z.1,z.2.1⟩)]
  exact fun d hd=>hh.2 d ((ip.comp hpc d).mp hd)
 ·rintro⟨p,hp,hpc⟩
  obtain⟨hp,hi⟩:=Yv.mp hp
  have ip:=m.each p hp
  rw[Uq (fun d hd=>let z:=ip.ok hd;⟨z.1,z.2.1⟩)]at hi
  exact(X5 g c).mpr ⟨ip.ok hpc,fun e r=>hi e ((ip.comp hpc e).mpr r)⟩
end Ma
end
section
namespace Ma
open Vamate
theorem QQ{α:Type}{l r:List α}(h:l≠[]):(l++r).head?=l.head?:=by
 cases l with
 |nil=>exact absurd rfl h
 |cons a l=>rfl
noncomputable def digs(m:Nat):Text:=(Nat.toDigits 10 m).map fun c=>UInt8.ofNat c.toNat
noncomputable def digB(d:Nat):UInt8:=UInt8.ofNat (48+d)
noncomputable def U0(c:UInt8):Prop:=48<=c.toNat/\c.toNat<=57
theorem LU{d:Nat}(h:d<10):UInt8.ofNat (Nat.digitChar d).toNat=digB d:=by
 match d,h with
 |0,_|1,_|2,_|3,_|4,_|5,_|6,_|7,_|8,_|9,_=>decide
 |n+10,h=>omega
theorem QY{d:Nat}(h:d<10):(digB d).toNat=48+d:=by
 unfold digB
 rw[UInt8.toNat_ofNat']
 omega
theorem RY{m:Nat}(h:m<10):digs m=[digB m]:=by
 unfold digs
 rw[Nat.toDigits_of_lt_base h,List.map_singleton,LU h]
theorem RZ{m:Nat}(h:10<=m):digs m=digs (m/10)++[digB (m%10)]:=by
 unfold digs
 rw[Nat.toDigits_of_base_le (by decide) h,ZJ,List.map_singleton,LU (Nat.mod_lt _ (by decide))]
theorem R6(l:Text)(c:UInt8):digitsVal (l++[c])=10*digitsVal l+(c.toNat-48):=by
 unfold digitsVal
 rw[Vb]
 rfl
theorem LS(m:Nat):digs m≠[]:=by
 by_cases h:m<10
 ·rw[RY h];simp
 ·rw[RZ (by omega)];simp
theorem Md(m:Nat):∀c∈digs m,U0 c:=by
 induction m using Nat.strongRecOn with
 |_ m ih=>
  by_cases h:m<10
  ·rw[RY h]
   intro c hc
   simp only[ZI]at hc
   subst hc
   unfold U0
   rw[QY h]
   omega
  ·rw[RZ (by omega)]
   intro c hc
   rcases Zs.mp hc with hc|hc
   ·exact ih (m/10) (by omega) c hc
   ·simp only[ZI]at hc
    subst hc
    unfold U0
    rw[QY (Nat.mod_lt _ (by decide))]
    omega
theorem KN(m:Nat):(digs m).head?=some 48->m=0:=by
 induction m using Nat.strongRecOn with
 |_ m ih=>
  intro e
  by_cases h:m<10
  ·rw[RY h]at e
   have e1:digB m=48:=ZC e
   have:=QY h
   rw[e1]at this
   have e2:(48:UInt8).toNat=48:=rfl
   omega
  ·rw[RZ (by omega),QQ (LS _)]at e
   have:=ih (m/10) (by omega) e
   omega
noncomputable def Canon(ds:Text):Prop:=ds≠[]/\(∀c∈ds,U0 c)/\(ds.head?=some 48->ds.length=1)
theorem Q4(m:Nat):Canon (digs m):=by
 refine⟨LS m,Md m,fun e=>?_⟩
 have:=KN m e
 subst this
 rfl
theorem Uf{α:Type}{p:List α->Prop}(h0:p [])(h1:∀l a,p l->p (l++[a]))(l:List α):p l:=by
 have:∀r:List α,p r.reverse:=by
  intro r
  induction r with
  |nil=>exact h0
  |cons a r ih=>rw[List.reverse_cons];exact h1 _ _ ih
 have:=this l.reverse
 rwa[List.reverse_reverse]at this
theorem val_pos:∀{ds:Text},ds≠[]->(∀c∈ds,U0 c)->ds.head?≠some 48->0<digitsVal ds:=by
 intro ds
 induction ds using Uf with
 |h0=>intro h;exact absurd rfl h
 |h1 l c ih=>
  intro _ hall hh
  rw[R6]
  by_cases hl:l=[]
  ·subst hl
   have hc:=hall c (by simp)
   have hne:c.toNat≠48:=by
    intro e
    refine hh ?_
    have:c=48:=UInt8.toNat_inj.mp e
    simp[this]
   unfold U0 at hc
   show 0<10*0+(c.toNat-48)
   omega
  ·have:=ih hl (fun c hc=>hall c (Yo _ hc)) (by rw[QQ hl]at hh;exact hh)
   omega
theorem T8:∀{ds:Text},Canon ds->digs (digitsVal ds)=ds:=by
 intro ds
 induction ds using Uf with
 |h0=>intro h;exact absurd rfl h.1
 |h1 l c ih=>
  rintro⟨_,hall,hh⟩
  have hc:=hall c (by simp)
  have ec:digB (c.toNat-48)=c:=by
   unfold digB
   refine UInt8.toNat_inj.mp ?_
   rw[UInt8.toNat_ofNat']
   unfold U0 at hc
   omega
  unfold U0 at hc
  rw[R6]
  by_cases hl:l=[]
  ·subst hl
   show digs (10*0+(c.toNat-48))=[c]
   rw[RY (by omega)]
   simp[ec]
  ·have hh':l.head?≠some 48:=by
    intro e
    have:=hh (by rw[QQ hl];exact e)
    rw[Zj]at this
    have:l.length=0:=by simpa using this
    exact hl (List.length_eq_zero_iff.mp this)
   have hpos:=val_pos hl (fun c hc=>hall c (Yo _ hc)) hh'
   have ihl:=ih ⟨hl,fun c hc=>hall c (Yo _ hc),fun e=>absurd e hh'⟩
   rw[RZ (by omega)]
   have e1:(10*digitsVal l+(c.toNat-48))/10=digitsVal l:=by omega
   have e2:(10*digitsVal l+(c.toNat-48))%10=c.toNat-48:=by omega
   rw[e1,e2,ihl,ec]
theorem OG{ds:Text}(h:Canon ds){k:Nat}(hk:0<k):ds.length<=k↔digitsVal ds<10^k:=by
 have e:=T8 h
 have:ds.length=(Nat.toDigits 10 (digitsVal ds)).length:=by
  conv=>lhs;rw[<-e]
  unfold digs
  rw[Za]
 rw[this]
 exact Nat.length_toDigits_le_iff (by decide) hk
theorem RI(m:Nat):decimal (m:Int)=digs m:=by
 unfold decimal digs
 rw[if_neg (by omega)]
 rfl
theorem Me{m:Nat}(h:0<m):decimal (-(m:Int))=45::digs m:=by
 unfold decimal digs
 rw[if_pos (by omega)]
 have:(-(m:Int)).natAbs=m:=by omega
 rw[this]
 rfl
theorem Le{m:Nat}{r:Text}:digs m≠45::r:=by
 intro e
 have:=Md m 45 (by rw[e];simp)
 unfold U0 at this
 have e2:(45:UInt8).toNat=45:=rfl
 omega
theorem Na(r:Text):∀n,numberOf (45::r)=some n↔Canon r/\digitsVal r≠0/\n=-(digitsVal r:Int):=by
 intro n
 show(if decimal (-((digitsVal r:Nat):Int))=45::r then some (-((digitsVal r:Nat):Int))else none)=some n↔_
 by_cases h0:digitsVal r=0
 ·rw[if_neg]
  ·simp[h0]
  ·rw[h0]
   intro e
   exact Le ((RI 0).symm.trans e)
 ·have hp:0<digitsVal r:=by omega
  rw[Me hp]
  constructor
  ·intro e
   by_cases q:(45::digs (digitsVal r):Text)=45::r
   ·rw[if_pos q]at e
    have q':digs (digitsVal r)=r:=(List.cons.inj q).2
    refine⟨?_,h0,(ZC e).symm⟩
    rw[<-q']
    exact Q4 _
   ·rw[if_neg q]at e
    cases e
  ·rintro⟨hc,_,e⟩
   rw[if_pos (by rw[T8 hc]),e]
theorem So{t:Text}(ht:∀r,t≠45::r):∀n,numberOf t=some n↔Canon t/\n=(digitsVal t:Int):=by
 intro n
 have e0:numberOf t=if decimal ((digitsVal t:Nat):Int)=t then some ((digitsVal t:Nat):Int)else none:=by
  unfold numberOf
  split
  ·rename_i r
   exact absurd rfl (ht r)
  ·rfl
 rw[e0,RI]
 constructor
 ·intro e
  by_cases q:digs (digitsVal t)=t
  ·rw[if_pos q]at e
   refine⟨?_,(ZC e).symm⟩
   rw[<-q]
   exact Q4 _
  ·rw[if_neg q]at e
   cases e
 ·rintro⟨hc,e⟩
  rw[if_pos (T8 hc),e]
noncomputable def u8(b:Int):UInt8:=UInt8.ofNat b.toNat
noncomputable def tx(f:List Int):Text:=f.map u8
noncomputable def Byte(b:Int):Prop:=0<=b/\b<=255
theorem R8{b:Int}(h:Byte b):(u8 b).toNat=b.toNat:=by
 unfold u8
 rw[UInt8.toNat_ofNat']
 unfold Byte at h
 omega
theorem u8_int{b:Int}(h:Byte b):((u8 b).toNat:Int)=b:=by
 rw[R8 h]
 unfold Byte at h
 omega
theorem R9{a b:Int}(ha:Byte a)(hb:Byte b):u8 a=u8 b↔a=b:=by
 constructor
 ·intro e
  have:((u8 a).toNat:Int)=((u8 b).toNat:Int):=by rw[e]
  rwa[u8_int ha,u8_int hb]at this
 ·intro e;rw[e]
theorem tx_inj:∀{f g:List Int},(∀b∈f,Byte b)->(∀b∈g,Byte b)->(tx f=tx g↔f=g)
 |[],[],_,_=>by simp
 |[],b::g,_,_=>by simp[tx]
 |a::f,[],_,_=>by simp[tx]
 |a::f,b::g,hf,hg=>by
  have h1:=R9 (hf a Zm) (hg b Zm)
  have h2:=tx_inj (f:=f) (g:=g) (fun x hx=>hf x (Ze _ hx)) (fun x hx=>hg x (Ze _ hx))
  show u8 a::tx f=u8 b::tx g↔_
  rw[List.cons.injEq,List.cons.injEq,h1,h2]
noncomputable def valI(ds:List Int):Int:=ds.foldl (fun n d=>n*10+d-48) 0
theorem Pj(l:List Int)(d:Int):valI (l++[d])=valI l*10+d-48:=by
 unfold valI
 rw[Vb]
 rfl
theorem Lo:∀{ds:List Int},(∀d∈ds,48<=d/\d<=57)->valI ds=(digitsVal (tx ds):Int):=by
 intro ds
 induction ds using Uf with
 |h0=>intro _;rfl
 |h1 l d ih=>
  intro h
  have hd:=h d (by simp)
  have e:tx (l++[d])=tx l++[u8 d]:=by unfold tx;rw[ZJ];rfl
  rw[Pj,e,R6,ih fun x hx=>h x (Yo _ hx)]
  have:=R8 (b:=d) ⟨by omega,by omega⟩
  omega
noncomputable def Wy(ds:List Int):Bool:=decide (1<=ds.length)&&decide (ds.length<=10)&&(!(decide (ds.head?=some 48)&&decide (1<ds.length))&&ds.all fun d=>decide (48<=d)&&decide (d<=57))
noncomputable def numI(f:List Int):Option Int:=
 if Wy (if f.take 1=[45]then f.drop 1 else f)=true then
  if 1000000000<valI (if f.take 1=[45]then f.drop 1 else f)\/(f.take 1=[45]/\valI (if f.take 1=[45]then f.drop 1 else f)=0)then none
  else some (if f.take 1=[45]then -valI (if f.take 1=[45]then f.drop 1 else f)else valI (if f.take 1=[45]then f.drop 1 else f))
 else none
theorem VH{ds:List Int}(hb:∀b∈ds,Byte b):Wy ds=true↔Canon (tx ds)/\ds.length<=10:=by
 unfold Wy Canon
 have hd:(∀c∈tx ds,U0 c)↔∀d∈ds,48<=d/\d<=57:=by
  unfold tx U0
  simp only[ZS,forall_exists_index,and_imp,forall_apply_eq_imp_iff₂]
  constructor
  ·intro h d hd
   have:=h d hd
   rw[R8 (hb d hd)]at this
   have:=hb d hd
   unfold Byte at this
   omega
  ·intro h d hd
   have h1:=h d hd
   rw[R8 (hb d hd)]
   omega
 have hh:(tx ds).head?=some 48↔ds.head?=some 48:=by
  cases ds with
  |nil=>simp[tx]
  |cons a r=>
   show some (u8 a)=some (u8 48)↔some a=some 48
   rw[Option.some.injEq,Option.some.injEq]
   exact R9 (hb a Zm) (by unfold Byte;omega)
 have hl:(tx ds).length=ds.length:=by unfold tx;rw[Za]
 have hn:tx ds≠[]↔1<=ds.length:=by
  rw[<-hl]
  cases tx ds<;>simp
 rw[hd,hh,hl,hn]
 simp only[Zv,decide_eq_true_eq,Xw,Xd,Vz,decide_eq_false_iff_not]
 constructor
 ·rintro⟨⟨h1,h2⟩,h3,h4⟩
  refine⟨⟨h1,h4,fun e=>?_⟩,h2⟩
  rcases h3 with h3|h3
  ·exact absurd e h3
  ·omega
 ·rintro⟨⟨h1,h4,h3⟩,h2⟩
  refine⟨⟨h1,h2⟩,?_,h4⟩
  by_cases e:ds.head?=some 48
  ·exact .inr (by have:=h3 e;omega)
  ·exact .inl e
theorem Sl{ds:List Int}(h:Wy ds=true):∀d∈ds,48<=d/\d<=57:=by
 unfold Wy at h
 simp only[Zv,Xd,decide_eq_true_eq]at h
 exact h.2.2
theorem numI_eq{f:List Int}(hb:∀b∈f,Byte b)(n:Int):numI f=some n↔numberOf (tx f)=some n/\farNumber n=false:=by
 have hfar:farNumber n=false↔ -1000000000<=n/\n<=1000000000:=by
  unfold farNumber FAR
  simp only[YY,decide_eq_false_iff_not]
  omega
 rw[hfar]
 unfold numI
 cases f with
 |nil=>
  rw[So (by intro r;simp[tx])]
  simp[Wy,Canon,tx]
 |cons a r=>
  have hbr:∀b∈r,Byte b:=fun b h=>hb b (Ze _ h)
  by_cases ha:a=45
  ·subst ha
   have e1:(List.take 1 ((45:Int)::r)=[45])=True:=by simp
   have e2:List.drop 1 ((45:Int)::r)=r:=rfl
   have e3:tx ((45:Int)::r)=45::tx r:=rfl
   simp only[e1,e2,if_true,true_and]
   rw[e3,Na]
   by_cases hp:Wy r=true
   ·rw[if_pos hp]
    have hc:=(VH hbr).mp hp
    have ev:=Lo (Sl hp)
    rw[ev]
    constructor
    ·intro e
     by_cases q:1000000000<(digitsVal (tx r):Int)\/(digitsVal (tx r):Int)=0
     ·rw[if_pos q]at e;cases e
     ·rw[if_neg q]at e
      have e:=ZC e
      exact⟨⟨hc.1,by omega,e.symm⟩,by omega,by omega⟩
    ·rintro⟨⟨_,h0,e⟩,h1,h2⟩
     rw[if_neg (by omega),e]
   ·rw[if_neg hp]
    constructor
    ·intro e;cases e
    ·rintro⟨⟨hc,h0,e⟩,h1,h2⟩
     refine absurd ((VH hbr).mpr ⟨hc,?_⟩) hp
     have hl:(tx r).length=r.length:=by unfold tx;rw[Za]
     rw[<-hl,OG hc (by decide)]
     omega
  ·have e1:(List.take 1 (a::r)=[45])=False:=by simp[ha]
   have ne:∀s,tx (a::r)≠45::s:=by
    intro s e
    have:u8 a=u8 45:=(List.cons.inj e).1
    exact ha ((R9 (hb a Zm) (by unfold Byte;omega)).mp this)
   simp only[e1,if_false,false_and,or_false]
   rw[So ne]
   by_cases hp:Wy (a::r)=true
   ·rw[if_pos hp]
    have hc:=(VH hb).mp hp
    have ev:=Lo (Sl hp)
    rw[ev]
    constructor
    ·intro e
     by_cases q:1000000000<(digitsVal (tx (a::r)):Int)
     ·rw[if_pos q]at e;cases e
     ·rw[if_neg q]at e
      have e:=ZC e
      exact⟨⟨hc.1,e.symm⟩,by omega,by omega⟩
    ·rintro⟨⟨_,e⟩,h1,h2⟩
     rw[if_neg (by omega),e]
   ·rw[if_neg hp]
    constructor
    ·intro e;cases e
    ·rintro⟨⟨hc,e⟩,h1,h2⟩
     refine absurd ((VH hb).mpr ⟨hc,?_⟩) hp
     have hl:(tx (a::r)).length=(a::r).length:=by unfold tx;rw[Za]
     rw[<-hl,OG hc (by decide)]
     omega
end Ma
end
section
namespace Ma
open Vamate
noncomputable def cutI(sep:Int):List Int->List Int->List (List Int)
 |got,[]=>[got]
 |got,c::r=>if c=sep then got::cutI sep [] r else cutI sep (got++[c]) r
theorem Tt{sep:Int}(hs:Byte sep):∀(t got:List Int),(∀b∈t,Byte b)->cutAll (u8 sep) (tx got).reverse (tx t)=(cutI sep got t).map tx
 |[],got,_=>by
  show[(tx got).reverse.reverse]=[tx got]
  rw[List.reverse_reverse]
 |c::r,got,h=>by
  have hc:=h c Zm
  have hr:∀b∈r,Byte b:=fun b q=>h b (Ze _ q)
  show(if u8 c=u8 sep then(tx got).reverse.reverse::cutAll (u8 sep) [] (tx r)else cutAll (u8 sep) (u8 c::(tx got).reverse) (tx r))=(if c=sep then got::cutI sep [] r else cutI sep (got++[c]) r).map tx
  by_cases e:c=sep
  ·rw[if_pos e,if_pos (by rw[e]),List.reverse_reverse,ZB]
   rw[<-Tt hs r [] hr]
   rfl
  ·rw[if_neg e,if_neg (fun q=>e ((R9 hc hs).mp q)),<-Tt hs r (got++[c]) hr]
   congr 1
   unfold tx
   rw[ZJ,List.reverse_append]
   rfl
theorem Vk{sep:Int}:∀(t got:List Int),(∀b∈t,Byte b)->(∀b∈got,Byte b)->∀f∈cutI sep got t,∀b∈f,Byte b
 |[],got,_,hg,f,hf=>by
  simp only[cutI,ZI]at hf
  subst hf
  exact hg
 |c::r,got,h,hg,f,hf=>by
  have hr:∀b∈r,Byte b:=fun b q=>h b (Ze _ q)
  unfold cutI at hf
  by_cases e:c=sep
  ·rw[if_pos e]at hf
   rcases Zw.mp hf with rfl|hf
   ·exact hg
   ·exact Vk r [] hr (by simp) f hf
  ·rw[if_neg e]at hf
   refine Vk r (got++[c]) hr (fun b hb=>?_) f hf
   rcases Zs.mp hb with hb|hb
   ·exact hg b hb
   ·simp only[ZI]at hb
    subst hb
    exact h b Zm
theorem Nl{sep:Int}:∀(t got:List Int),cutI sep got t≠[]
 |[],_=>by simp[cutI]
 |c::r,got=>by
  unfold cutI
  by_cases e:c=sep
  ·rw[if_pos e];simp
  ·rw[if_neg e];exact Nl r _
noncomputable def XH(sep:Int)(s:List (List Int)×List Int)(b:Int):List (List Int)×List Int:=if b=sep then(s.1++[s.2],[])else(s.1,s.2++[b])
theorem Rl{sep:Int}:∀(t:List Int)(ps:List (List Int))(p:List Int),(t.foldl (XH sep) (ps,p)).1++[(t.foldl (XH sep) (ps,p)).2]=ps++cutI sep p t
 |[],ps,p=>rfl
 |c::r,ps,p=>by
  rw[Y7]
  unfold cutI
  by_cases e:c=sep
  ·have e1:XH sep (ps,p) c=(ps++[p],[]):=by unfold XH;rw[if_pos e]
   rw[e1,Rl r,if_pos e,Xv]
   rfl
  ·have e1:XH sep (ps,p) c=(ps,p++[c]):=by unfold XH;rw[if_neg e]
   rw[e1,Rl r,if_neg e]
theorem U4{sep:Int}:∀(t got:List Int),(cutI sep got t).length<=t.length+1
 |[],_=>by simp[cutI]
 |c::r,got=>by
  unfold cutI
  by_cases e:c=sep
  ·rw[if_pos e]
   have:=U4 (sep:=sep) r []
   simp only[Zo]
   omega
  ·rw[if_neg e]
   have:=U4 (sep:=sep) r (got++[c])
   simp only[Zo]
   omega
theorem T9{sep:Int}:∀(t got:List Int),∀f∈cutI sep got t,f.length<=got.length+t.length
 |[],got,f,hf=>by
  simp only[cutI,ZI]at hf
  subst hf
  simp
 |c::r,got,f,hf=>by
  unfold cutI at hf
  by_cases e:c=sep
  ·rw[if_pos e]at hf
   rcases Zw.mp hf with rfl|hf
   ·omega
   ·have:=T9 r [] f hf
    simp only[Yc,Zo]at *
    omega
  ·rw[if_neg e]at hf
   have:=T9 r (got++[c]) f hf
   simp only[Zj,Yc,Zo]at *
   omega
theorem Rg{α β:Type}{f:α->Option β}:([]:List α).mapM f=some []:=rfl
theorem VX{α β:Type}{f:α->Option β}{a:α}{l:List α}:(a::l).mapM f=(f a).bind fun b=>(l.mapM f).bind fun bs=>some (b::bs):=by
 rw[List.mapM_cons]
 rfl
theorem UX{α β:Type}{f:α->Option β}:∀{l:List α}{ys:List β},l.mapM f=some ys->ys.length=l.length
 |[],ys,e=>by rw[Rg]at e;cases e;rfl
 |a::l,ys,e=>by
  rw[VX]at e
  cases h1:f a with
  |none=>rw[h1]at e;cases e
  |some b=>
   rw[h1]at e
   cases h2:l.mapM f with
   |none=>rw[h2]at e;cases e
   |some bs=>
    rw[h2]at e
    cases e
    rw[Zo,Zo,UX h2]
theorem QD{α β γ δ:Type}{f:α->Option β}{k:α->γ}{g:γ->Option δ}{u:δ->β}{ok:δ->Bool}:∀{l:List α},(∀a∈l,∀b,f a=some b↔∃d,g (k a)=some d/\ok d=true/\b=u d)->
  ∀ys,l.mapM f=some ys↔∃ds,(l.map k).mapM g=some ds/\(∀d∈ds,ok d=true)/\ys=ds.map u
 |[],_,ys=>by
  rw[Wz,Rg,Rg]
  constructor
  ·intro e;cases e;exact⟨[],rfl,by simp,rfl⟩
  ·rintro⟨ds,e,_,rfl⟩;cases e;rfl
 |a::l,h,ys=>by
  have ih:=QD (l:=l) (fun x hx=>h x (Ze _ hx))
  have ha:=h a Zm
  rw[ZB,VX,VX]
  constructor
  ·intro e
   cases h1:f a with
   |none=>rw[h1]at e;cases e
   |some b=>
    rw[h1]at e
    cases h2:l.mapM f with
    |none=>rw[h2]at e;cases e
    |some bs=>
     rw[h2]at e
     cases e
     obtain⟨d,e1,e2,rfl⟩:=(ha b).mp h1
     obtain⟨ds,e3,e4,rfl⟩:=(ih bs).mp h2
     refine⟨d::ds,by rw[e1,e3];rfl,?_,rfl⟩
     intro x hx
     rcases Zw.mp hx with rfl|hx
     ·exact e2
     ·exact e4 x hx
  ·rintro⟨ds,e,hok,rfl⟩
   cases h1:g (k a)with
   |none=>rw[h1]at e;cases e
   |some d=>
    rw[h1]at e
    cases h2:(l.map k).mapM g with
    |none=>rw[h2]at e;cases e
    |some ds'=>
     rw[h2]at e
     cases e
     rw[(ha (u d)).mpr ⟨d,h1,hok d Zm,rfl⟩,(ih (ds'.map u)).mpr ⟨ds',h2,fun x hx=>hok x (Ze _ hx),rfl⟩]
     rfl
noncomputable def Uu(b:Int):Bool:=decide (97<=b)&&decide (b<=122)
noncomputable def XO(f:List Int):Bool:=match f with
 |[c]=>decide (33<=c)&&decide (c<=126)
 |f=>decide (2<=f.length)&&decide (f.length<=12)&&f.all Uu
theorem Lp{b:Int}(h:Byte b)(n:Nat)(hn:n<=255):(UInt8.ofNat n<=u8 b↔(n:Int)<=b)/\(u8 b<=UInt8.ofNat n↔b<=(n:Int)):=by
 have e:=R8 h
 have e2:(UInt8.ofNat n).toNat=n:=by rw[UInt8.toNat_ofNat'];omega
 rw[UInt8.le_iff_toNat_le,UInt8.le_iff_toNat_le,e,e2]
 unfold Byte at h
 omega
theorem Kc{b:Int}(h:Byte b):Uu b=isSmall (u8 b):=by
 unfold Uu isSmall
 have h1:=(Lp h 97 (by decide)).1
 have h2:=(Lp h 122 (by decide)).2
 rw[show decide (97<=u8 b)=decide ((97:Int)<=b)from decide_eq_decide.mpr h1,show decide (u8 b<=122)=decide (b<=(122:Int))from decide_eq_decide.mpr h2]
theorem Vr{α β:Type}{k:α->β}{p:α->Bool}{q:β->Bool}:∀{l:List α},(∀a∈l,p a=q (k a))->l.all p=(l.map k).all q
 |[],_=>rfl
 |a::l,h=>by
  rw[ZB,XZ,XZ,h a Zm,Vr fun x hx=>h x (Ze _ hx)]
theorem Si{f:List Int}(h:∀b∈f,Byte b):XO f=isSignName (tx f):=by
 match f,h with
 |[],_=>rfl
 |[c],h=>
  have hc:=h c Zm
  show(decide (33<=c)&&decide (c<=126))=(decide (33<=u8 c)&&decide (u8 c<=126))
  have h1:=(Lp hc 33 (by decide)).1
  have h2:=(Lp hc 126 (by decide)).2
  rw[show decide (33<=u8 c)=decide ((33:Int)<=c)from decide_eq_decide.mpr h1,show decide (u8 c<=126)=decide (c<=(126:Int))from decide_eq_decide.mpr h2]
 |a::b::r,h=>
  show(decide (2<=(a::b::r).length)&&decide ((a::b::r).length<=12)&&(a::b::r).all Uu)=(decide (2<=(tx (a::b::r)).length)&&decide ((tx (a::b::r)).length<=12)&&(tx (a::b::r)).all isSmall)
  have e:(tx (a::b::r)).length=(a::b::r).length:=by unfold tx;rw[Za]
  rw[e,Vr (k:=u8) (q:=isSmall) fun x hx=>Kc (h x hx)]
  rfl
noncomputable def W0(fs:List (List Int)):Option (List Int):=fs.mapM numI
theorem QA{fs:List (List Int)}(h:∀f∈fs,∀b∈f,Byte b)(ns:List Int):W0 fs=some ns↔(fs.map tx).mapM numberOf=some ns/\∀n∈ns,farNumber n=false:=by
 unfold W0
 rw[QD (k:=tx) (g:=numberOf) (u:=id) (ok:=fun n=>!farNumber n) (fun f hf b=>?_) ns]
 ·constructor
  ·rintro⟨ds,e,hk,rfl⟩
   rw[List.map_id]
   exact⟨e,fun n hn=>by have:=hk n hn;simpa using this⟩
  ·rintro⟨e,hk⟩
   exact⟨ns,e,fun n hn=>by rw[hk n hn];rfl,(List.map_id _).symm⟩
 ·rw[numI_eq (h f hf)]
  constructor
  ·rintro⟨e1,e2⟩;exact⟨b,e1,by rw[e2];rfl,rfl⟩
  ·rintro⟨d,e1,e2,rfl⟩;exact⟨e1,by simpa using e2⟩
noncomputable def UF(fs:List (List Int)):Option Box:=match fs with
 |name::r=>if XO name=true then(match W0 r with
  |some [s,n,p,x,y,w,h,d]=>if 0<=s/\s<=2/\0<=n/\0<=p/\0<=w/\0<=h/\0<=d then some {left:=x,low:=y-d,right:=x+w,high:=y+h}else none
  |_=>none)else none
 |[]=>none
noncomputable def TD(fs:List (List Int)):Option Box:=match W0 fs with
 |some [n,x,y,w,h]=>if 0<=n/\0<=w/\0<=h then some {left:=x,low:=y,right:=x+w,high:=y+h}else none
 |_=>none
noncomputable def Vv(line:List Int):Option Box:=match cutI 32 [] line with
 |f::r=>if f=[115]then UF r else if f=[114]then TD r else none
 |[]=>none
theorem tx_one{f:List Int}(h:∀b∈f,Byte b){n:Nat}(hn:n<=255):tx f=[UInt8.ofNat n]↔f=[(n:Int)]:=by
 have e:([UInt8.ofNat n]:Text)=tx [(n:Int)]:=rfl
 rw[e]
 refine tx_inj h fun b hb=>?_
 simp only[ZI]at hb
 subst hb
 unfold Byte
 omega
theorem farOk{n:Int}:farNumber n=false↔ -1000000000<=n/\n<=1000000000:=by
 unfold farNumber FAR
 simp only[YY,decide_eq_false_iff_not]
 omega
theorem VO{n:Int}(h:0<=n):((n.toNat:Nat):Int)=n:=by omega
theorem signI_eq{fs:List (List Int)}(h:∀f∈fs,∀b∈f,Byte b)(b:Box):UF fs=some b↔
  ∃name r s n p x y w hh d,fs.map tx=name::r/\r.mapM numberOf=some [s,n,p,x,y,w,hh,d]/\(isSignName name=true/\0<=s/\s<=2/\0<=n/\0<=p/\0<=w/\0<=hh/\0<=d)/\
   (∀z∈[n,p,x,y,w,hh,d],farNumber z=false)/\b={left:=x,low:=y-d,right:=x+w,high:=y+hh}:=by
 cases fs with
 |nil=>simp[UF]
 |cons f r=>
  have hf:=h f Zm
  have hr:∀g∈r,∀b∈g,Byte b:=fun g q=>h g (Ze _ q)
  have hn:=QA hr
  unfold UF
  simp only
  constructor
  ·intro e
   by_cases q:XO f=true
   ·rw[if_pos q]at e
    split at e
    ·rename_i s n p x y w hh d eq
     by_cases c:0<=s/\s<=2/\0<=n/\0<=p/\0<=w/\0<=hh/\0<=d
     ·rw[if_pos c]at e
      obtain⟨e1,e2⟩:=(hn _).mp eq
      refine⟨tx f,r.map tx,s,n,p,x,y,w,hh,d,rfl,e1,⟨by rw[<-Si hf];exact q,c⟩,fun z hz=>e2 z (Ze _ hz),(ZC e).symm⟩
     ·rw[if_neg c]at e;cases e
    ·cases e
   ·rw[if_neg q]at e;cases e
  ·rintro⟨name,r',s,n,p,x,y,w,hh,d,e,e1,⟨c0,c⟩,e2,rfl⟩
   have ee:=List.cons.inj e
   obtain⟨rfl,rfl⟩:=ee
   have q:XO f=true:=by rw[Si hf];exact c0
   have eq:W0 r=some [s,n,p,x,y,w,hh,d]:=(hn _).mpr ⟨e1,fun z hz=>by
    rcases Zw.mp hz with rfl|hz
    ·exact farOk.mpr (by omega)
    ·exact e2 z hz⟩
   rw[if_pos q,eq]
   simp only
   rw[if_pos c]
theorem ruleI_eq{fs:List (List Int)}(h:∀f∈fs,∀b∈f,Byte b)(b:Box):TD fs=some b↔
  ∃n x y w hh,(fs.map tx).mapM numberOf=some [n,x,y,w,hh]/\(0<=n/\0<=w/\0<=hh)/\
   (∀z∈[n,x,y,w,hh],farNumber z=false)/\b={left:=x,low:=y,right:=x+w,high:=y+hh}:=by
 have hn:=QA h
 unfold TD
 constructor
 ·intro e
  split at e
  ·rename_i n x y w hh eq
   by_cases c:0<=n/\0<=w/\0<=hh
   ·rw[if_pos c]at e
    obtain⟨e1,e2⟩:=(hn _).mp eq
    exact⟨n,x,y,w,hh,e1,c,e2,(ZC e).symm⟩
   ·rw[if_neg c]at e;cases e
  ·cases e
 ·rintro⟨n,x,y,w,hh,e1,c,e2,rfl⟩
  have eq:W0 fs=some [n,x,y,w,hh]:=(hn _).mpr ⟨e1,e2⟩
  rw[eq]
  simp only
  rw[if_pos c]
theorem L0{l:List Int}:l.any farNumber=false↔∀z∈l,farNumber z=false:=by
 rw[W9]
 constructor
 ·intro h z hz;have:=h z hz;simpa using this
 ·intro h z hz;rw[h z hz];simp
theorem N9{x y:Int}{name:Text}{s n p:Nat}{w h d:Int}:farMark {x:=x,y:=y,what:=.sign name s n p w h d}=false↔∀z∈[(n:Int),(p:Int),x,y,w,h,d],farNumber z=false:=by
 show(farNumber x||(farNumber y||[(n:Int),(p:Int),w,h,d].any farNumber))=false↔_
 rw[YY,YY,L0]
 simp only[Zw,Xe,or_false,forall_eq_or_imp,forall_eq]
 constructor
 ·rintro⟨a,b,c,d,e,f,g⟩;exact⟨c,d,a,b,e,f,g⟩
 ·rintro⟨c,d,a,b,e,f,g⟩;exact⟨a,b,c,d,e,f,g⟩
theorem Mb{x y:Int}{n:Nat}{w h:Int}:farMark {x:=x,y:=y,what:=.rule n w h}=false↔∀z∈[(n:Int),x,y,w,h],farNumber z=false:=by
 show(farNumber x||(farNumber y||[(n:Int),w,h].any farNumber))=false↔_
 rw[YY,YY,L0]
 simp only[Zw,Xe,or_false,forall_eq_or_imp,forall_eq]
 constructor
 ·rintro⟨a,b,c,d,e⟩;exact⟨c,a,b,d,e⟩
 ·rintro⟨c,a,b,d,e⟩;exact⟨a,b,c,d,e⟩
theorem markI_eq{line:List Int}(h:∀b∈line,Byte b)(b:Box):Vv line=some b↔∃m,markOf (tx line)=some m/\(!farMark m)=true/\b=m.box:=by
 have hcut:cutAll 32 [] (tx line)=(cutI 32 [] line).map tx:=Tt (sep:=32) (by unfold Byte;omega) line [] h
 have hby:=Vk (sep:=32) line [] h (by simp)
 unfold Vv markOf
 rw[hcut]
 revert hby
 generalize cutI 32 [] line=fs
 intro hby
 cases fs with
 |nil=>simp
 |cons f r=>
  have hf:=hby f Zm
  have hr:∀g∈r,∀b∈g,Byte b:=fun g q=>hby g (Ze _ q)
  rw[ZB]
  simp only
  by_cases e1:f=[115]
  ·rw[if_pos e1,signI_eq hr]
   subst e1
   have et:tx [115]=[115]:=rfl
   rw[et]
   constructor
   ·rintro⟨name,r',s,n,p,x,y,w,hh,d,e,e1,c,e2,rfl⟩
    rw[e]
    simp only
    rw[e1]
    simp only
    rw[if_pos c]
    refine⟨_,rfl,?_,rfl⟩
    rw[Xw,N9,VO c.2.2.2.1,VO c.2.2.2.2.1]
    exact e2
   ·rintro⟨m,e,hfar,rfl⟩
    cases hr':r.map tx with
    |nil=>rw[hr']at e;simp at e
    |cons name r'=>
     rw[hr']at e
     simp only at e
     split at e
     ·rename_i s n p x y w hh d eq
      by_cases c:isSignName name=true/\0<=s/\s<=2/\0<=n/\0<=p/\0<=w/\0<=hh/\0<=d
      ·rw[if_pos c]at e
       have e:=ZC e
       subst e
       refine⟨name,r',s,n,p,x,y,w,hh,d,rfl,eq,c,?_,rfl⟩
       rw[Xw,N9,VO c.2.2.2.1,VO c.2.2.2.2.1]at hfar
       exact hfar
      ·rw[if_neg c]at e;cases e
     ·cases e
  ·rw[if_neg e1]
   by_cases e2:f=[114]
   ·rw[if_pos e2,ruleI_eq hr]
    subst e2
    have et:tx [114]=[114]:=rfl
    rw[et]
    constructor
    ·rintro⟨n,x,y,w,hh,e1,c,e2,rfl⟩
     simp only
     rw[e1]
     simp only
     rw[if_pos c]
     refine⟨_,rfl,?_,rfl⟩
     rw[Xw,Mb,VO c.1]
     exact e2
    ·rintro⟨m,e,hfar,rfl⟩
     simp only at e
     split at e
     ·rename_i n x y w hh eq
      by_cases c:0<=n/\0<=w/\0<=hh
      ·rw[if_pos c]at e
       have e:=ZC e
       subst e
       refine⟨n,x,y,w,hh,eq,c,?_,rfl⟩
       rw[Xw,Mb,VO c.1]at hfar
       exact hfar
      ·rw[if_neg c]at e;cases e
     ·cases e
   ·rw[if_neg e2]
    have n1:tx f≠[115]:=fun q=>e1 ((tx_one hf (n:=115) (by decide)).mp q)
    have n2:tx f≠[114]:=fun q=>e2 ((tx_one hf (n:=114) (by decide)).mp q)
    constructor
    ·intro e;cases e
    ·rintro⟨m,e,_,_⟩
     split at e
     ·rename_i q;exact absurd (List.cons.inj q).1 n1
     ·rename_i q;exact absurd (List.cons.inj q).1 n2
     ·cases e
noncomputable def Uz(line:List Int):Bool:=match W0 (cutI 32 [] line)with
 |some [w,_,_]=>decide (0<=w)
 |_=>false
noncomputable def Q6(t:List Int):Option (List Box):=match cutI 10 [] t with
 |l::r=>if r.length<=1000/\Uz l=true then r.mapM Vv else none
 |[]=>none
theorem Lc{line:List Int}(h:∀b∈line,Byte b):Uz line=true↔∃w hh d,(cutAll 32 [] (tx line)).mapM numberOf=some [w,hh,d]/\0<=w/\[w,hh,d].any farNumber=false:=by
 have hcut:cutAll 32 [] (tx line)=(cutI 32 [] line).map tx:=Tt (sep:=32) (by unfold Byte;omega) line [] h
 have hby:=Vk (sep:=32) line [] h (by simp)
 have hn:=QA hby
 rw[hcut]
 unfold Uz
 constructor
 ·intro e
  split at e
  ·rename_i w hh d eq
   obtain⟨e1,e2⟩:=(hn _).mp eq
   exact⟨w,hh,d,e1,of_decide_eq_true e,L0.mpr e2⟩
  ·cases e
 ·rintro⟨w,hh,d,e1,e2,e3⟩
  rw[(hn _).mpr ⟨e1,L0.mp e3⟩]
  exact decide_eq_true e2
theorem OH{t:List Int}(h:∀b∈t,Byte b):Q6 t=(pictureOf (tx t)).map fun p=>p.marks.map Mark.box:=by
 have hcut:cutAll 10 [] (tx t)=(cutI 10 [] t).map tx:=Tt (sep:=10) (by unfold Byte;omega) t [] h
 have hby:=Vk (sep:=10) t [] h (by simp)
 unfold Q6 pictureOf
 rw[hcut]
 revert hby
 generalize cutI 10 [] t=ls
 intro hby
 cases ls with
 |nil=>rfl
 |cons l r=>
  have hl:=hby l Zm
  have hr:∀g∈r,∀b∈g,Byte b:=fun g q=>hby g (Ze _ q)
  have hf:=Lc hl
  have hm:=QD (f:=Vv) (k:=tx) (g:=markOf) (u:=Mark.box) (ok:=fun m=>!farMark m) (l:=r) fun a ha b=>markI_eq (hr a ha) b
  rw[ZB]
  simp only
  refine Option.ext fun bs=>?_
  constructor
  ·intro e
   by_cases c:r.length<=1000/\Uz l=true
   ·rw[if_pos c]at e
    obtain⟨w,hh,d,e1,e2,e3⟩:=hf.mp c.2
    obtain⟨ms,e4,e5,rfl⟩:=(hm bs).mp e
    have lm:ms.length=r.length:=by rw[UX e4,Za]
    rw[e1,e4]
    simp only
    rw[if_neg]
    ·rfl
    ·rintro(q|q|q)
     ·omega
     ·unfold MOSTMARKS at q;omega
     ·unfold tooFar at q
      simp only[Bool.or_eq_true]at q
      rcases q with q|q
      ·rw[e3]at q;cases q
      ·rw[WA]at q
       obtain⟨m,hm1,hm2⟩:=q
       have:=e5 m hm1
       rw[hm2]at this;cases this
   ·rw[if_neg c]at e;cases e
  ·intro e
   rw[XC]at e
   obtain⟨pic,e,rfl⟩:=e
   split at e
   ·rename_i w hh d ms eq1 eq2
    by_cases c:w<0\/MOSTMARKS<ms.length\/tooFar {width:=w,height:=hh,depth:=d,marks:=ms}=true
    ·rw[if_pos c]at e;cases e
    ·rw[if_neg c]at e
     have e:=ZC e
     subst e
     have lm:ms.length=r.length:=by rw[UX eq2,Za]
     have nf:tooFar {width:=w,height:=hh,depth:=d,marks:=ms}=false:=by
      cases q:tooFar {width:=w,height:=hh,depth:=d,marks:=ms}with
      |false=>rfl
      |true=>exact absurd (.inr (.inr q)) c
     unfold tooFar at nf
     rw[YY]at nf
     have c1:¬MOSTMARKS<ms.length:=fun q=>c (.inr (.inl q))
     unfold MOSTMARKS at c1
     rw[if_pos ⟨by omega,hf.mpr ⟨w,hh,d,eq1,by omega,nf.1⟩⟩]
     refine(hm _).mpr ⟨ms,eq2,fun m hm'=>?_,rfl⟩
     have:=W9.mp nf.2 m hm'
     simpa using this
   ·cases e
end Ma
end
section
namespace Ma
open Vamato
theorem Ws{w h:Nat}{P Q:Nat->Nat->Bool}(e:∀i j,i<w->j<h->P i j=Q i j):cnt w h P=cnt w h Q:=by
 unfold cnt
 refine List.countP_congr fun c hc=>?_
 have:=Ua.mp hc
 rw[e _ _ this.1 this.2]
theorem Sz{α:Type}{p q r:α->Bool}:∀{l:List α},(∀x∈l,q x=(p x||r x)/\(p x&&r x)=false)->l.countP q=l.countP p+l.countP r
 |[],_=>rfl
 |a::l,h=>by
  have ih:=Sz (l:=l) fun x hx=>h x (Ze _ hx)
  have ha:=h a Zm
  rw[X3,X3,X3,ih,ha.1]
  have h2:=ha.2
  revert h2
  cases p a<;>cases r a<;>simp<;>omega
theorem Tu{w h:Nat}{P Q R:Nat->Nat->Bool}(e:∀i j,i<w->j<h->Q i j=(P i j||R i j)/\(P i j&&R i j)=false):cnt w h Q=cnt w h P+cnt w h R:=by
 unfold cnt
 exact Sz fun c hc=>e _ _ (Ua.mp hc).1 (Ua.mp hc).2
theorem Wm(g:Grid)(p:Nat->Nat->Bool):countIf g p=cnt g.width g.height p:=by
 unfold countIf cnt
 rw[List.countP_eq_length_filter]
 rfl
theorem Nq(g:Grid):g.area=cnt g.width g.height g.painted:=Wm g g.painted
theorem Li{a b:Grid}(hle:∀i j,i<a.width->j<a.height->a.painted i j=true->b.painted i j=true):changedCells a b+cnt a.width a.height a.painted=cnt a.width a.height b.painted:=by
 unfold changedCells
 rw[Wm,Vl]
 refine(Tu fun i j hi hj=>?_).symm
 have:=hle i j hi hj
 revert this
 cases a.painted i j<;>cases b.painted i j<;>simp
theorem No{a b:Grid}(hle:∀i j,i<a.width->j<a.height->b.painted i j=true->a.painted i j=true):changedCells a b+cnt a.width a.height b.painted=cnt a.width a.height a.painted:=by
 unfold changedCells
 rw[Wm,Vl]
 refine(Tu fun i j hi hj=>?_).symm
 have:=hle i j hi hj
 revert this
 cases a.painted i j<;>cases b.painted i j<;>simp
noncomputable def updP(P:Nat->Nat->Bool)(i j:Nat)(v:Bool):Nat->Nat->Bool:=fun a b=>if a=i/\b=j then v else P a b
theorem Q0{α:Type}[DecidableEq α]{a:α}:∀{l:List α},l.Nodup->a∈l->l.countP (fun x=>decide (x=a))=1
 |b::l,hn,hm=>by
  rw[YB]at hn
  rw[X3]
  by_cases e:b=a
  ·subst e
   have:l.countP (fun x=>decide (x=b))=0:=by
    rw[List.countP_eq_zero]
    intro x hx q
    exact hn.1 ((of_decide_eq_true q)▸hx)
   rw[this]
   simp
  ·have hm':a∈l:=by
    rcases Zw.mp hm with q|q
    ·exact absurd q.symm e
    ·exact q
   rw[Q0 hn.2 hm']
   simp[e]
theorem cnt_one{w h i j:Nat}(hi:i<w)(hj:j<h):cnt w h (fun a b=>decide (a=i/\b=j))=1:=by
 unfold cnt
 have:=Q0 (a:=((i,j):Nat×Nat)) (Ug w h) (Ua.mpr ⟨hi,hj⟩)
 rw[<-this]
 refine List.countP_congr fun c _=>?_
 obtain⟨a,b⟩:=c
 simp
theorem Nn{w h i j:Nat}{P:Nat->Nat->Bool}(hi:i<w)(hj:j<h)(e:P i j=false):cnt w h (updP P i j true)=cnt w h P+1:=by
 rw[<-cnt_one hi hj]
 refine Tu fun a b _ _=>?_
 unfold updP
 by_cases q:a=i/\b=j
 ·obtain⟨rfl,rfl⟩:=q
  simp[e]
 ·simp[q]
theorem L6{P:Nat->Nat->Bool}{i j:Nat}{v:Bool}(e:P i j=v):updP P i j v=P:=by
 funext a b
 unfold updP
 by_cases q:a=i/\b=j
 ·obtain⟨rfl,rfl⟩:=q
  simp[e]
 ·simp[q]
theorem LY(w h:Nat)(P:Nat->Nat->Bool):cnt w h P+cnt w h (fun i j=>!P i j)=w*h:=by
 have:cnt w h (fun _ _=>true)=cnt w h P+cnt w h (fun i j=>!P i j):=Tu fun i j _ _=>by cases P i j<;>simp
 rw[<-this]
 unfold cnt
 rw[List.countP_eq_length.mpr (by simp),YI,Y0]
noncomputable def Qs(lo hi:Int):List Int:=(List.range (hi-lo).toNat).map fun(k:Nat)=>lo+(k:Int)
theorem MY{lo hi k:Int}:k∈Qs lo hi↔lo<=k/\k<hi:=by
 unfold Qs
 simp only[ZS,Ye]
 constructor
 ·rintro⟨n,hn,rfl⟩;omega
 ·rintro⟨h1,h2⟩;exact⟨(k-lo).toNat,by omega,by omega⟩
noncomputable def Vu(start stop origin size:Int)(many:Int):List Int:=if stop<=start then[]else Qs (max ((start-origin)/size) 0) (min ((stop-1-origin)/size) (many-1)+1)
theorem To{start stop origin size many k:Int}(hs:0<size):k∈Vu start stop origin size many↔(0<=k/\k<many)/\start<stop/\origin+k*size<stop/\start<origin+(k+1)*size:=by
 unfold Vu
 by_cases e:stop<=start
 ·rw[if_pos e]
  constructor
  ·intro h;cases h
  ·rintro⟨_,h,_⟩;omega
 ·rw[if_neg e,MY]
  have h1:(start-origin)/size<=k↔start<origin+(k+1)*size:=by
   have:=Int.ediv_lt_iff_lt_mul (a:=start-origin) (b:=k+1) hs
   omega
  have h2:k<=(stop-1-origin)/size↔origin+k*size<stop:=by
   have:=Int.le_ediv_iff_mul_le (a:=k) (b:=stop-1-origin) hs
   omega
  constructor
  ·rintro⟨a,b⟩
   have a1:(start-origin)/size<=k:=by omega
   have b1:k<=(stop-1-origin)/size:=by omega
   exact⟨by omega,by omega,h2.mp b1,h1.mp a1⟩
  ·rintro⟨a,b,c,d⟩
   have a1:=h1.mpr d
   have b1:=h2.mpr c
   omega
theorem touch1{l s k:Int}{a b:Int}(hs:0<s):max (l+k*s) a<min (l+(k+1)*s) b↔a<b/\l+k*s<b/\a<l+(k+1)*s:=by
 have e1:(k+1)*s=k*s+s:=by rw[Int.add_mul,Int.one_mul]
 rw[e1]
 omega
theorem V7{g:Grid}(hs:0<g.size){m:Vamate.Mark}{i j:Nat}(hi:i<g.width)(hj:j<g.height):
  g.touches m i j=true↔((i:Int)∈Vu m.box.left m.box.right g.left g.size g.width/\(j:Int)∈Vu m.box.low m.box.high g.low g.size g.height):=by
 rw[To hs,To hs]
 show(decide (max (g.left+(i:Int)*g.size) m.box.left<min (g.left+((i:Int)+1)*g.size) m.box.right)&&decide (max (g.low+(j:Int)*g.size) m.box.low<min (g.low+((j:Int)+1)*g.size) m.box.high))=true↔_
 rw[Zv,decide_eq_true_eq,decide_eq_true_eq,touch1 hs,touch1 hs]
 exact and_congr ⟨fun q=>⟨⟨Int.natCast_nonneg _,Int.ofNat_lt.mpr hi⟩,q⟩,fun q=>q.2⟩ ⟨fun q=>⟨⟨Int.natCast_nonneg _,Int.ofNat_lt.mpr hj⟩,q⟩,fun q=>q.2⟩
noncomputable def Near(w h:Nat)(P:Nat->Nat->Bool)(n:Nat)(c:Nat×Nat):Prop:=∃d:Nat×Nat,d.1<w/\d.2<h/\P d.1 d.2=true/\distance c d<=n
theorem Oo{w h:Nat}{P:Nat->Nat->Bool}{c:Nat×Nat}(hc:c.1<w/\c.2<h):Near w h P 0 c↔P c.1 c.2=true:=by
 constructor
 ·rintro⟨d,_,_,hp,hd⟩
  have:c=d:=by
   obtain⟨a,b⟩:=c
   obtain⟨x,y⟩:=d
   unfold distance apartBy at hd
   simp only at hd
   have h1:a=x:=by split at hd<;>split at hd<;>omega
   have h2:b=y:=by split at hd<;>split at hd<;>omega
   rw[h1,h2]
  rw[this];exact hp
 ·intro e
  refine⟨c,hc.1,hc.2,e,?_⟩
  unfold distance apartBy
  simp
theorem apart_is(a b:Nat):(a<=b/\apartBy a b=b-a)\/(b<a/\apartBy a b=a-b):=by
 unfold apartBy
 by_cases h:a<=b
 ·rw[if_pos h];exact .inl ⟨h,rfl⟩
 ·rw[if_neg h];exact .inr ⟨by omega,rfl⟩
theorem ap_lt{a x:Nat}(h:a<x):apartBy a x=apartBy (a+1) x+1:=by
 unfold apartBy
 rw[if_pos (Nat.le_of_lt h),if_pos (show a+1<=x from h)]
 omega
theorem ap_gt{a x:Nat}(h:x<=a):apartBy (a+1) x=apartBy a x+1:=by
 unfold apartBy
 rw[if_neg (by omega)]
 by_cases e:a<=x
 ·rw[if_pos e];omega
 ·rw[if_neg e];omega
theorem Nr(a x:Nat):apartBy a x<=apartBy (a+1) x+1/\apartBy (a+1) x<=apartBy a x+1:=by
 rcases Nat.lt_or_ge a x with h|h
 ·rw[ap_lt h];exact⟨Zl _,by omega⟩
 ·rw[ap_gt h];exact⟨by omega,Zl _⟩
theorem Kw{w h:Nat}{P:Nat->Nat->Bool}{n:Nat}{c:Nat×Nat}(hc:c.1<w/\c.2<h):Near w h P (n+1) c↔Near w h P n c\/∃e:Nat×Nat,e.1<w/\e.2<h/\Adj false e c/\Near w h P n e:=by
 obtain⟨a,b⟩:=c
 obtain⟨c1,c2⟩:=hc
 constructor
 ·rintro⟨⟨x,y⟩,h1,h2,hp,hd⟩
  have hd':apartBy a x+apartBy b y<=n+1:=hd
  rcases Nat.lt_trichotomy a x with q|q|q
  ·refine .inr ⟨(a+1,b),Z3 q h1,c2,.inr (.inl ⟨rfl,.inl rfl⟩),(x,y),h1,h2,hp,?_⟩
   rw[ap_lt q,Nat.add_right_comm]at hd'
   exact Nat.le_of_succ_le_succ hd'
  ·rcases Nat.lt_trichotomy b y with r|r|r
   ·refine .inr ⟨(a,b+1),c1,Z3 r h2,.inl ⟨rfl,.inl rfl⟩,(x,y),h1,h2,hp,?_⟩
    rw[ap_lt r]at hd'
    exact Nat.le_of_succ_le_succ hd'
   ·refine .inl ⟨(x,y),h1,h2,hp,?_⟩
    show apartBy a x+apartBy b y<=n
    rw[q,r]
    unfold apartBy
    rw[if_pos (Zl _),if_pos (Zl _),Nat.sub_self,Nat.sub_self]
    exact ZG _
   ·obtain⟨m,rfl⟩:∃m,b=m+1:=⟨b-1,by clear hd hd' hp;omega⟩
    refine .inr ⟨(a,m),c1,Nat.lt_of_succ_lt c2,.inl ⟨rfl,.inr rfl⟩,(x,y),h1,h2,hp,?_⟩
    rw[ap_gt (Nat.le_of_lt_succ r)]at hd'
    exact Nat.le_of_succ_le_succ hd'
  ·obtain⟨m,rfl⟩:∃m,a=m+1:=⟨a-1,by clear hd hd' hp;omega⟩
   refine .inr ⟨(m,b),Nat.lt_of_succ_lt c1,c2,.inr (.inl ⟨rfl,.inr rfl⟩),(x,y),h1,h2,hp,?_⟩
   rw[ap_gt (Nat.le_of_lt_succ q),Nat.add_right_comm]at hd'
   exact Nat.le_of_succ_le_succ hd'
 ·rintro(⟨d,h1,h2,hp,hd⟩|⟨⟨u,v⟩,he1,he2,ad,⟨x,y⟩,h1,h2,hp,hd⟩)
  ·exact⟨d,h1,h2,hp,Nat.le_succ_of_le hd⟩
  ·refine⟨(x,y),h1,h2,hp,?_⟩
   have hd':apartBy u x+apartBy v y<=n:=hd
   show apartBy a x+apartBy b y<=n+1
   refine Zi ?_ (Nat.succ_le_succ hd')
   have ad':(u=a/\(v=b+1\/b=v+1))\/(v=b/\(u=a+1\/a=u+1)):=by
    rcases ad with q|q|q
    ·exact .inl q
    ·exact .inr q
    ·cases q.1
   clear hd hd' he1 he2 ad
   rcases ad' with⟨rfl,(rfl|rfl)⟩|⟨rfl,(rfl|rfl)⟩
   ·exact Nat.add_le_add_left (Nr b y).1 _
   ·exact Nat.add_le_add_left (Nr v y).2 _
   ·rw[<-Nat.succ_add];exact Nat.add_le_add_right (Nr a x).1 _
   ·rw[<-Nat.succ_add];exact Nat.add_le_add_right (Nr u x).2 _
theorem Kx{w h:Nat}{P:Nat->Nat->Bool}{n m:Nat}{c:Nat×Nat}(hl:n<=m):Near w h P n c->Near w h P m c:=fun⟨d,h1,h2,hp,hd⟩=>⟨d,h1,h2,hp,by omega⟩
theorem TJ(n:Nat)(g:Grid){i j:Nat}(hi:i<g.width)(hj:j<g.height):(grown n g).painted i j=true↔Near g.width g.height g.painted n (i,j):=by
 have e:=Wp g (fun i j=>(g.cells.filter fun c=>g.painted c.1 c.2).any fun c=>decide (distance (i,j) c<=n)) i j
 have e':(grown n g).painted i j=_:=e
 rw[e']
 simp only[hi,hj,decide_true,Bool.true_and,WA,Yv,decide_eq_true_eq]
 constructor
 ·rintro⟨d,⟨hd,hp⟩,hl⟩
  have:=Ua.mp hd
  exact⟨d,this.1,this.2,hp,hl⟩
 ·rintro⟨d,h1,h2,hp,hl⟩
  exact⟨d,⟨Ua.mpr ⟨h1,h2⟩,hp⟩,hl⟩
theorem Up(g:Grid){i j:Nat}(hi:i<g.width)(hj:j<g.height):(inverted g).painted i j=!g.painted i j:=by
 have e:=Wp g (fun i j=>!g.painted i j) i j
 have e':(inverted g).painted i j=_:=e
 rw[e']
 simp[hi,hj]
theorem T5{w h:Nat}{P Q:Nat->Nat->Bool}{n:Nat}{c:Nat×Nat}(e:∀i j,i<w->j<h->P i j=Q i j):Near w h P n c↔Near w h Q n c:=by
 unfold Near
 constructor
 ·rintro⟨d,h1,h2,hp,hd⟩;exact⟨d,h1,h2,by rw[<-e _ _ h1 h2];exact hp,hd⟩
 ·rintro⟨d,h1,h2,hp,hd⟩;exact⟨d,h1,h2,by rw[e _ _ h1 h2];exact hp,hd⟩
theorem Qp(n:Nat)(g:Grid){i j:Nat}(hi:i<g.width)(hj:j<g.height):(shrunk n g).painted i j=true↔¬Near g.width g.height (fun i j=>!g.painted i j) n (i,j):=by
 have e1:(shrunk n g).painted i j=!(grown n (inverted g)).painted i j:=Up (grown n (inverted g)) hi hj
 rw[e1]
 have e2:=TJ n (inverted g) hi hj
 have e3:Near (inverted g).width (inverted g).height (inverted g).painted n (i,j)↔Near g.width g.height (fun i j=>!g.painted i j) n (i,j):=T5 fun a b ha hb=>Up g ha hb
 rw[<-e3,<-e2]
 cases(grown n (inverted g)).painted i j<;>simp
end Ma
end
section
namespace Ma
open Vamato
theorem WF{α:Type}{s a b:List α}{l:List (List α)}:List.intercalate s (a::b::l)=a++s++List.intercalate s (b::l):=by
 simp[List.intercalate,List.intersperse]
theorem Tq{α:Type}{s a:List α}:List.intercalate s [a]=a:=by simp[List.intercalate]
theorem QN{α:Type}{s:List α}:∀{l:List (List α)}{a:List α},l≠[]->List.intercalate s (l++[a])=List.intercalate s l++s++a
 |[],_,h=>absurd rfl h
 |[b],a,_=>by rw[List.singleton_append,WF,Tq,Tq]
 |b::c::l,a,_=>by
  have ih:=QN (s:=s) (l:=c::l) (a:=a) (by simp)
  rw[List.cons_append,List.cons_append,WF,WF]
  rw[List.cons_append]at ih
  rw[ih]
  simp[Xv]
noncomputable def Xs(t r:List Int):List Int:=(if 0<t.length then t++[10]else t)++r
theorem Pn:∀(l done:List (List Int)),(∀r∈done++l,r≠[])->l.foldl Xs (List.intercalate [10] done)=List.intercalate [10] (done++l)
 |[],done,_=>by simp
 |r::l,done,h=>by
  have ih:=Pn l (done++[r]) (by simpa using h)
  rw[Y7]
  have e:Xs (List.intercalate [10] done) r=List.intercalate [10] (done++[r]):=by
   unfold Xs
   cases done with
   |nil=>simp[List.intercalate]
   |cons a d=>
    have ha:a≠[]:=h a (by simp)
    have hp:0<(List.intercalate [10] (a::d)).length:=by
     cases d with
     |nil=>rw[Tq];exact List.length_pos_iff.mpr ha
     |cons b d=>rw[WF];simp;omega
    rw[if_pos hp,QN (by simp)]
  rw[e,ih]
  simp
theorem Ox{α β:Type}{k:α->β}{s:List α}:∀{l:List (List α)},(List.intercalate s l).map k=List.intercalate (s.map k) (l.map (List.map k))
 |[]=>by simp[List.intercalate]
 |[a]=>by simp[List.intercalate]
 |a::b::l=>by
  have ih:=Ox (k:=k) (s:=s) (l:=b::l)
  rw[WF,ZB,ZB,WF,ZJ,ZJ,ih]
  rfl
noncomputable def rowI(w:Nat)(p:Nat->Bool):List Int:=(List.range w).map fun i=>if p i=true then 35 else 46
theorem TM(g:Grid):(gridText g).map (fun b=>(b.toNat:Int))=List.intercalate [10] ((List.range g.height).reverse.map fun j=>rowI g.width fun i=>g.painted i j):=by
 unfold gridText
 rw[Ox,Yg]
 congr 1
 refine Xh fun j _=>?_
 show(rowText g j).map _=_
 unfold rowText rowI
 rw[Yg]
 refine Xh fun i _=>?_
 show((if g.painted i j=true then(35:UInt8)else 46).toNat:Int)=_
 by_cases q:g.painted i j=true
 ·rw[if_pos q,if_pos q];rfl
 ·rw[if_neg q,if_neg q];rfl
noncomputable def Xq(w:Nat)(l:List Int):Bool:=decide (l.length=w)&&l.all fun b=>decide (b=35)||decide (b=46)
noncomputable def VT(w h:Nat)(ls:List (List Int)):Bool:=decide (ls.length=h)&&ls.all (Xq w)
theorem u8_eq{b:Int}(hb:Byte b){n:Nat}(hn:n<=255):(u8 b==UInt8.ofNat n)=decide (b=(n:Int)):=by
 have e:UInt8.ofNat n=u8 (n:Int):=rfl
 rw[e]
 by_cases q:b=(n:Int)
 ·rw[q];simp
 ·have:¬u8 b=u8 (n:Int):=fun z=>q ((R9 hb (by unfold Byte;omega)).mp z)
  rw[decide_eq_false q]
  exact beq_eq_false_iff_ne.mpr this
theorem KC{w:Nat}{l:List Int}(h:∀b∈l,Byte b):Xq w l=((tx l).length==w&&(tx l).all fun c=>c==35||c==46):=by
 unfold Xq
 have e:(tx l).length=l.length:=by unfold tx;rw[Za]
 have e3:l.all (fun b=>decide (b=35)||decide (b=46))=(tx l).all fun c=>c==35||c==46:=by
  refine Vr (k:=u8) fun b hb=>?_
  have h1:=u8_eq (h b hb) (n:=35) (by decide)
  have h2:=u8_eq (h b hb) (n:=46) (by decide)
  show(decide (b=35)||decide (b=46))=(u8 b==35||u8 b==46)
  rw[show(u8 b==35)=decide (b=(35:Int))from h1,show(u8 b==46)=decide (b=(46:Int))from h2]
 rw[e,e3]
 by_cases q:l.length=w
 ·rw[decide_eq_true q];simp[q]
 ·rw[decide_eq_false q,beq_eq_false_iff_ne.mpr q]
noncomputable def U7(ls:List (List Int))(i j:Nat):Bool:=decide ((ls.reverse.getD j []).getD i 46=35)
theorem NO{g:Grid}{t:List Int}(h:∀b∈t,Byte b):readGrid g (tx t)=if VT g.width g.height (cutI 10 [] t)=true then some (g.with (U7 (cutI 10 [] t)))else none:=by
 have hcut:Vamate.cutAll 10 [] (tx t)=(cutI 10 [] t).map tx:=Tt (sep:=10) (by unfold Byte;omega) t [] h
 have hby:=Vk (sep:=10) t [] h (by simp)
 unfold readGrid
 rw[hcut]
 revert hby
 generalize cutI 10 [] t=ls
 intro hby
 have hc:(((ls.map tx).reverse.length=g.height/\((ls.map tx).reverse.all fun r=>r.length==g.width&&r.all fun c=>c==35||c==46)=true))↔VT g.width g.height ls=true:=by
  unfold VT
  rw[V3,Za,List.all_reverse,Zv,decide_eq_true_eq,<-Vr (k:=tx) (p:=Xq g.width) fun l hl=>KC (hby l hl)]
 by_cases q:VT g.width g.height ls=true
 ·rw[if_pos q]
  simp only
  rw[if_pos (hc.mpr q)]
  congr 1
  unfold Grid.with
  congr 1
  refine WW fun i j hi hj=>?_
  unfold U7
  rw[<-List.map_reverse]
  unfold VT at q
  rw[Zv,decide_eq_true_eq,Xd]at q
  have hj':j<ls.reverse.length:=by rw[V3,q.1];exact hj
  have e1:(ls.reverse.map tx).getD j []=tx (ls.reverse.getD j []):=by
   rw[Z8,Z8,ZA,Zu hj']
   rfl
  rw[e1]
  have hm:ls.reverse.getD j []∈ls:=by
   rw[Z8,Zu hj']
   exact List.mem_reverse.mp (List.getElem_mem hj')
  have hb:=hby _ hm
  have hok:=q.2 _ hm
  revert hb hok
  generalize ls.reverse.getD j []=l
  intro hb hok
  unfold Xq at hok
  rw[Zv,decide_eq_true_eq]at hok
  have hi':i<l.length:=by rw[hok.1];exact hi
  have e2:(tx l).getD i 46=u8 (l.getD i 46):=by
   unfold tx
   simp[Z8,hi']
  rw[e2]
  have hbi:Byte (l.getD i 46):=by
   rw[Z8,Zu hi']
   exact hb _ (List.getElem_mem hi')
  exact u8_eq hbi (n:=35) (by decide)
 ·rw[if_neg q]
  simp only
  rw[if_neg (fun z=>q (hc.mp z))]
open PyFlat in
theorem Lj{shape:Int->Option (Nat×Nat)}{f:Nat}{p:Int}{r:List Int}{cs:List (List (List Int))}(h:calls shape f (p::r)=some cs):
  ∃f' n k xs t cs',shape p=some (n,k)/\n<=r.length/\rows k (r.drop n)=some (xs,t)/\calls shape f' t=some cs'/\cs=((p::r.take n)::xs)::cs':=by
 cases f with
 |zero=>cases h
 |succ f=>
  have e0:calls shape (f+1) (p::r)=(match call shape (p::r)with
   |none=>none
   |some (c,t)=>match calls shape f t with
    |none=>none
    |some cs=>some (c::cs)):=rfl
  rw[e0]at h
  have e1:call shape (p::r)=(match shape p with
   |none=>none
   |some (n,k)=>if r.length<n then none else match rows k (r.drop n)with
    |none=>none
    |some (xs,t)=>some ((p::r.take n)::xs,t)):=rfl
  rw[e1]at h
  cases hs:shape p with
  |none=>rw[hs]at h;cases h
  |some nk=>
   obtain⟨n,k⟩:=nk
   rw[hs]at h
   simp only at h
   by_cases hl:r.length<n
   ·rw[if_pos hl]at h;cases h
   ·rw[if_neg hl]at h
    cases hr:rows k (r.drop n)with
    |none=>rw[hr]at h;cases h
    |some xt=>
     obtain⟨xs,t⟩:=xt
     rw[hr]at h
     simp only at h
     cases hc:calls shape f t with
     |none=>rw[hc]at h;cases h
     |some cs'=>
      rw[hc]at h
      cases h
      exact⟨f,n,k,xs,t,cs',rfl,by omega,hr,hc,rfl⟩
open PyFlat in
theorem Uk{r:List Int}{xs:List (List Int)}{t:List Int}(h:rows 0 r=some (xs,t)):xs=[]/\t=r:=by
 cases h
 exact⟨rfl,rfl⟩
open PyFlat in
theorem NI{r:List Int}{xs:List (List Int)}{t:List Int}(h:rows 1 r=some (xs,t)):∃m r',r=m::r'/\0<=m/\m.toNat<=r'.length/\xs=[r'.take m.toNat]/\t=r'.drop m.toNat:=by
 cases r with
 |nil=>cases h
 |cons m r'=>
  have e:rows 1 (m::r')=(match(if 0<=m/\m.toNat<=r'.length then some (r'.take m.toNat,r'.drop m.toNat)else none)with
   |none=>none
   |some (x,s)=>match rows 0 s with
    |none=>none
    |some (xs,t)=>some (x::xs,t)):=rfl
  rw[e]at h
  by_cases c:0<=m/\m.toNat<=r'.length
  ·rw[if_pos c]at h
   have h':some ([r'.take m.toNat],r'.drop m.toNat)=some (xs,t):=h
   cases h'
   exact⟨m,r',rfl,c.1,c.2,rfl,rfl⟩
  ·rw[if_neg c]at h;cases h
theorem L3(x:Int)(r:List Int)(t:List (List Int)):PyVamato.whole ((x::r)::t)=(x::r)::t:=by
 unfold PyVamato.whole
 rcases x with(_|_|_|_|_|_|_|_|_|_|_|_|_|_|_|_|_|_|_|_|n)|n<;>
 first
 |rfl
 |(rcases t with _|⟨s,_|⟨t,u⟩⟩<;>first|rfl|(rcases r with _|⟨a,_|⟨b,_|⟨c,_|⟨d,_|⟨e,_|⟨f,g⟩⟩⟩⟩⟩⟩<;>rfl))
theorem whole_id(c:List (List Int)):PyVamato.whole c=c:=by
 rcases c with _|⟨_|⟨x,r⟩,t⟩
 ·rfl
 ·unfold PyVamato.whole
  rcases t with _|⟨s,_|⟨t,u⟩⟩<;>rfl
 ·exact L3 x r t
theorem L9(a:List Int)(l:List (List Int)):PyFlat.told (a::l)=((a.length:Int)::a)++PyFlat.told l:=by
 unfold PyFlat.told
 rw[List.flatMap_cons]
end Ma
end
section
namespace Ma
open Vamato
noncomputable def sumTo:Nat->(Nat->Nat)->Nat
 |0,_=>0
 |n+1,f=>sumTo n f+f n
noncomputable def b2n(b:Bool):Nat:=if b=true then 1 else 0
theorem Wi{f g:Nat->Nat}:∀{n:Nat},(∀i,i<n->f i=g i)->sumTo n f=sumTo n g
 |0,_=>rfl
 |n+1,h=>by rw[sumTo,sumTo,Wi fun i hi=>h i (by omega),h n (by omega)]
theorem WH{f g:Nat->Nat}:∀{n:Nat},sumTo n (fun i=>f i+g i)=sumTo n f+sumTo n g
 |0=>rfl
 |n+1=>by rw[sumTo,sumTo,sumTo,WH];omega
theorem Qa:∀{n:Nat},sumTo n (fun _=>0)=0
 |0=>rfl
 |n+1=>by rw[sumTo,Qa]
theorem TW{f:Nat->Nat->Nat}{m:Nat}:∀{n:Nat},sumTo n (fun j=>sumTo m fun i=>f i j)=sumTo m (fun i=>sumTo n fun j=>f i j)
 |0=>Qa.symm
 |n+1=>by
  show sumTo n (fun j=>sumTo m fun i=>f i j)+sumTo m (fun i=>f i n)=sumTo m fun i=>sumTo n (fun j=>f i j)+f i n
  rw[TW (n:=n),WH]
theorem SA(p:Nat->Bool):∀n:Nat,(List.range n).countP p=sumTo n fun i=>b2n (p i)
 |0=>rfl
 |n+1=>by
  rw[YC,List.countP_append,SA p n,sumTo,X3,List.countP_nil]
  unfold b2n
  cases p n<;>simp
theorem VJ(w:Nat)(P:Nat->Nat->Bool):∀h:Nat,cnt w h P=sumTo h fun j=>sumTo w fun i=>b2n (P i j)
 |0=>rfl
 |h+1=>by
  have ih:=VJ w P h
  unfold cnt at ih⊢
  rw[WU,List.countP_append,ih,sumTo,List.countP_map]
  congr 1
  exact SA (fun i=>P i h) w
theorem Od(p:Nat->Bool):∀w:Nat,sumTo (w+1) (fun i=>b2n (decide (0<i)&&p (i-1)&&p i))=sumTo w fun i=>b2n (p i&&p (i+1))
 |0=>rfl
 |w+1=>by
  rw[sumTo,Od p w,sumTo]
  congr 2
theorem Qr{p:Nat->Bool}{w:Nat}(h:p w=false):sumTo w (fun i=>b2n (decide (0<i)&&p (i-1)&&p i))=sumTo w fun i=>b2n (p i&&p (i+1)):=by
 have e:=Od p w
 rw[sumTo,h]at e
 simpa[b2n]using e
theorem X2{g:Grid}{i j:Nat}(h:¬i<g.width\/¬j<g.height):g.painted i j=false:=by
 unfold Grid.painted
 rcases h with h|h<;>simp[h]
noncomputable def nbs(g:Grid)(i j:Nat):Nat:=b2n (g.painted (i+1) j)+b2n (decide (0<i)&&g.painted (i-1) j)+(b2n (g.painted i (j+1))+b2n (decide (0<j)&&g.painted i (j-1)))
theorem O7(g:Grid):sumTo g.height (fun j=>sumTo g.width fun i=>if g.painted i j=true then nbs g i j else 0)=2*pairsIn g:=by
 have right:∀j,sumTo g.width (fun i=>b2n (decide (0<i)&&g.painted (i-1) j&&g.painted i j))=sumTo g.width fun i=>b2n (g.painted i j&&g.painted (i+1) j):=fun j=>Qr (p:=fun i=>g.painted i j) (X2 (.inl (YZ _)))
 have up:∀i,sumTo g.height (fun j=>b2n (decide (0<j)&&g.painted i (j-1)&&g.painted i j))=sumTo g.height fun j=>b2n (g.painted i j&&g.painted i (j+1)):=fun i=>Qr (p:=fun j=>g.painted i j) (X2 (.inr (YZ _)))
 have split:∀i j,(if g.painted i j=true then nbs g i j else 0)=b2n (g.painted i j&&g.painted (i+1) j)+b2n (decide (0<i)&&g.painted (i-1) j&&g.painted i j)+(b2n (g.painted i j&&g.painted i (j+1))+b2n (decide (0<j)&&g.painted i (j-1)&&g.painted i j)):=by
  intro i j
  unfold nbs
  cases g.painted i j
  ·simp[b2n]
  ·simp
 have e1:sumTo g.height (fun j=>sumTo g.width fun i=>if g.painted i j=true then nbs g i j else 0) =
   sumTo g.height (fun j=>sumTo g.width fun i=>b2n (g.painted i j&&g.painted (i+1) j))+sumTo g.height (fun j=>sumTo g.width fun i=>b2n (decide (0<i)&&g.painted (i-1) j&&g.painted i j)) +
    (sumTo g.height (fun j=>sumTo g.width fun i=>b2n (g.painted i j&&g.painted i (j+1)))+sumTo g.height (fun j=>sumTo g.width fun i=>b2n (decide (0<j)&&g.painted i (j-1)&&g.painted i j))):=by
  rw[<-WH,<-WH,<-WH]
  refine Wi fun j _=>?_
  rw[<-WH,<-WH,<-WH]
  exact Wi fun i _=>split i j
 have e2:sumTo g.height (fun j=>sumTo g.width fun i=>b2n (decide (0<i)&&g.painted (i-1) j&&g.painted i j))=sumTo g.height (fun j=>sumTo g.width fun i=>b2n (g.painted i j&&g.painted (i+1) j)):=Wi fun j _=>right j
 have e3:sumTo g.height (fun j=>sumTo g.width fun i=>b2n (decide (0<j)&&g.painted i (j-1)&&g.painted i j))=sumTo g.height (fun j=>sumTo g.width fun i=>b2n (g.painted i j&&g.painted i (j+1))):=by
  rw[TW,TW (f:=fun i j=>b2n (g.painted i j&&g.painted i (j+1)))]
  exact Wi fun i _=>up i
 unfold pairsIn
 rw[e1,e2,e3,Wm,Wm,VJ,VJ]
 omega
noncomputable def sides(g:Grid)(i j:Nat):Nat:=b2n (!g.painted (i+1) j)+b2n (!(decide (0<i)&&g.painted (i-1) j))+(b2n (!g.painted i (j+1))+b2n (!(decide (0<j)&&g.painted i (j-1))))
theorem Kd(g:Grid)(i j:Nat):sides g i j+nbs g i j=4:=by
 unfold sides nbs b2n
 cases g.painted (i+1) j<;>cases(decide (0<i)&&g.painted (i-1) j)<;>cases g.painted i (j+1)<;>cases(decide (0<j)&&g.painted i (j-1))<;>rfl
end Ma
end
section
namespace Ma
open Vamato
theorem Q2{w h:Nat}{corners:Bool}{allowed:Nat->Nat->Bool}{c:Nat×Nat}{S:Nat×Nat->Prop}(h0:S c)(h1:∀d,S d->Comp w h corners allowed c d)
  (h2:∀d e:Nat×Nat,S d->Adj corners d e->e.1<w->e.2<h->allowed e.1 e.2=true->S e) (d:Nat×Nat):S d↔Comp w h corners allowed c d:=by
 refine⟨h1 d,fun r=>?_⟩
 induction r with
 |base e=>subst e;exact h0
 |step _ a b e f ih=>exact h2 _ _ ih a b e f
end Ma
end
section
namespace L2
open PySem PySem.Spec PyProof.Rows
noncomputable def GV(mg:Str->Option Value)(x:Str)(v:V):Prop:=∃u,mg x=some u/\RelV v u
theorem pe_g{X:Cx}{x:Str}{v:V}{pos:Pos}(hg:Gl X x)(h:GV X.mg x v)(hd:(x==("__debug__":Str))=false:=by decide):PE X (.Name x pos) (tC v):=by
 obtain⟨u,hm,r⟩:=h
 exact pe_glob hg hm r hd
noncomputable def Callee(P:Program)(w:World)(K:PySem.W.Frag)(mg:Str->Option Value)(base:Heap)(x:Str)(k:Nat)(ps:List Str)(sp:Sp):Prop:=
 ∃f fd,mg x=some (.ref f)/\PySem.W.keepIn K (.ref f)=true/\Binds K fd ps []/\FnOk P w K mg base CX0 k f fd ps sp
noncomputable def Y5(P:Program)(w:World)(K:PySem.W.Frag)(mg:Str->Option Value)(base:Heap)(C:Addr)(m:Str)(k:Nat)(ps:List Str)(sp:Sp):Prop:=
 Cls K C/\∃f fd,Meth K C m f/\Binds K fd ps []/\FnOk P w K mg base CX0 k f fd ps sp
noncomputable def ON(P:Program)(w:World)(K:PySem.W.Frag)(mg:Str->Option Value)(base:Heap)(x:Str)(C:Addr)(k:Nat)(ps:List Str)(sp:Sp):Prop:=
 ∃f fd,mg x=some (.ref C)/\Mk K C f/\Binds K fd ps []/\FnOk P w K mg base CX0 k f fd ps sp
section
variable{X:Cx}{x m:Str}{k n:Nat}{ps:List Str}{sp:Sp}{C:Addr}{e o:Expr}{es:List Expr}{t:TA}{ta:TE}{p pos apos:Pos}
theorem ZU(c:Callee X.prog X.w X.K X.mg X.base x k ps sp)(hr:Room n X.A)(hg:Gl X x)(ha:PA X (e::es) t)(hk:k<=n:=by decide)(hdb:(x==("__debug__":Str))=false:=by decide)
  (he:starEach (e::es) X.env=(false,eval e X.env)::starEach es X.env:=by rfl) (hpl:(backTo pos (starEach es X.env)).any (·.1)=false:=by rfl):
  PE X (.Call (.Name x p) (e::es) [] pos) (tCall sp [] E0 t):=by
 obtain⟨f,fd,hm,hkp,hb,F⟩:=c
 exact pe_call F (hr.mono hk) hg hm hkp hb .nil Oh ha hdb he hpl
theorem YW{pl:Sem Bool}(he:PE X o ta)(c:Y5 X.prog X.w X.K X.mg X.base C m k ps sp)(hr:Room n X.A)(ha:PA X (e::es) t)(hk:k<=n:=by decide)
  (hst:starEach (e::es) X.env=(false,eval e X.env)::starEach es X.env:=by rfl) (hpl:(backTo pos (starEach es X.env)).any (·.1)=false:=by rfl)
  (ht:eval (.Call (.Attribute o m apos) (e::es) [] pos) X.env=(do
   let ov<-eval o X.env
   standAt apos.atName
   let(f,first)<-holding [ov] (getMethod ov m pl)
   callWith pos f first (backTo pos (starEach (e::es) X.env)) (backToKw pos (keywordEach [] X.env))):=by rfl):
  PE X (.Call (.Attribute o m apos) (e::es) [] pos) (Pr C m sp [] E0 ta t):=by
 obtain⟨cl,f,fd,hm,hb,F⟩:=c
 exact pe_meth (pl:=pl) he cl hm F (hr.mono hk) hb .nil Oh ha hst hpl ht
theorem Yu{pl:Sem Bool}(he:PE X o ta)(c:Y5 X.prog X.w X.K X.mg X.base C m k ps sp)(hr:Room n X.A)(hk:k<=n:=by decide)
  (ht:eval (.Call (.Attribute o m apos) [] [] pos) X.env=(do
   let ov<-eval o X.env
   standAt apos.atName
   let(f,first)<-holding [ov] (getMethod ov m pl)
   callWith pos f first (backTo pos (starEach [] X.env)) (backToKw pos (keywordEach [] X.env))):=by rfl):
  PE X (.Call (.Attribute o m apos) [] [] pos) (Pr C m sp [] E0 ta tNil):=by
 obtain⟨cl,f,fd,hm,hb,F⟩:=c
 exact pe_meth0 (pl:=pl) he cl hm F (hr.mono hk) hb .nil Oh ht
theorem Qw(c:ON X.prog X.w X.K X.mg X.base x C k ps sp)(hr:Room n X.A)(hg:Gl X x)(ha:PA X (e::es) t)(hk:k+1<=n:=by decide)(hdb:(x==("__debug__":Str))=false:=by decide)
  (he:starEach (e::es) X.env=(false,eval e X.env)::starEach es X.env:=by rfl) (hpl:(backTo pos (starEach es X.env)).any (·.1)=false:=by rfl):
  PE X (.Call (.Name x p) (e::es) [] pos) (Ls C sp [] E0 t):=by
 obtain⟨f,fd,hm,M,hb,F⟩:=c
 exact pe_make M F (hr.mono hk) hg hm hb .nil Oh ha hdb he hpl
theorem Kj(c:ON X.prog X.w X.K X.mg X.base x C k ps sp)(hr:Room n X.A)(hg:Gl X x)(hk:k+1<=n:=by decide)(hdb:(x==("__debug__":Str))=false:=by decide):
  PE X (.Call (.Name x p) [] [] pos) (Ls C sp [] E0 tNil):=by
 obtain⟨f,fd,hm,M,hb,F⟩:=c
 exact pe_make0 M F (hr.mono hk) hg hm hb .nil Oh hdb
noncomputable def tCallL(X:Cx)(i:Nat)(t:TA):TE:=fun σ H Q=>∃f k fd ps sp,σ[i]?=some (some (.ref f))/\PySem.W.keepIn X.K (.ref f)=true/\Binds X.K fd ps []/\FnOk X.prog X.w X.K X.mg X.base CX0 k f fd ps sp/\Room k X.A/\
 t σ H fun vs H1=>sp (vs++[]) H1 Q E0
theorem pe_callL(i:Nat)(ha:PA X (e::es) t)(hN:X.N[i]?=some x:=by rfl)(hv:Vis X.env.scope x:=by first|exact Or.inl rfl|exact Or.inr (Or.inl rfl)|exact Or.inr (Or.inr rfl))
  (hd:(x==("__debug__":Str))=false:=by decide) (hcd:(x==("__classdict__":Str))=false:=by decide)
  (he:starEach (e::es) X.env=(false,eval e X.env)::starEach es X.env:=by rfl) (hpl:(backTo pos (starEach es X.env)).any (·.1)=false:=by rfl):
  PE X (.Call (.Name x p) (e::es) [] pos) (tCallL X i t):=by
 intro pins s σ H Q I h
 obtain⟨f,k,fd,ps,sp,e1,hk,hb,F,hr,h⟩:=h
 refine Wn (thn (pe_var hN hv hd hcd pins s σ H (fun v H1=>v=.ref f/\H1=H) I ⟨_,e1,rfl,rfl⟩) fun u s1 ⟨v,H1,I1,r1,ev,eh⟩=>?_)
 subst ev eh
 cases r1
 refine PySem.W.callWith_K (h₀:=X.base) I.ok.mod.kin hk (thn (ha pos pins s1 σ _ _ I1 h) fun us s2 ⟨vs,H2,I2,r,q⟩=>⟨I2.kIn,?_⟩) he hpl
 exact O1 F hr hb .nil Oh I2 r q
end
end L2
end
section
namespace L2
open PySem PySem.Spec PyProof.Rows
theorem V1{K:PySem.W.Frag}{H:Hp}:∀ns:List Int,Pb K H (ns.map V.int) (ns.map PyData.int)
 |[]=>.nil
 |n::r=>.cons (.int n) (V1 r)
theorem U3:∀xs ys:List Int,PyData.eqvAll (xs.map PyData.int) (ys.map PyData.int)=decide (xs=ys)
 |[],[]=>by simp[PyData.eqvAll]
 |[],y::ys=>by simp[PyData.eqvAll]
 |x::xs,[]=>by simp[PyData.eqvAll]
 |x::xs,y::ys=>by
  simp only[ZB,PyData.eqvAll,PyData.eqv,U3 xs ys]
  rw[Yd]
  simp
theorem depthAll_ints:∀ns:List Int,PyData.depthAll (ns.map PyData.int)<=1
 |[]=>by simp[PyData.depthAll]
 |n::r=>by
  have:=depthAll_ints r
  simp only[ZB,PyData.depthAll,PyData.depth]
  omega
theorem shaped_ints(ns:List Int):SeqAt.shaped (.list (ns.map PyData.int))=true:=by
 unfold SeqAt.shaped
 have h:=depthAll_ints ns
 rw[Zv,decide_eq_true_eq]
 refine⟨by simp only[PyData.canLay0,canLayAll_ints],?_⟩
 simp only[PyData.depth]
 omega
noncomputable def rEqL(K:PySem.W.Frag):R2:=fun x y H Q=>∃(a b:Addr)(xs ys:List Int),x=.ref a/\y=.ref b/\SqL K H a (xs.map V.int)/\SqL K H b (ys.map V.int)/\Q (.bl (decide (xs=ys))) H
theorem MS{X:Cx}(hu:X.A.units+64<cLine):OpR X (compareOp .Eq) (rEqL X.K):=by
 intro pins s σ H x y v u Q I rx ry h
 obtain⟨a,b,xs,ys,rfl,rfl,ha,hb,q⟩:=h
 refine op_eqD hu pins s σ H _ _ v u Q I rx ry ⟨_,_,.lst ha (V1 xs),.lst hb (V1 ys),shaped_ints xs,shaped_ints ys,?_⟩
 show Q (.bl (PyData.eqvAll (xs.map PyData.int) (ys.map PyData.int))) H
 rw[U3]
 exact q
section
open PySem.W
variable{prog:Program}{w:World}{A:Around}{E:Value->Shared->Prop}{s:Shared}{K:Frag}{x C:Addr}{ox:Obj}{od:Option Obj}
structure EqC(K:Frag)(C:Addr):Prop where
 eq:findIn K (.ref C) "__eq__"=some (some (.builtin "object.__eq__"))
 mro:mroIn K C (.type "object")=some true
 sub:subIn K (.type "NoneType") (.ref C)=some false
theorem RL{Q:Option Value->Shared->Prop}(X:K.In s.heap)(I:InstAt s.heap x ox C od)(c:EqC K C)(h:Q none s):wpAny (model prog w) A (tryCompare (.ref x) "__eq__" .none) Q E s:=by
 have callIt:wpAny (model prog w) A (call (.builtin "object.__eq__") [.ref x,.none]) (fun v s'=>v=.notImplemented/\s'=s) E s:=by
  refine wpAny_call (codeAny_call_builtin F.cmp_object.eq.plain F.cmpEntry_eq ?_)
  simp only[checkBuiltinCall,F.cmpKind_eq,F.cmpSplit_eq]
  refine Zc ?_
  unfold isInstance
  refine Zc (I.type.here ((looks_mroIn X c.mro).here ?_))
  rw[if_neg (by simp)]
  have ha:argsOk "object.__eq__" ⟨[.ref x,.none],[]⟩:=F.cmpArgs_eq _ _
  have fin:wpAny (model prog w) A.in1 (Builtin.«object.__eq__» ⟨[.ref x,.none],[]⟩) (fun fin s'=>match fin with
    | .done f=>(match(Except.ok f:Result)with| .ok (.ret v)=>v=.notImplemented/\s'=s| .ok _=>False| .error e=>E e s')
    | .again c'=>c'.quiet=true/\codeAny (model prog w) A c' (fun r s'=>match r with| .ok (.ret v)=>v=.notImplemented/\s'=s| .ok _=>False| .error e=>E e s') s') (fun e s'=>E e s') s:=by
   unfold Builtin.«object.__eq__»
   repeat (first|with_reducible refine wpAny_of_eq (rfl:isSame (.ref x) .none=pure false) ?_|wp_step)
   exact⟨rfl,rfl⟩
  cases hsig:Manifest.signature? "object.__eq__" with
  |none=>exact Zq fin
  |some sig=>
   simp only[argsOk,hsig]at ha
   have h2:Bind.checkArgs "object.__eq__" sig ⟨[.ref x,.none],[]⟩=pure ():=ha
   show wpAny _ _ (Bind.checkArgs "object.__eq__" sig ⟨[.ref x,.none],[]⟩) _ _ _
   rw[h2]
   exact Zq fin
 unfold tryCompare
 simp only[callSpecialIfBound?,bindSpecialIfBound?]
 refine Zc (YV (Zc (Zc (Zc (I.type.here ((looks_findIn X c.eq).here ?_))))))
 refine Zc (wpAny_askSetting (wpAny_ite ?_))
 have bnd:bindSpecial (.builtin "object.__eq__") (.ref x)=pure (.builtin "object.__eq__",[.ref x]):=F.cmp_object.eq.bind _
 simp only[bnd]
 have fin2:wpAny (model prog w) A (call (.builtin "object.__eq__") ([.ref x]++[.none]) >>= fun v=>pure (some v)) (fun r s'=>wpAny (model prog w) A (match r with
   |some .notImplemented|none=>pure none
   |some v=>pure (some v)) Q E s') E s:=Zc (XF callIt (fun v s' h'=>by obtain⟨rfl,rfl⟩:=h';exact Zq (Zq h)) fun _ _ h'=>h')
 split
 ·exact Zc (Zq (Zq fin2))
 ·exact wpAny_tryCatch (Zc (Zq (Zq fin2)))
theorem Ni(hu:A.units<cLine)(X:K.In s.heap)(I:InstAt s.heap x ox C od)(c:EqC K C){Q:Bool->Shared->Prop}(h:Q false s):wpAny (model prog w) A (eqBool (.ref x) .none) Q E s:=by
 unfold eqBool
 refine YV ?_
 refine wpAny_ite_split (fun hab=>absurd (eq_of_beq hab) nofun) (fun _=>?_)
 refine Zc ?_
 unfold richCompare
 simp only[oneThing_ref]
 refine YV (Zc (wpAny_cRoomFor hu ?_))
 refine Zc (I.type.here (Zc (wpAny_typeOf (T:="NoneType") rfl ?_)))
 split
 ·refine Zc ((looks_subIn X c.sub).here ?_)
  simp only[ZR,if_false]
  refine Zc (RL X I c ?_)
  simp only[Bool.not_false,if_true]
  refine Zc (wpAny_tryCompare_declines (T:="NoneType") rfl F.slot_NoneType_eq_refl (call_gives F.slot_NoneType_eq_refl rfl F.entry_NoneType_eq (F.args_NoneType_eq_2 _ _) (SeqAt.NoneType___eq___none_ref_0 x) ⟨rfl,?_⟩))
  refine Zc (wpAny_rule (Zc (wpAny_of_eq (rfl:isSame (.ref x) .none=pure false) (Zq ?_))))
  exact YX h
 ·rename_i q
  exfalso
  simp at q
end
noncomputable def NoneOr(K:PySem.W.Frag)(H:Hp):V->Prop
 | .non=>True
 | .int _=>True
 | .ref a=>(∃xs,SqL K H a xs)\/∃C dx fs,H a=some (.ins C dx fs)/\EqC K C
 |_=>False
noncomputable def Sr:V->Bool
 | .non=>true
 |_=>false
noncomputable def Sq:Value->Bool
 | .none=>true
 |_=>false
theorem QL{y:V}{u:Value}(r:RelV y u):Sq u=Sr y:=by
 cases y with
 |non=>cases r;rfl
 |bl _=>cases r;rfl
 |int _=>obtain⟨t,rfl⟩:=r;rfl
 |str _=>obtain⟨t,rfl⟩:=r;rfl
 |byt _=>obtain⟨t,rfl⟩:=r;rfl
 |flt _=>obtain⟨t,rfl⟩:=r;rfl
 |ref _=>cases r;rfl
 |ty _=>cases r;rfl
theorem RK:∀{xs:List V}{us:List Value},Vals xs us->us.any Sq=xs.any Sr
 |_,_,.nil=>rfl
 |_,_,.cons r t=>by rw[Yt,Yt,QL r,RK t]
theorem Nu:∀{xs:List V}{us:List Value}{u:Value},Vals xs us->u∈us->∃x∈xs,RelV x u
 |_,_,_,.nil,h=>nomatch h
 |_,_,_,.cons r t,h=>by
  rcases Zw.mp h with rfl|h
  ·exact⟨_,Zm,r⟩
  ·obtain⟨x,hx,rx⟩:=Nu t h
   exact⟨x,Ze _ hx,rx⟩
noncomputable def rInNone(K:PySem.W.Frag):R2:=fun x y H Q=>x=.non/\∃(p:Addr)(xs:List V),y=.ref p/\SqL K H p xs/\(∀v∈xs,NoneOr K H v)/\Q (.bl (xs.any Sr)) H
theorem Rc{X:Cx}(hu:X.A.units+64<cLine):OpR X (compareOp .In) (rInNone X.K):=by
 intro pins s σ H x y v u Q I rx ry h
 obtain⟨rfl,p,xs,rfl,hS,hx,q⟩:=h
 cases rx
 cases ry
 have hu1:X.A.in1.units<cLine:=by show X.A.units+1<cLine;omega
 obtain⟨its,r,pl,hz⟩:=I.list hS
 refine SeqAt.in_listAt Sq pl.isList (fun w hw=>?_) ⟨.bl _,H,I,rfl,?_⟩
 ·obtain⟨z,hz,rz⟩:=Nu r (by simpa using hw)
  have hn:=hx z hz
  rw[QL rz]
  cases z with
  |non=>cases rz;exact SeqAt.EqAt.same _
  |int i=>obtain⟨t,rfl⟩:=rz;exact SeqAt.EqAt.int_none i t
  |ref a=>
   cases rz
   rcases hn with⟨ys,hl⟩|⟨C,dx,fs,ha,c⟩
   ·obtain⟨its2,r2,pl2,_⟩:=I.list hl
    exact SeqAt.EqAt.list_none pl2.isList hu1
   ·intro prog w E Q' hq
    obtain⟨mA,O,_⟩:=RX I.hok ha
    obtain⟨od,J,_⟩:=O.look
    exact Ni hu1 I.kIn J c hq
  |bl _=>exact hn.elim
  |str _=>exact hn.elim
  |byt _=>exact hn.elim
  |flt _=>exact hn.elim
  |ty _=>exact hn.elim
 ·rw[show its.toArray.any Sq=its.any Sq by simp,RK r]
  exact q
noncomputable def tRangeL(ta:TA):TE:=fun σ H Q=>ta σ H fun vs H1=>∃i j:Int,vs=[.int i,.int j]/\(-(2^62)<=i/\i<2^62/\ -(2^62)<=j/\j<2^62)/\j-i<=16777216/\
 ∀l,H1 l=none->Q (.ref l) (upd H1 l (.lst ((List.range (j-i).toNat).map fun(k:Nat)=>V.int (i+(k:Int)))))
theorem Rv:∀{xs:List V}{us:List Value},xs.length=us.length->(∀(i:Nat) x u,xs[i]?=some x->us[i]?=some u->RelV x u)->Vals xs us
 |[],[],_,_=>.nil
 |[],_::_,h,_=>by simp at h
 |_::_,[],h,_=>by simp at h
 |x::xs,u::us,h,r=>.cons (r 0 x u rfl rfl) (Rv (by simpa using h) fun i y v hy hv=>r (i+1) y v (by simpa using hy) (by simpa using hv))
theorem M6{a:Int}{n:Nat}{arr:Array Value}(h:ItemsOf (fun i v=>∃t,v=.int (a+i*1) t) arr n):Vals ((List.range n).map fun(k:Nat)=>V.int (a+(k:Int))) arr.toList:=by
 obtain⟨hs,hv⟩:=h
 refine Rv (by simp[hs]) fun i x u hx hu=>?_
 obtain⟨t,rfl⟩:=hv i u (by simpa using hu)
 rw[ZA]at hx
 cases e:(List.range n)[i]? with
 |none=>rw[e]at hx;cases hx
 |some k=>
  rw[e]at hx
  have ek:k=i:=by
   have:=Zd.mp e
   obtain⟨h1,h2⟩:=this
   simpa using h2.symm
  subst ek
  have hx:=ZC hx
  subst hx
  exact⟨t,by rw[Int.mul_one]⟩
theorem O6{X:Cx}{a b:Expr}{ta:TA}{p p2 pos pos2:Pos}(hgl:Gl X "list")(hml:X.mg "list"=none)(hg:Gl X "range")(hm:X.mg "range"=none)(ha:PA X [a,b] ta)(hc:X.calm=true)
  (hs0:starEach [.Call (.Name "range" p2) [a,b] [] pos2] X.env=[(false,eval (.Call (.Name "range" p2) [a,b] [] pos2) X.env)]:=by rfl)
  (hs:starEach [a,b] X.env=[(false,eval a X.env),(false,eval b X.env)]:=by rfl) (hs2:starEach [b] X.env=[(false,eval b X.env)]:=by rfl):
  PE X (.Call (.Name "list" p) [.Call (.Name "range" p2) [a,b] [] pos2] [] pos) (tRangeL ta):=by
 intro pins s σ H Q I h
 refine Call_ (VY I hgl hml boot_list (Ym ?_ hs0 rfl))
 rw[hs0]
 refine X8 ?_
 refine Call_ (VY I hg hm boot_range (Ym (thn (ha pos2 pins s σ H _ I h) fun us s1 ⟨vs,H1,I1,r1,q1⟩=>?_) (by rw[hs,hs2]) (by rw[hs2];rfl)))
 obtain⟨i,j,e,⟨q1,q2,q3,q4⟩,hle,q⟩:=q1
 subst e
 cases r1 with
 |cons r rr=>
  cases rr with
  |cons r' rr=>
   cases rr
   obtain⟨t,rfl⟩:=r
   obtain⟨t',rfl⟩:=r'
   refine call_range_2 ?_
   refine Wh ?_
   have hsz:Builtin.Range.rangeSize i j 1=((j-i).toNat:Nat):=by rw[rangeSize_one];split<;>omega
   have I2:Inv X pins σ H1 {s1 with heap:=s1.heap.push {cls:=.type "range",data:=.fields #[.int i t,.int j t',.int 1 s1.toks]},toks:=s1.toks+1}:=I1.kept fun b o e=>Zz _ e
   refine call_list_range (n:=(j-i).toNat) (I.ok.hd hc) (IsRange.new ..) (small_one q1 q2 q3 q4) hsz (by omega) fun h' tk acc' c' hk hS' hacc=>?_
   have hf:=I2.hok.fresh (Zl _)
   have rv:=M6 hacc
   refine⟨.ref _,upd H1 _ (.lst ((List.range (j-i).toNat).map fun(k:Nat)=>V.int (i+(k:Int)))),I2.laid (t':=tk) hk (Zl _) ⟨?_,acc'.toList,c',rv,?_⟩,rfl,q _ hf⟩
   ·rw[Za,YF,sizeLine_eq];omega
   ·rw[hS']
theorem lc_pure{K:PySem.W.Frag}{a:Addr}{xs:List V}{g:TG}{tt:TT}{te:TE}{vs:List Nat}{σ:St}{H1:Hp}{D:Addr}{Qd:Hp->Prop}(f:V->V)(hS:SqL K H1 a xs)(hz:xs.length<=sizeLine)(hD:H1 D=none)
  (hs:∀(i:Nat) x H(R:VK)(R':Hp->Prop),xs[i]?=some x->Same H1 H->R (f x) H->g x (wipe σ vs) H fun σ2 H2=>wipe σ2 vs=wipe σ vs/\tt σ2 H2 fun b H3=>if b=true then te σ2 H3 R else R' H3) (hd:Qd (upd H1 D (.lst (xs.map f)))):
  ∃W:Nat->Nat->Hp->Prop,(∃m,W 0 m (upd H1 D (.lst [])))/\∀i m H,W i m H->
   ((Itl K a).stop i H/\Qd H)\/((Itl K a).go i H/\∃Nx:Hp->Prop,(∀H',Nx H'->∃m',m'<m/\W (i+1) m' H')/\∀x H',(Itl K a).yld i H x H'->g x (wipe σ vs) H' fun σ2 H2=>wipe σ2 vs=wipe σ vs/\tt σ2 H2 fun b H3=>
    if b=true then te σ2 H3 fun y H4=>∃acc,H4 D=some (.lst acc)/\acc.length<sizeLine/\Nx (upd H4 D (.lst (acc++[y])))else Nx H3):=by
 have sm:∀o,Same H1 (upd H1 D o):=fun o b u e=>by rw[Zt (ZD e hD)];exact e
 refine Tp (xs:=xs) (fun i H=>H=upd H1 D (.lst ((xs.take i).map f))) rfl (fun i H _ e=>?_) (fun i x H hx e=>?_) (fun H e=>?_)
 ·subst e;exact(sm _).seq hS
 ·subst e
  refine hs i x _ _ _ hx (sm _) ⟨_,Zf,?_,?_⟩
  ·rw[Za]
   have:i<xs.length:=(Zd.mp hx).1
   have:=List.length_take_le i xs
   omega
  ·show upd (upd H1 D _) D _=upd H1 D _
   have e1:(xs.take (i+1)).map f=(xs.take i).map f++[f x]:=by
    rw[List.take_add_one,hx,ZJ]
    rfl
   rw[e1]
   funext b
   unfold upd
   by_cases q:b=D
   ·rw[if_pos q,if_pos q]
   ·rw[if_neg q,if_neg q,if_neg q]
 ·subst e
  rw[YM]
  exact hd
theorem QG{K:PySem.W.Frag}{a:Addr}{xs:List V}{v:Nat}{te:TE}{σ:St}{H1:Hp}{D:Addr}{Qd:Hp->Prop}(f:V->V)(hS:SqL K H1 a xs)(hz:xs.length<=sizeLine)(hD:H1 D=none)(hw:∀x:V,wipe ((wipe σ [v]).set v (some x)) [v]=wipe σ [v])
  (hs:∀(i:Nat) x H(R:VK),xs[i]?=some x->Same H1 H->R (f x) H->te ((wipe σ [v]).set v (some x)) H R) (hd:Qd (upd H1 D (.lst (xs.map f)))):
  ∃W:Nat->Nat->Hp->Prop,(∃m,W 0 m (upd H1 D (.lst [])))/\∀i m H,W i m H->
   ((Itl K a).stop i H/\Qd H)\/((Itl K a).go i H/\∃Nx:Hp->Prop,(∀H',Nx H'->∃m',m'<m/\W (i+1) m' H')/\∀x H',(Itl K a).yld i H x H'->VD v x (wipe σ [v]) H' fun σ2 H2=>wipe σ2 [v]=wipe σ [v]/\tYes σ2 H2 fun b H3=>
    if b=true then te σ2 H3 fun y H4=>∃acc,H4 D=some (.lst acc)/\acc.length<sizeLine/\Nx (upd H4 D (.lst (acc++[y])))else Nx H3):=
 lc_pure (g:=VD v) (tt:=tYes) (vs:=[v]) f hS hz hD (fun i x H R R' hx s hR=>⟨hw x,by show if true=true then te ((wipe σ [v]).set v (some x)) H R else R' H;rw[if_pos rfl];exact hs i x H R hx s hR⟩) hd
end L2
end
section
namespace L2
open PySem PySem.Spec PyProof.Rows
theorem Xg{H1 H:Hp}{D:Addr}{o:HO}(hD:H1 D=none)(s:Same H1 H):Same H1 (upd H D o):=fun b u e=>by
 rw[Zt (ZD e hD)]
 exact s b u e
noncomputable def LcP(E:Nat->V->Hp->Prop)(H1:Hp)(D:Addr)(i:Nat)(H:Hp):Prop:=∃ys:List V,ys.length=i/\Same H1 H/\H D=some (.lst ys)/\∀(j:Nat) y,ys[j]?=some y->E j y H
theorem lcP_step{E:Nat->V->Hp->Prop}{H1 H H':Hp}{D:Addr}{i:Nat}{y:V}{ys:List V}(hD:H1 D=none)(mono:∀i y H o,E i y H->E i y (upd H D o))(grow:∀i y H H',E i y H->Same H H'->E i y H')
  (hl:ys.length=i) (s1:Same H1 H) (hy:H D=some (.lst ys)) (he:∀(j:Nat) y,ys[j]?=some y->E j y H) (s2:Same H H') (e:E i y H') (hz:i<sizeLine):
  ∃acc,H' D=some (.lst acc)/\acc.length<sizeLine/\LcP E H1 D (i+1) (upd H' D (.lst (acc++[y]))):=by
 refine⟨ys,s2 _ _ hy,by omega,ys++[y],by rw[Zj,hl];rfl,Xg hD (s1.trans s2),Zf,fun j z hj=>?_⟩
 refine mono _ _ _ _ ?_
 by_cases q:j<ys.length
 ·rw[Xk q]at hj
  exact grow _ _ _ _ (he j z hj) s2
 ·rw[XI (by omega)]at hj
  have ej:j-ys.length=0:=by
   rcases Nat.eq_zero_or_pos (j-ys.length)with h|h
   ·exact h
   ·rw[Z7 (by simp;omega)]at hj;cases hj
  rw[ej]at hj
  have:y=z:=by simpa using hj
  subst this
  have:j=i:=by omega
  subst this
  exact e
theorem yesT{σ:St}{H:Hp}{A B:Hp->Prop}(h:A H):tYes σ H (fun b H3=>if b=true then A H3 else B H3):=by
 show if true=true then A H else B H
 rw[if_pos rfl]
 exact h
section
variable{K:PySem.W.Frag}{a:Addr}{xs:List V}{v:Nat}{te:TE}{σ:St}{H1:Hp}{D:Addr}{Qd:Hp->Prop}
theorem Ng(E:Nat->V->Hp->Prop)(hS:SqL K H1 a xs)(hz:xs.length<=sizeLine)(hD:H1 D=none)(hw:∀x:V,wipe ((wipe σ [v]).set v (some x)) [v]=wipe σ [v])
  (mono:∀i y H o,E i y H->E i y (upd H D o)) (grow:∀i y H H',E i y H->Same H H'->E i y H')
  (hs:∀(i:Nat) x H(R:VK),xs[i]?=some x->Same H1 H->(∃acc,H D=some (.lst acc))->(∀y H',Same H H'->E i y H'->R y H')->te ((wipe σ [v]).set v (some x)) H R)
  (hd:∀ys H',ys.length=xs.length->Same H1 H'->H' D=some (.lst ys)->(∀(i:Nat) y,ys[i]?=some y->E i y H')->Qd H'):
  ∃W:Nat->Nat->Hp->Prop,(∃m,W 0 m (upd H1 D (.lst [])))/\∀i m H,W i m H->
   ((Itl K a).stop i H/\Qd H)\/((Itl K a).go i H/\∃Nx:Hp->Prop,(∀H',Nx H'->∃m',m'<m/\W (i+1) m' H')/\∀x H',(Itl K a).yld i H x H'->VD v x (wipe σ [v]) H' fun σ2 H2=>wipe σ2 [v]=wipe σ [v]/\tYes σ2 H2 fun b H3=>
    if b=true then te σ2 H3 fun y H4=>∃acc,H4 D=some (.lst acc)/\acc.length<sizeLine/\Nx (upd H4 D (.lst (acc++[y])))else Nx H3):=by
 refine Tp (xs:=xs) (LcP E H1 D) ⟨[],rfl,Xg hD (Same.refl _),Zf,fun j y h=>by simp at h⟩ (fun i H _ ⟨ys,_,s,_⟩=>s.seq hS) (fun i x H hx ⟨ys,hl,s,hy,he⟩=>?_) (fun H ⟨ys,hl,s,hy,he⟩=>hd ys H hl s hy he)
 refine⟨hw x,yesT ?_⟩
 have hi:i<xs.length:=(Zd.mp hx).1
 exact hs i x H _ hx s ⟨ys,hy⟩ fun y H' s2 e=>lcP_step hD mono grow hl s hy he s2 e (by omega)
theorem for_rev{g:TG}{tb:TS}{Dn:Ends}{H:Hp}(Pv:Nat->St->Hp->Prop)(h0:Pv 0 σ H)(hl:∀i σ H,i<=xs.length->Pv i σ H->SqL K H a xs)
  (hs:∀i x σ H,xs.reverse[i]?=some x->Pv i σ H->g x σ H fun σ2 H2=>tb {Dn with nx:=Pv (i+1),ct:=Pv (i+1),bk:=Dn.nx} σ2 H2) (hd:∀σ H,Pv xs.length σ H->Dn.nx σ H):
  ∃W:Nat->Nat->St->Hp->Prop,(∃m,W 0 m σ H)/\∀i m σ H,W i m σ H->
   ((Itv K a xs.length).stop i H/\Dn.nx σ H)\/((Itv K a xs.length).go i H/\∃N:St->Hp->Prop,(∀σ' H',N σ' H'->∃m',m'<m/\W (i+1) m' σ' H')/\∀x H',(Itv K a xs.length).yld i H x H'->g x σ H' fun σ2 H2=>tb {Dn with nx:=N,ct:=N,bk:=Dn.nx} σ2 H2):=by
 refine⟨fun i m σ H=>m=xs.length-i/\i<=xs.length/\Pv i σ H,⟨xs.length,by simp,ZG _,h0⟩,?_⟩
 rintro i m σ H ⟨rfl,hi,p⟩
 have q:=hl i σ H hi p
 by_cases hlt:i<xs.length
 ·refine .inr ⟨⟨hlt,xs,xs[xs.length-1-i],q,by simp⟩,Pv (i+1),fun σ' H' p'=>⟨xs.length-(i+1),by omega,rfl,hlt,p'⟩,fun x H' y=>?_⟩
  obtain⟨e,y⟩:=y
  subst e
  have hx:xs.reverse[i]?=some x:=by
   rw[XN hlt]
   exact y xs q
  exact hs i x σ _ hx p
 ·have e:i=xs.length:=by omega
  subst e
  exact .inl ⟨Zl _,hd σ H p⟩
end
end L2
end
section
namespace L2
open PySem PySem.Spec PyProof.Rows
section
variable{K:PySem.W.Frag}{a:Addr}{xs:List V}{v:Nat}{te:TE}{σ:St}{H1:Hp}{D:Addr}{Qd:Hp->Prop}
theorem T7(I:List V->Hp->Prop)(h0:I [] (upd H1 D (.lst [])))(hS:∀ys H,I ys H->SqL K H a xs)(hz:xs.length<=sizeLine)(hw:∀x:V,wipe ((wipe σ [v]).set v (some x)) [v]=wipe σ [v])(hD:∀ys H,I ys H->H D=some (.lst ys))
  (hs:∀ys x H(R:VK),xs[ys.length]?=some x->I ys H->(∀y H',H' D=some (.lst ys)->I (ys++[y]) (upd H' D (.lst (ys++[y])))->R y H')->te ((wipe σ [v]).set v (some x)) H R)
  (hd:∀ys H',ys.length=xs.length->I ys H'->Qd H'):
  ∃W:Nat->Nat->Hp->Prop,(∃m,W 0 m (upd H1 D (.lst [])))/\∀i m H,W i m H->
   ((Itl K a).stop i H/\Qd H)\/((Itl K a).go i H/\∃Nx:Hp->Prop,(∀H',Nx H'->∃m',m'<m/\W (i+1) m' H')/\∀x H',(Itl K a).yld i H x H'->VD v x (wipe σ [v]) H' fun σ2 H2=>wipe σ2 [v]=wipe σ [v]/\tYes σ2 H2 fun b H3=>
    if b=true then te σ2 H3 fun y H4=>∃acc,H4 D=some (.lst acc)/\acc.length<sizeLine/\Nx (upd H4 D (.lst (acc++[y])))else Nx H3):=by
 refine Tp (xs:=xs) (fun i H=>∃ys,ys.length=i/\I ys H) ⟨[],rfl,h0⟩ (fun i H _ ⟨ys,_,p⟩=>hS ys H p) (fun i x H hx ⟨ys,hl,p⟩=>?_) (fun H ⟨ys,hl,p⟩=>hd ys H hl p)
 subst hl
 have hi:=(Zd.mp hx).1
 refine⟨hw x,yesT (hs ys x H _ hx p fun y H' h1 h2=>⟨ys,h1,by omega,ys++[y],by rw[Zj];rfl,h2⟩)⟩
theorem lc_genR(I:List V->Hp->Prop)(h0:I [] (upd H1 D (.lst [])))(hS:∀ys H,I ys H->SqL K H a xs)(hz:xs.length<=sizeLine)(hw:∀x:V,wipe ((wipe σ [v]).set v (some x)) [v]=wipe σ [v])(hD:∀ys H,I ys H->H D=some (.lst ys))
  (hs:∀ys x H(R:VK),xs.reverse[ys.length]?=some x->I ys H->(∀y H',H' D=some (.lst ys)->I (ys++[y]) (upd H' D (.lst (ys++[y])))->R y H')->te ((wipe σ [v]).set v (some x)) H R)
  (hd:∀ys H',ys.length=xs.length->I ys H'->Qd H'):
  ∃W:Nat->Nat->Hp->Prop,(∃m,W 0 m (upd H1 D (.lst [])))/\∀i m H,W i m H->
   ((Itv K a xs.length).stop i H/\Qd H)\/((Itv K a xs.length).go i H/\∃Nx:Hp->Prop,(∀H',Nx H'->∃m',m'<m/\W (i+1) m' H')/\∀x H',(Itv K a xs.length).yld i H x H'->VD v x (wipe σ [v]) H' fun σ2 H2=>wipe σ2 [v]=wipe σ [v]/\tYes σ2 H2 fun b H3=>
    if b=true then te σ2 H3 fun y H4=>∃acc,H4 D=some (.lst acc)/\acc.length<sizeLine/\Nx (upd H4 D (.lst (acc++[y])))else Nx H3):=by
 refine⟨fun i m H=>m=xs.length-i/\i<=xs.length/\∃ys,ys.length=i/\I ys H,⟨xs.length,by simp,ZG _,[],rfl,h0⟩,?_⟩
 rintro i m H ⟨rfl,hi,ys,rfl,p⟩
 have q:=hS ys H p
 by_cases hlt:ys.length<xs.length
 ·refine .inr ⟨⟨hlt,xs,xs[xs.length-1-ys.length],q,by simp⟩,fun H'=>∃zs,zs.length=ys.length+1/\I zs H',fun H' p'=>⟨xs.length-(ys.length+1),by omega,rfl,hlt,p'⟩,fun x H' y=>?_⟩
  obtain⟨e,y⟩:=y
  subst e
  have hx:xs.reverse[ys.length]?=some x:=by
   rw[XN hlt]
   exact y xs q
  exact⟨hw x,yesT (hs ys x _ _ hx p fun y H' h1 h2=>⟨ys,h1,by omega,ys++[y],by rw[Zj];rfl,h2⟩)⟩
 ·have e:ys.length=xs.length:=by omega
  exact .inl ⟨Nat.le_of_eq e.symm,hd ys H e p⟩
theorem lc_genN{lo:Int}{n:Nat}(I:List V->Hp->Prop)(h0:I [] (upd H1 D (.lst [])))(hz:n<=sizeLine)(hw:∀x:V,wipe ((wipe σ [v]).set v (some x)) [v]=wipe σ [v])(hD:∀ys H,I ys H->H D=some (.lst ys))
  (hs:∀ys H(R:VK),ys.length<n->I ys H->(∀y H',H' D=some (.lst ys)->I (ys++[y]) (upd H' D (.lst (ys++[y])))->R y H')->te ((wipe σ [v]).set v (some (.int (lo+(ys.length:Int))))) H R)
  (hd:∀ys H',ys.length=n->I ys H'->Qd H'):
  ∃W:Nat->Nat->Hp->Prop,(∃m,W 0 m (upd H1 D (.lst [])))/\∀i m H,W i m H->
   ((Itr lo n).stop i H/\Qd H)\/((Itr lo n).go i H/\∃Nx:Hp->Prop,(∀H',Nx H'->∃m',m'<m/\W (i+1) m' H')/\∀x H',(Itr lo n).yld i H x H'->VD v x (wipe σ [v]) H' fun σ2 H2=>wipe σ2 [v]=wipe σ [v]/\tYes σ2 H2 fun b H3=>
    if b=true then te σ2 H3 fun y H4=>∃acc,H4 D=some (.lst acc)/\acc.length<sizeLine/\Nx (upd H4 D (.lst (acc++[y])))else Nx H3):=by
 refine lc_range (fun i H=>∃ys,ys.length=i/\I ys H) ⟨[],rfl,h0⟩ (fun i H hi ⟨ys,hl,p⟩=>?_) (fun H ⟨ys,hl,p⟩=>hd ys H hl p)
 subst hl
 exact⟨hw _,yesT (hs ys H _ hi p fun y H' h1 h2=>⟨ys,h1,by omega,ys++[y],by rw[Zj];rfl,h2⟩)⟩
end
section
variable{X:Cx}{K:PySem.W.Frag}
theorem op_inK(h:X.K=K):OpR X (compareOp .In) (rIn K false):=h▸Rb
theorem ix_listK(h:X.K=K):IxR X (rIxL K):=h▸YQ
theorem LO(h:X.K=K):IxR X (rIxT K):=h▸M5
theorem KW(h:X.K=K):Us X (.builtin "len") (fun xs H Q=>∃p ys,xs=[.ref p]/\(SqL K H p ys\/SqT K H p ys)/\Q (.int ys.length) H):=h▸Yn
theorem V9{es:List Expr}{k:Nat}{pos:Pos}{t:TGs}{n:Nat}(h:X.K=K)(hc:X.calm=true)(hg:PGs X es t)(hn:(assignEach es X.env).length=n:=by rfl)(hst:(assignEach es X.env).findIdx? (·.1)=none:=by rfl):PG X (.Tuple es k pos) (gTup K n t):=h▸Qv hc hg hn hst
end
end L2
end
section
namespace L2
open PySem PySem.Spec PyProof.Rows
section
variable{K:PySem.W.Frag}{a:Addr}{xs:List V}{n1 n2:Nat}{σ:St}
noncomputable abbrev OA(K:PySem.W.Frag)(n1 n2:Nat):TG:=gTup K 2 (gCons (VD n1) (gCons (VD n2) gNil))
theorem VZ{T:Addr}{x y:V}{H:Hp}{Q:St->Hp->Prop}(h:SqT K H T [x,y])(q:Q ((σ.set n1 (some x)).set n2 (some y)) H):OA K n1 n2 (.ref T) σ H Q:=
 ⟨T,[x,y],rfl,h,rfl,x,[y],rfl,y,[],rfl,rfl,q⟩
theorem N8{tb:TS}{D:Ends}{H:Hp}(Pv:Nat->St->Hp->Prop)(h0:Pv 0 σ H)(hl:∀i σ H,i<=xs.length->Pv i σ H->SqL K H a xs)
  (hs:∀i x σ H T,xs[i]?=some x->Pv i σ H->H T=none->tb {D with nx:=Pv (i+1),ct:=Pv (i+1),bk:=D.nx} ((σ.set n1 (some (.int (i:Nat)))).set n2 (some x)) (upd H T (.tup [.int (i:Nat),x]))) (hd:∀σ H,Pv xs.length σ H->D.nx σ H):
  ∃W:Nat->Nat->St->Hp->Prop,(∃m,W 0 m σ H)/\∀i m σ H,W i m σ H->
   ((Ite K a).stop i H/\D.nx σ H)\/((Ite K a).go i H/\∃N:St->Hp->Prop,(∀σ' H',N σ' H'->∃m',m'<m/\W (i+1) m' σ' H')/\∀x H',(Ite K a).yld i H x H'->OA K n1 n2 x σ H' fun σ2 H2=>tb {D with nx:=N,ct:=N,bk:=D.nx} σ2 H2):=by
 refine⟨fun i m σ H=>m=xs.length-i/\i<=xs.length/\Pv i σ H,⟨xs.length,by simp,ZG _,h0⟩,?_⟩
 rintro i m σ H ⟨rfl,hi,p⟩
 have q:=hl i σ H hi p
 by_cases hlt:i<xs.length
 ·refine .inr ⟨⟨xs,xs[i],q,by simp[hlt]⟩,Pv (i+1),fun σ' H' p'=>⟨xs.length-(i+1),by omega,rfl,hlt,p'⟩,fun x H' y=>?_⟩
  obtain⟨T,z,rfl,hT,rfl,hz⟩:=y
  exact VZ (SqT.of Zf) (hs i z σ H T (hz xs q) p hT)
 ·have e:i=xs.length:=by omega
  subst e
  exact .inl ⟨⟨xs,q,Zl _⟩,hd σ H p⟩
theorem Nh{tt:TT}{te:TE}{vs:List Nat}{H1:Hp}{D:Addr}{Qd:Hp->Prop}(Pv:Nat->Hp->Prop)(h0:Pv 0 (upd H1 D (.lst [])))(hl:∀i H,i<=xs.length->Pv i H->SqL K H a xs)
  (hw:∀x y:V,wipe (((wipe σ vs).set n1 (some x)).set n2 (some y)) vs=wipe σ vs)
  (hs:∀i x H T,xs[i]?=some x->Pv i H->H T=none->tt (((wipe σ vs).set n1 (some (.int (i:Nat)))).set n2 (some x)) (upd H T (.tup [.int (i:Nat),x])) fun b H3=>
   if b=true then te (((wipe σ vs).set n1 (some (.int (i:Nat)))).set n2 (some x)) H3 fun y H4=>∃acc,H4 D=some (.lst acc)/\acc.length<sizeLine/\Pv (i+1) (upd H4 D (.lst (acc++[y])))else Pv (i+1) H3) (hd:∀H,Pv xs.length H->Qd H):
  ∃W:Nat->Nat->Hp->Prop,(∃m,W 0 m (upd H1 D (.lst [])))/\∀i m H,W i m H->
   ((Ite K a).stop i H/\Qd H)\/((Ite K a).go i H/\∃Nx:Hp->Prop,(∀H',Nx H'->∃m',m'<m/\W (i+1) m' H')/\∀x H',(Ite K a).yld i H x H'->OA K n1 n2 x (wipe σ vs) H' fun σ2 H2=>wipe σ2 vs=wipe σ vs/\tt σ2 H2 fun b H3=>
    if b=true then te σ2 H3 fun y H4=>∃acc,H4 D=some (.lst acc)/\acc.length<sizeLine/\Nx (upd H4 D (.lst (acc++[y])))else Nx H3):=by
 refine⟨fun i m H=>m=xs.length-i/\i<=xs.length/\Pv i H,⟨xs.length,by simp,ZG _,h0⟩,?_⟩
 rintro i m H ⟨rfl,hi,p⟩
 have q:=hl i H hi p
 by_cases hlt:i<xs.length
 ·refine .inr ⟨⟨xs,xs[i],q,by simp[hlt]⟩,Pv (i+1),fun H' p'=>⟨xs.length-(i+1),by omega,rfl,hlt,p'⟩,fun x H' y=>?_⟩
  obtain⟨T,z,rfl,hT,rfl,hz⟩:=y
  exact VZ (SqT.of Zf) ⟨hw _ _,hs i z H T (hz xs q) p hT⟩
 ·have e:i=xs.length:=by omega
  subst e
  exact .inl ⟨⟨xs,q,Zl _⟩,hd H p⟩
end
end L2
end
section
namespace L2
open PySem PySem.Spec PyProof.Rows
noncomputable def EntOk(e:DictEntry)(kv:Int×Addr):Prop:=e.hash=hashInt kv.1/\(∃t,e.key=.int kv.1 t)/\e.val=.ref kv.2
noncomputable def TabIn(K:PySem.W.Frag)(a:Addr)(kvs:List (Int×Addr)):Prop:=
 ∃(es:Array DictEntry)(ep:Nat),K.lookup a=some ⟨.type "dict",none,.dict es ep,#[]⟩/\Paired EntOk es.toList kvs/\(kvs.map (·.1)).Nodup
theorem Pq{P:Program}{w:World}:∀{es:List DictEntry}{kvs:List (Int×Addr)},Paired EntOk es kvs->Pairs (YJ P w) es (kvs.map fun kv=>((.inl kv.1:Key),Value.ref kv.2))
 |_,_,.nil=>.nil
 |_,_,.cons h t=>by
  obtain⟨_,⟨t1,e⟩,e2⟩:=h
  refine .cons ?_ e2 (Pq t)
  rw[e]
  exact UV P w _ t1
theorem tab_keys{P:Program}{w:World}{es:Array DictEntry}{kvs:List (Int×Addr)}(h:Paired EntOk es.toList kvs):KeysOf (YJ P w) es:=by
 intro e he
 obtain⟨i,hi⟩:=Zx.mp (VB.mpr he)
 obtain⟨kv,_,h1,⟨t,h2⟩,_⟩:=Z4 h hi
 exact⟨.inl kv.1,by rw[h2];exact UV P w _ t,h1⟩
theorem Pp:∀{kvs:List (Int×Addr)}{k:Int}{f:Addr},kvs.lookup k=some f->valueAt (kvs.map fun kv=>((.inl kv.1:Key),Value.ref kv.2)) (.inl k)=some (.ref f)
 |(i,g)::r,k,f,h=>by
  rw[Xc]at h
  unfold valueAt
  rw[ZB,Wf]
  by_cases e:k=i
  ·subst e
   rw[beq_self_eq_true]at h
   cases h
   simp
  ·have e':(k==i)=false:=by simpa using e
   rw[e']at h
   have:decide ((Sum.inl i:Key)=Sum.inl k)=false:=by
    rw[decide_eq_false_iff_not]
    intro z
    injection z with z
    exact e z.symm
   simp only[this]
   exact Pp h
theorem On:∀{l:List Int},l.Nodup->(l.map fun z:Int=>(Sum.inl z:Key)).Nodup
 |[],_=>Wv
 |x::r,h=>by
  rw[YB]at h
  rw[ZB,YB]
  refine⟨fun z=>?_,On h.2⟩
  obtain⟨y,hy,e⟩:=ZS.mp z
  injection e with e
  exact h.1 (e▸hy)
noncomputable def tTGet(K:PySem.W.Frag)(td ty:TE):TE:=fun σ H Q=>td σ H fun x H1=>ty σ H1 fun y H2=>∃a k kvs f,x=.ref a/\y=.int k/\TabIn K a kvs/\kvs.lookup k=some f/\Q (.ref f) H2
theorem pe_tget{X:Cx}{o i:Expr}{pos:Pos}{td ty:TE}(ho:PE X o td)(hi:PE X i ty)(hs:NoSl i):PE X (.Subscript o i pos) (tTGet X.K td ty):=by
 intro pins s σ H Q I h
 refine subD_of PySem.F.slot_dict_getitem.lookup hs (thn (ho pins s σ H _ I h) fun u s1 ⟨x,H1,I1,rx,q1⟩=>thn (hi pins s1 σ H1 _ I1 q1) fun iv s2 ⟨y,H2,I2,ry,a,k,kvs,f,ex,ey,hT,hl,q2⟩=>?_)
 subst ex
 subst ey
 obtain rfl:u=Value.ref a:=rx
 obtain⟨es,ep,hk,hp,hn⟩:=hT
 have dd:s2.heap.DictOf (YJ X.prog X.w) a (kvs.map fun kv=>((.inl kv.1:Key),Value.ref kv.2)):=by
  refine⟨_,es,ep,I2.kIn a _ hk,⟨rfl,rfl,rfl⟩,rfl,tab_keys hp,Pq hp,?_⟩
  rw[Yg]
  have:((fun x:Key×Value=>x.1)∘fun kv:Int×Addr=>((.inl kv.1:Key),Value.ref kv.2))=(fun z:Int=>(Sum.inl z:Key))∘(·.1):=rfl
  rw[this,<-Yg]
  exact On hn
 exact⟨dd.typeIs,wpAny_getItem_of (kV_is (k:=.inl k) ry) dd.mapOf (Pp hl) ⟨.ref f,H2,I2.tok _,rfl,q2⟩⟩
end L2
end
section
namespace L2
open PySem PySem.Spec PyProof.Rows
section
variable{K:PySem.W.Frag}{a:Addr}{xs:List V}{n1 n2:Nat}{vs:List Nat}{te:TE}{σ:St}{H1:Hp}{D:Addr}{Qd:Hp->Prop}
theorem LM(I:List V->Hp->Prop)(h0:I [] (upd H1 D (.lst [])))(hS:∀ys H,I ys H->SqL K H a xs)(hz:xs.length<=sizeLine)(hw:∀x y:V,wipe (((wipe σ vs).set n1 (some x)).set n2 (some y)) vs=wipe σ vs)
  (hs:∀ys x H(R:VK),xs[ys.length]?=some x->I ys H->∃t p q,x=.ref t/\SqT K H t [p,q]/\((∀y H',H' D=some (.lst ys)->I (ys++[y]) (upd H' D (.lst (ys++[y])))->R y H')->te (((wipe σ vs).set n1 (some p)).set n2 (some q)) H R))
  (hd:∀ys H',ys.length=xs.length->I ys H'->Qd H'):
  ∃W:Nat->Nat->Hp->Prop,(∃m,W 0 m (upd H1 D (.lst [])))/\∀i m H,W i m H->
   ((Itl K a).stop i H/\Qd H)\/((Itl K a).go i H/\∃Nx:Hp->Prop,(∀H',Nx H'->∃m',m'<m/\W (i+1) m' H')/\∀x H',(Itl K a).yld i H x H'->OA K n1 n2 x (wipe σ vs) H' fun σ2 H2=>wipe σ2 vs=wipe σ vs/\tYes σ2 H2 fun b H3=>
    if b=true then te σ2 H3 fun y H4=>∃acc,H4 D=some (.lst acc)/\acc.length<sizeLine/\Nx (upd H4 D (.lst (acc++[y])))else Nx H3):=by
 refine Tp (xs:=xs) (fun i H=>∃ys,ys.length=i/\I ys H) ⟨[],rfl,h0⟩ (fun i H _ ⟨ys,_,p⟩=>hS ys H p) (fun i x H hx ⟨ys,hl,p⟩=>?_) (fun H ⟨ys,hl,p⟩=>hd ys H hl p)
 subst hl
 have hi:=(Zd.mp hx).1
 obtain⟨t,u,q,rfl,ht,go⟩:=hs ys x H (fun y H4=>∃acc,H4 D=some (.lst acc)/\acc.length<sizeLine/\∃zs:List V,zs.length=ys.length+1/\I zs (upd H4 D (.lst (acc++[y])))) hx p
 exact VZ ht ⟨hw _ _,yesT (go fun y H' h1 h2=>⟨ys,h1,by omega,ys++[y],by rw[Zj];rfl,h2⟩)⟩
theorem lc_genT(I:List V->Hp->Prop)(h0:I [] (upd H1 D (.lst [])))(hS:∀ys H,I ys H->SqT K H a xs)(hz:xs.length<=sizeLine)(hw:∀x y:V,wipe (((wipe σ vs).set n1 (some x)).set n2 (some y)) vs=wipe σ vs)
  (hs:∀ys x H(R:VK),xs[ys.length]?=some x->I ys H->∃t p q,x=.ref t/\SqT K H t [p,q]/\((∀y H',H' D=some (.lst ys)->I (ys++[y]) (upd H' D (.lst (ys++[y])))->R y H')->te (((wipe σ vs).set n1 (some p)).set n2 (some q)) H R))
  (hd:∀ys H',ys.length=xs.length->I ys H'->Qd H'):
  ∃W:Nat->Nat->Hp->Prop,(∃m,W 0 m (upd H1 D (.lst [])))/\∀i m H,W i m H->
   ((Itt K a).stop i H/\Qd H)\/((Itt K a).go i H/\∃Nx:Hp->Prop,(∀H',Nx H'->∃m',m'<m/\W (i+1) m' H')/\∀x H',(Itt K a).yld i H x H'->OA K n1 n2 x (wipe σ vs) H' fun σ2 H2=>wipe σ2 vs=wipe σ vs/\tYes σ2 H2 fun b H3=>
    if b=true then te σ2 H3 fun y H4=>∃acc,H4 D=some (.lst acc)/\acc.length<sizeLine/\Nx (upd H4 D (.lst (acc++[y])))else Nx H3):=by
 refine lc_tup (xs:=xs) (fun i H=>∃ys,ys.length=i/\I ys H) ⟨[],rfl,h0⟩ (fun i H _ ⟨ys,_,p⟩=>hS ys H p) (fun i x H hx ⟨ys,hl,p⟩=>?_) (fun H ⟨ys,hl,p⟩=>hd ys H hl p)
 subst hl
 have hi:=(Zd.mp hx).1
 obtain⟨t,u,q,rfl,ht,go⟩:=hs ys x H (fun y H4=>∃acc,H4 D=some (.lst acc)/\acc.length<sizeLine/\∃zs:List V,zs.length=ys.length+1/\I zs (upd H4 D (.lst (acc++[y])))) hx p
 exact VZ ht ⟨hw _ _,yesT (go fun y H' h1 h2=>⟨ys,h1,by omega,ys++[y],by rw[Zj];rfl,h2⟩)⟩
theorem lc_zip{b:Addr}{zs:List V}(I:List V->Hp->Prop)(h0:I [] (upd H1 D (.lst [])))(hS:∀ys H,I ys H->SqL K H a xs/\SqL K H b zs)(hz:xs.length<=sizeLine)(hw:∀x y:V,wipe (((wipe σ vs).set n1 (some x)).set n2 (some y)) vs=wipe σ vs)
  (hs:∀ys x z H T(R:VK),xs[ys.length]?=some x->zs[ys.length]?=some z->I ys H->H T=none->(∀y H',H' D=some (.lst ys)->I (ys++[y]) (upd H' D (.lst (ys++[y])))->R y H')->te (((wipe σ vs).set n1 (some x)).set n2 (some z)) (upd H T (.tup [x,z])) R)
  (hd:∀ys H',ys.length=min xs.length zs.length->I ys H'->Qd H'):
  ∃W:Nat->Nat->Hp->Prop,(∃m,W 0 m (upd H1 D (.lst [])))/\∀i m H,W i m H->
   ((Itz K a b).stop i H/\Qd H)\/((Itz K a b).go i H/\∃Nx:Hp->Prop,(∀H',Nx H'->∃m',m'<m/\W (i+1) m' H')/\∀x H',(Itz K a b).yld i H x H'->OA K n1 n2 x (wipe σ vs) H' fun σ2 H2=>wipe σ2 vs=wipe σ vs/\tYes σ2 H2 fun b H3=>
    if b=true then te σ2 H3 fun y H4=>∃acc,H4 D=some (.lst acc)/\acc.length<sizeLine/\Nx (upd H4 D (.lst (acc++[y])))else Nx H3):=by
 refine⟨fun i m H=>m=xs.length-i/\i<=min xs.length zs.length/\∃ys,ys.length=i/\I ys H,⟨xs.length,by simp,ZG _,[],rfl,h0⟩,?_⟩
 rintro i m H ⟨rfl,hi,ys,rfl,p⟩
 obtain⟨q1,q2⟩:=hS ys H p
 by_cases hlt:ys.length<min xs.length zs.length
 ·have h1:ys.length<xs.length:=by omega
  have h2:ys.length<zs.length:=by omega
  refine .inr ⟨⟨xs,zs,xs[ys.length],zs[ys.length],q1,q2,by simp[h1],by simp[h2]⟩,fun H'=>∃us:List V,us.length=ys.length+1/\I us H',fun H' p'=>⟨xs.length-(ys.length+1),by omega,rfl,by omega,p'⟩,fun x H' y=>?_⟩
  obtain⟨T,u,z,rfl,hT,rfl,hu,hz'⟩:=y
  refine VZ (SqT.of Zf) ⟨hw _ _,yesT (hs ys u z H T _ (hu xs q1) (hz' zs q2) p hT fun y H' h1 h2=>⟨ys,h1,by omega,ys++[y],by rw[Zj];rfl,h2⟩)⟩
 ·have e:ys.length=min xs.length zs.length:=by omega
  exact .inl ⟨⟨xs,zs,q1,q2,by omega⟩,hd ys H e p⟩
end
section
variable{X:Cx}{K:PySem.W.Frag}
theorem KR(h:X.K=K)(hc:X.calm=true):Us X (.builtin "sum") (rSum K):=h▸Rm hc
theorem NF(h:X.K=K):SlR X (rSlL K):=h▸Wb
noncomputable def rInT(K:PySem.W.Frag):R2:=fun x y H Q=>∃(t p:Addr)(c:List Int)(ts:List Addr)(cs:List (List Int)),x=.ref t/\y=.ref p/\SqT K H t (c.map V.int)/\SqL K H p (ts.map V.ref)/\Paired (fun u d=>SqT K H u (d.map V.int)) ts cs/\
 c.length<=4/\(∀d∈cs,d.length<=4)/\Q (.bl (cs.any fun d=>decide (d=c))) H
theorem TB(ns:List Int):SeqAt.shaped (.tuple (ns.map PyData.int))=true:=by
 unfold SeqAt.shaped
 have h:=depthAll_ints ns
 rw[Zv,decide_eq_true_eq]
 refine⟨by simp only[PyData.canLay0,canLayAll_ints],?_⟩
 simp only[PyData.depth]
 omega
theorem Q9{α β:Type}{F:α->β->Prop}{p:α->Bool}{q:β->Bool}(h:∀a b,F a b->p a=q b):∀{l:List α}{m:List β},Paired F l m->l.any p=m.any q
 |_,_,.nil=>rfl
 |_,_,.cons r t=>by rw[Yt,Yt,h _ _ r,Q9 h t]
theorem N2{a b:List Int}(h:a.map V.int=b.map V.int):a=b:=by
 induction a generalizing b with
 |nil=>cases b with
  |nil=>rfl
  |cons _ _=>simp at h
 |cons x a ih=>cases b with
  |nil=>simp at h
  |cons y b=>
   rw[ZB,ZB]at h
   injection h with h1 h2
   injection h1 with h1
   rw[h1,ih h2]
theorem op_inT(hu:X.A.units+64<cLine):OpR X (compareOp .In) (rInT X.K):=by
 intro pins s σ H x y v u Q I rx ry h
 obtain⟨t,p,c,ts,cs,rfl,rfl,ht,hS,hp,hcl,hdl,q⟩:=h
 cases rx
 cases ry
 obtain⟨its,r,pl,hz⟩:=I.list hS
 have ei:=O2 r
 subst ei
 have key:∀(u:Addr)(d:List Int),SqT X.K H u (d.map V.int)->(@decide (SqT X.K H u (c.map V.int)) (Classical.propDecidable _))=decide (d=c):=fun u d hd=>by
  by_cases e:d=c
  ·subst e
   rw[decide_eq_true rfl]
   exact@decide_eq_true _ (Classical.propDecidable _) hd
  ·rw[decide_eq_false e]
   exact@decide_eq_false _ (Classical.propDecidable _) fun z=>e (N2 (I.tuple_inj hd z))
 let e:Value->Bool:=fun u=>match u with
  | .ref a=>@decide (SqT X.K H a (c.map V.int)) (Classical.propDecidable _)
  |_=>false
 refine SeqAt.in_listAt e pl.isList (fun w hw=>?_) ⟨.bl _,H,I,rfl,?_⟩
 ·have hw':w∈ts.map Value.ref:=by simpa using hw
  obtain⟨a,ha,rfl⟩:=ZS.mp hw'
  obtain⟨j,hj⟩:=Zx.mp ha
  obtain⟨d,hd,hSd⟩:=Z4 hp hj
  have e1:e (.ref a)=decide (d=c):=key a d hSd
  rw[e1]
  obtain⟨as,r1⟩:=Dp.reads I _ _ (.ref a) (.tup hSd (V1 d)) rfl
  obtain⟨bs,r2⟩:=Dp.reads I _ _ (.ref t) (.tup ht (V1 c)) rfl
  have:=SeqAt.eqAt_reads _ _ X.A.in1 s _ _ _ _ r1 r2 (SeqAt.canLay_of_shaped (TB d)) (SeqAt.canLay_of_shaped (TB c)) (by
   show X.A.units+1+min (PyData.depth (.tuple (d.map PyData.int))) _<cLine
   have h1:=depthAll_ints d
   have h2:PyData.depth (.tuple (d.map PyData.int))<=2:=by simp only[PyData.depth];omega
   have h3:cLine=cLine:=rfl
   omega)
  have e2:PyData.eqv (.tuple (d.map PyData.int)) (.tuple (c.map PyData.int))=decide (d=c):=by
   show PyData.eqvAll (d.map PyData.int) (c.map PyData.int)=_
   exact U3 d c
  rw[e2]at this
  exact this
 ·have e3:(ts.map Value.ref).toArray.any e=cs.any fun d=>decide (d=c):=by
   rw[List.any_toArray,List.any_map]
   exact Q9 (fun u d h=>key u d h) hp
  rw[e3]
  exact q
theorem op_inTK(h:X.K=K)(hu:X.A.units+64<cLine):OpR X (compareOp .In) (rInT K):=h▸op_inT hu
end
end L2
end
section
namespace L2
open PySem PySem.Spec PyProof.Rows
section
variable{prog:Program}{w:World}{K:Type}[DecidableEq K]{knd:HeapKind prog w K}{A:Around}{E:Value->Shared->Prop}{s:Shared}
theorem erase_filter{α:Type}{xs:List (K×α)}:∀{j:Nat}{k:K}{p:α},(xs.map (·.1)).Nodup->xs[j]?=some (k,p)->xs.eraseIdx j=xs.filter fun x=>decide (x.1≠k):=by
 induction xs with
 |nil=>intro j k p _ h;simp at h
 |cons x r ih=>
  intro j k p hn h
  rw[ZB,YB]at hn
  cases j with
  |zero=>
   have e:x=(k,p):=by simpa using h
   subst e
   rw[List.eraseIdx_cons_zero,Yk (by simp)]
   rw[List.filter_eq_self.mpr]
   intro y hy
   rw[decide_eq_true_eq]
   intro e
   exact hn.1 (ZS.mpr ⟨y,hy,e⟩)
  |succ j=>
   have h':r[j]?=some (k,p):=by simpa using h
   have hx:x.1≠k:=fun e=>hn.1 (ZS.mpr ⟨_,Zp h',e.symm⟩)
   rw[List.eraseIdx_cons_succ,Yl (by simpa using hx),ih hn.2 h']
theorem OO{d a:Addr}{xs:List (K×Addr×Value)}{k:K}{p:Addr×Value}{Q:Option DictEntry->Shared->Prop}(hu:knd.room A)(hkey:knd.is s.heap k a)(hm:s.heap.DictOfH knd d xs)(hp:atKey xs k=some p)(hsz:xs.length<=sizeLine)
  (h:∀e h',e.val=p.2->h'.DictOfH knd d (xs.filter fun x=>decide (x.1≠k))->Heap.SameBut d s.heap h'->Q (some e) {s with heap:=h',toks:=s.toks+knd.draws k}):
  wpAny (model prog w) A (Builtin.Dict.takeOut d (.ref a)) Q E s:=by
 obtain⟨o,es,ep,ho,hc,hd,he,his,hn⟩:=hm
 unfold Builtin.Dict.takeOut
 try with_reducible refine YV ?_
 refine Zc (knd.pyHash hu hkey ?_)
 refine Zc (wpAny_dictFind_heap (s:={s with toks:=s.toks+knd.draws k}) hu hkey ho hd he his hn ?_ ?_)
 ·intro hno
  rw[atKey_none_of_get hno]at hp
  cases hp
 ·intro j q hj
  have eq:q=p:=by
   rw[atKey_of_get hn hj]at hp
   exact ZC hp
  subst eq
  refine Zc (wpAny_dictEntries (s:={s with toks:=s.toks+knd.draws k}) ho hd ?_)
  rw[entry_at he j,hj]
  have hlen:es.size<=sizeLine:=by have e:=size_of_entries he;omega
  refine Zc (wpAny_updateDictKeys (hz:=hlen) (s:={s with toks:=s.toks+knd.draws k}) ho hd (Zq (h _ _ rfl ⟨_,_,ep+1,Vy _ ho (Obj.isFreed_of_dict (Obj.data_mapDictKeys hd _)),hc.mapDictKeys _,Obj.data_mapDictKeys hd _,?_,?_,?_⟩ (Vo ..))))
  ·rw[<-erase_filter hn hj]
   obtain⟨l⟩:=es
   simp only at he
   subst he
   simp[List.eraseIdx_eq_take_drop_succ,ZJ,List.map_take,WM]
  ·intro x hx
   exact knd.keeps (his x (Yv.mp hx).1) ho hd (Vo ..)
  ·exact List.Sublist.nodup (List.Sublist.map _ List.filter_sublist) hn
end
section
variable{X:Cx}{pins:List (Addr×Obj)}{σ:St}{H:Hp}{s:Shared}{a b:Addr}{kvs:List (List Key×V)}{k:List Key}{A:Around}{E:Value->Shared->Prop}
theorem KT.drop{H:Hp}{kvs:List (List Key×V)}{xs:List (List Key×Addr×Value)}(r:KT H kvs xs)(k:List Key):KT H (W7 kvs k) (xs.filter fun x=>decide (x.1≠k)):=by
 induction r with
 |nil=>exact .nil
 |@cons p q ps qs h t ih=>
  obtain⟨h1,h2⟩:=h
  by_cases e:p.1=k
  ·rw[OD e,Yk (by simpa using h1.symm.trans e)]
   exact ih
  ·rw[OE e,Yl (by simpa using fun z=>e (h1.trans z))]
   exact .cons ⟨h1,h2⟩ ih
theorem d_popT{v:V}{Q:Value->Shared->Prop}(hu:A.units+1<cLine)(I:Inv X pins σ H s)(e:H a=some (.dT kvs))(eb:H b=some (.tup (k.map kV)))(l:valV kvs k=some v)
  (h:∀w' s',Inv X pins σ (upd H a (.dT (W7 kvs k))) s'->RelV v w'->Q w' s'):wpAny (model X.prog X.w) A (call (.builtin "dict.pop") [.ref a,.ref b]) Q E s:=by
 obtain⟨z,hd,xs,rel,dd⟩:=dt_of I.hok e
 have hkey:=QI I.hok eb
 obtain⟨w',hw,rw'⟩:=RelO.some_of (v:=v) (o:=(atKey xs k).map (·.2)) (by rw[<-l];exact rel.val k)
 obtain⟨p,hp,hp2⟩:=XC.mp hw
 have hz:xs.length<=sizeLine:=by rw[<-Zy rel];exact z
 refine wpAny_call_entry PySem.F.slot_dict_pop dd.typeIs PySem.F.entry_dict_pop ?_ (PySem.F.args_dict_pop_2 _ _)
 unfold Builtin.«dict.pop»
 refine Zc ?_
 unfold Builtin.Dict.keyAndDefault
 refine Zc (wpAny_notOrdered_dict dd.typeIs ?_)
 show wpAny _ _ (pure (a,Value.ref b,none)) _ _ s
 refine Zq ?_
 simp only[keyPart,Option.isSome_none,ZR,if_false]
 obtain⟨od,es,ep,ho,hc,hdat,he,his,hn⟩:=id dd
 refine Zc (wpAny_dictEntries ho hdat (Zc (Zq ?_)))
 have hne:es.isEmpty=false:=by
  cases xs with
  |nil=>simp[atKey]at hp
  |cons x r=>
   obtain⟨l⟩:=es
   simp only at he
   subst he
   rfl
 rw[hne]
 simp only[ZR,if_false]
 refine Zc (OO (knd:=tupleKind (YJ X.prog X.w)) (tupleKind_room_in1 hu) hkey dd hp hz fun ent h' ev dd' hs=>?_)
 simp only[Option.isNone_some,ZR,if_false]
 refine Zc (wpAny_letGo (Zq ⟨ent.val,rfl,?_⟩))
 rw[ev,hp2]
 refine h w' _ ?_ rw'
 obtain⟨q,es',ep',hq,h2,h3,h4,_,h5⟩:=dd'
 refine d_write I (by rw[e];exact True.intro) hs ⟨q,hq⟩ ⟨Zi (dropK_le kvs k) z,hd,_,(KT.drop rel k).keeps fun c ys ec=>?_,q,es',ep',hq,h2,h3,h4,h5⟩
 rw[Zt (We ec e (fun z=>nomatch z))]
 exact ec
end
noncomputable def tDPopT(td ty:TE):TE:=fun σ H Q=>td σ H fun x H1=>∃a,x=.ref a/\IsD H1 a/\ty σ H1 fun y H2=>∃kvs k b v,H2 a=some (.dT kvs)/\y=.ref b/\H2 b=some (.tup (k.map kV))/\valV kvs k=some v/\Q v (upd H2 a (.dT (W7 kvs k)))
theorem NS{X:Cx}{o e:Expr}{td ty:TE}{apos cpos:Pos}(hu:X.A.units+1<cLine)(ho:PE X o td)(he:PE X e ty)(m:M1 X o "pop" apos e cpos):PE X (.Call (.Attribute o "pop" apos) [e] [] cpos) (tDPopT td ty):=by
 intro pins s σ H Q I h
 refine wpAny_Call_method m.base m.few m.line PySem.F.plainAttrs_dict PySem.F.slot_dict_pop PySem.F.type_dict_pop (thn (ho pins s σ H _ I h) fun u s1 ⟨x,H1,I1,rx,a,ex,d,q1⟩=>?_)
 subst ex
 obtain rfl:u=Value.ref a:=rx
 obtain⟨t1,t2,_⟩:=isD_at I1 d
 refine⟨t1,t2,?_⟩
 rw[m.trees]
 refine Calls.callWith_builtin rfl (Calls.evalArgs_plain (X8 (thn (he pins s1 σ H1 _ I1 q1) fun iv s2 ⟨y,H2,I2,ry,kvs,k,b,v,ea,ey,eb,l,q2⟩=>Wh ?_)))
 subst ey
 obtain rfl:iv=Value.ref b:=ry
 exact d_popT hu I2 ea eb l fun w' s3 I3 rw'=>⟨v,_,I3,rw',q2⟩
section
variable{prog:Program}{w:World}{A:Around}{E:Value->Shared->Prop}
theorem Pk{R:Result->Shared->Prop}{S I l:Addr}{items:Array Value}{res:Value}(hu:A.units+8<cLine)(hh:A.handled=none)(hlI:l≠I)(hSI:S≠I)(hSl:S≠l):
  ∀(rest:List (List Key×Addr×Value))(i:Nat)(acc:List (List Key×Addr×Value))(ix:Int)(t:Tok)(s:Shared),items.size=i+rest.length->acc.length+rest.length<=sizeLine->((acc++rest).map (·.1)).Nodup->
   (∀(j:Nat)(q:List Key×Addr×Value),rest[j]?=some q->∃(b:Addr),items[i+j]?=some (.ref b)/\b≠S/\b≠I/\q.2.1≠S/\q.2.1≠I/\IsTup s.heap b #[.ref q.2.1,q.2.2]/\(tupleKind (YJ prog w)).is s.heap q.1 q.2.1)->
   (∀q∈acc,q.2.1≠S/\q.2.1≠I)->s.heap.IsListIter I l i->s.heap.IsList l items->s.heap.DictOfH (tupleKind (YJ prog w)) S acc->
   (∀h' tk,h'.DictOfH (tupleKind (YJ prog w)) S (acc++rest)->(∀b o,b≠S->b≠I->s.heap.get? b=some o->h'.get? b=some o)->R (.ok (.ret res)) {s with heap:=h',toks:=tk})->
   codeAny (model prog w) A (.builtin "dict.update.loop" ⟨[.ref S,.ref I,.int ix t,res],[]⟩) R s
 |[],i,acc,ix,t,s,hsz,hln,hnd,ht,hac,hit,hl,hm,hR=>by
  refine Vf Nv ?_
  rw[Wo UN _]
  show wpAny _ A.in1 (pyNext (.ref I) >>= _) _ _ s
  refine Zc (wpAny_pyNext_list_end (A:=A.in1) hh hit hl (by first|exact Array.getElem?_eq_none (Nat.le_of_eq hsz)|(simp at hsz;simp;omega)) fun h' he=>?_)
  show wpAny _ A.in1 (Builtin.Dict.addKeywords S [] >>= _) _ _ _
  refine Zc (Zq (Zq ?_))
  rw[Y6]at hR
  refine hR h' s.toks ?_ fun b o _ hb e=>he b o hb e
  obtain⟨o,es,ep,h1,h2,h3,h4,h5,h6⟩:=hm
  refine⟨o,es,ep,he _ _ hSI h1,h2,h3,h4,fun x hx=>?_,h6⟩
  obtain⟨ot,its,n,k1,k2,k3,k4⟩:=h5 x hx
  exact⟨ot,its,n,he _ _ (hac x hx).2 k1,k2,k3,k4⟩
 |q::rest,i,acc,ix,t,s,hsz,hln,hnd,ht,hac,hit,hl,hm,hR=>by
  obtain⟨b,hb,hbS,hbI,hqS,hqI,htup,hk⟩:=ht 0 q rfl
  rw[Zo]at hsz hln
  refine Vf Nv ?_
  rw[Wo UN _]
  show wpAny _ A.in1 (pyNext (.ref I) >>= _) _ _ s
  refine Zc (wpAny_pyNext_list_item (x:=.ref b) hit hl (by simpa using hb) fun h1 hit1 hs1=>?_)
  have e1:∀c o,c≠I->s.heap.get? c=some o->h1.get? c=some o:=fun c o hc e=>hs1.extBut c o hc e
  have key1:∀{k:List Key}{c:Addr},c≠I->(tupleKind (YJ prog w)).is s.heap k c->(tupleKind (YJ prog w)).is h1 k c:=fun{k c} hc h=>by
   obtain⟨ot,its,n,k1,k2,k3,k4⟩:=h
   exact⟨ot,its,n,e1 _ _ hc k1,k2,k3,k4⟩
  have ht1:IsTup h1 b #[.ref q.2.1,q.2.2]:=htup.extBut hs1.extBut hbI
  have hl1:h1.IsList l items:=hl.extBut hs1.extBut hlI
  have hm1:h1.DictOfH (tupleKind (YJ prog w)) S acc:=by
   obtain⟨o,es,ep,g1,g2,g3,g4,g5,g6⟩:=hm
   exact⟨o,es,ep,e1 _ _ hSI g1,g2,g3,g4,fun x hx=>key1 (hac x hx).2 (g5 x hx),g6⟩
  have hk1:=key1 hqI hk
  have hnew:atKey acc q.1=none:=atKey_none_of_get fun j p hj=>by
   rw[ZJ,ZB]at hnd
   have:=(Va.mp hnd).2.2 q.1 (ZS.mpr ⟨_,Zp hj,rfl⟩) q.1 Zm
   exact this rfl
  obtain⟨o,ho,hc,n,hd⟩:=id ht1
  show wpAny _ A.in1 (holding [Value.ref b] _ >>= _) _ _ _
  refine Zc (YV ?_)
  refine Zc (wpAny_tryCatch ?_)
  unfold Builtin.Dict.pairItems
  refine Zc (wpAny_typeOf (T:="tuple") ⟨o,ho,hc⟩ ?_)
  rw[if_pos (by first|decide|rfl|simp)]
  refine Zc (wpAny_seqItems ho hd (Zq ?_))
  show wpAny _ A.in1 (holding [Value.ref q.2.1,q.2.2] (dictSet S (.ref q.2.1) q.2.2)) _ _ _
  refine YV (wpAny_dictSet_heap (knd:=tupleKind (YJ prog w)) (k:=q.1) (show A.in1.units<cLine from by show A.units+1<cLine;omega) hk1 hm1 (fun h2 hm2 hs2=>?_) (by omega))
  rw[storedH_new hnew]at hm2
  have e2:∀c o,c≠S->h1.get? c=some o->h2.get? c=some o:=fun c o hc e=>hs2.extBut c o hc e
  refine Zq ⟨plainId_quiet UN _,Pk (items:=items) hu hh hlI hSI hSl rest (i+1) (acc++[(q.1,q.2.1,q.2.2)]) (ix+1) 0 _ (show items.size=i+1+rest.length by omega) ?_ ?_ (fun j q' e=>?_) (fun q' hq'=>?_) ?_ ?_ hm2 fun h' tk hd' k=>?_⟩
  ·rw[Zj,Z6]
   omega
  ·rw[Xv]
   exact hnd
  ·obtain⟨b',hb',hbS',hbI',hqS',hqI',htup',hk'⟩:=ht (j+1) q' (by simpa using e)
   refine⟨b',?_,hbS',hbI',hqS',hqI',(htup'.extBut hs1.extBut hbI').extBut hs2.extBut hbS',?_⟩
   ·rw[show i+1+j=i+(j+1) by omega]
    exact hb'
   ·obtain⟨ot,its,n,k1,k2,k3,k4⟩:=key1 hqI' hk'
    exact⟨ot,its,n,e2 _ _ hqS' k1,k2,k3,k4⟩
  ·rcases Zs.mp hq' with z|z
   ·exact hac q' z
   ·have z:q'=(q.1,q.2.1,q.2.2):=by simpa using z
    subst z
    exact⟨hqS,hqI⟩
  ·exact hit1.at fun o' e=>hs2.extBut I o' (Yq hSI) e
  ·exact hl1.extBut hs2.extBut (Yq hSl)
  ·rw[Xv]at hd'
   exact hR h' tk hd' fun c oc h3 h4 e=>k c oc h3 h4 (e2 _ _ h3 (e1 _ _ h4 e))
theorem Rp{s:Shared}{l:Addr}{ol:Obj}{items:Array Value}{n:Nat}{prs:List (List Key×Addr×Value)}{Q:Value->Shared->Prop}(hu:A.units+32<cLine)(hh:A.handled=none)(hl:s.heap.get? l=some ol)(hc:ol.cls=.type "list")(hd:ol.dict=none)
  (hdat:ol.data=.seq items n) (hsz:items.size=prs.length) (hln:prs.length<=sizeLine) (hnd:(prs.map (·.1)).Nodup)
  (ht:∀(j:Nat)(q:List Key×Addr×Value),prs[j]?=some q->∃(b:Addr),items[j]?=some (.ref b)/\IsTup s.heap b #[.ref q.2.1,q.2.2]/\(tupleKind (YJ prog w)).is s.heap q.1 q.2.1)
  (h:∀h' tk,h'.DictOfH (tupleKind (YJ prog w)) s.heap.objs.size prs->(∀b o,s.heap.get? b=some o->h'.get? b=some o)->Q (.ref s.heap.objs.size) {s with heap:=h',toks:=tk}):
  wpAny (model prog w) A (call (.type "dict") [.ref l]) Q E s:=by
 refine callType_codes (Q₁:=fun obj s₁=>obj=.ref s.heap.objs.size/\s₁={s with heap:=s.heap.push {cls:=.type "dict",data:=.dict #[]}}) PySem.F.kt_called_dict (PySem.F.kt_typeCall_dict_1 _) PySem.F.entry_dict_init (kt_code_dict_new _ ⟨rfl,rfl⟩) ?_
 rintro obj s₁ ⟨rfl,rfl⟩
 have hnew:(s.heap.push {cls:=.type "dict",data:=.dict #[]}).DictOf (YJ prog w) s.heap.objs.size []:=Heap.DictOf.new s.heap
 have hnewT:(s.heap.push {cls:=.type "dict",data:=.dict #[]}).DictOfH (tupleKind (YJ prog w)) s.heap.objs.size []:=⟨_,#[],0,ZW _ rfl,⟨rfl,rfl,rfl⟩,rfl,rfl,by simp,Wv⟩
 have k0:∀b o,s.heap.get? b=some o->(s.heap.push {cls:=.type "dict",data:=.dict #[]}).get? b=some o:=fun b o e=>Zz _ e
 refine⟨hnew.typeIs,PySem.F.args_dict_init_2 _ _,?_⟩
 unfold Builtin.«dict.__init__»
 refine Zc ?_
 unfold Builtin.Dict.selfAndRest
 refine Zc (wpAny_notOrdered_dict hnew.typeIs ?_)
 show wpAny _ _ (pure (s.heap.objs.size,[Value.ref l])) _ _ _
 refine Zq ?_
 show wpAny _ _ (Builtin.Dict.updateFrom "dict.__init__" s.heap.objs.size (.ref l) [] .none) _ _ _
 unfold Builtin.Dict.updateFrom
 refine Zc (wpAny_typeOf (T:="list") ⟨ol,k0 _ _ hl,hc⟩ ?_)
 rw[if_pos (by first|decide|rfl|simp)]
 refine Zc (Ky (k0 _ _ hl) hc hdat hd hh fun h1 tk1 hk1=>?_)
 rw[if_pos (show(none:Option Value).isNone=true from rfl)]
 refine Zc (wpAny_rule ?_)
 have hl1:h1.IsList l items:=⟨ol,hk1 _ _ (k0 _ _ hl),hc,n,hdat⟩
 have hS1:s.heap.objs.size<h1.objs.size:=by
  have e:(s.heap.push {cls:=.type "dict",data:=.dict #[]}).get? s.heap.objs.size=some {cls:=.type "dict",data:=.dict #[]}:=ZW _ rfl
  exact ZF (hk1 _ _ e)
 refine Zc (wpAny_pyIter_list hl1 ?_)
 have k2:∀b o,h1.get? b=some o->(h1.push {cls:=.type "list_iterator",data:=.fields #[.ref l,.int 0 0]}).get? b=some o:=fun b o e=>Zz _ e
 have kAll:∀b o,s.heap.get? b=some o->(h1.push {cls:=.type "list_iterator",data:=.fields #[.ref l,.int 0 0]}).get? b=some o:=fun b o e=>k2 _ _ (hk1 _ _ (k0 _ _ e))
 have hlt:l<s.heap.objs.size:=ZF hl
 have dd1:(h1.push {cls:=.type "list_iterator",data:=.fields #[.ref l,.int 0 0]}).DictOfH (tupleKind (YJ prog w)) s.heap.objs.size []:=by
  obtain⟨o,es,ep,g1,g2,g3,g4,g5,g6⟩:=hnewT
  exact⟨o,es,ep,k2 _ _ (hk1 _ _ g1),g2,g3,g4,fun x hx=>(nomatch hx),g6⟩
 have key:=Pk (prog:=prog) (w:=w) (A:=A.in1) (R:=wants (fun r s₂=>r=.none/\Q (.ref s.heap.objs.size) s₂) E) (S:=s.heap.objs.size) (I:=h1.objs.size) (l:=l) (items:=items) (res:=Value.none) (show A.in1.units+8<cLine from by show A.units+1+8<cLine;omega) hh
  (Z0 (Wa hlt hS1)) (Z0 hS1) (Nat.ne_of_gt hlt) prs 0 [] 0 0
  {s with heap:=h1.push {cls:=.type "list_iterator",data:=.fields #[.ref l,.int 0 0]},toks:=tk1} (by rw[hsz,Nat.zero_add]) (by rw[Yc,Nat.zero_add];exact hln) (by rw[VQ];exact hnd)
  (fun j q e=>by
   obtain⟨b,e1,e2,e3⟩:=ht j q e
   have hb:b<s.heap.objs.size:=e2.lt
   obtain⟨ot,its,m,k1,k2',k3,k4⟩:=id e3
   have hq:q.2.1<s.heap.objs.size:=ZF k1
   exact⟨b,by rw[Nat.zero_add];exact e1,Z0 hb,Z0 (Wa hb hS1),Z0 hq,Z0 (Wa hq hS1),e2.keeps fun c o z=>kAll _ _ z,⟨ot,its,m,kAll _ _ k1,k2',k3,k4⟩⟩)
  (fun q hq=>(nomatch hq)) ⟨_,ZW _ rfl,rfl,rfl⟩ (hl1.at fun o e=>k2 _ _ e) dd1
  (fun h' tk hd' k=>⟨rfl,h h' tk (by rw[VQ]at hd';exact hd') fun b o e=>k b o (Z0 (ZF e)) (Z0 (Wa (ZF e) hS1)) (kAll _ _ e)⟩)
 first
  |exact Zq ⟨plainId_quiet UN _,key⟩
  |exact Zc (Zq (Zq ⟨plainId_quiet UN _,key⟩))
end
section
variable{X:Cx}
noncomputable abbrev PrT(K:PySem.W.Frag)(H:Hp)(p:Addr)(q:Addr×List Key×V):Prop:=SqT K H p [.ref q.1,q.2.2]/\H q.1=some (.tup (q.2.1.map kV))
theorem Oi{pins:List (Addr×Obj)}{σ:St}{H:Hp}{s:Shared}(I:Inv X pins σ H s):∀{ps:List Addr}{qs:List (Addr×List Key×V)},Paired (PrT X.K H) ps qs->
  ∃prs:List (List Key×Addr×Value),KT H (qs.map fun q=>q.2) prs/\prs.length=ps.length/\prs.map (·.1)=qs.map (fun q=>q.2.1)/\∀(j:Nat)(q:List Key×Addr×Value),prs[j]?=some q->∃(b:Addr),ps[j]?=some b/\IsTup s.heap b #[.ref q.2.1,q.2.2]/\(tupleKind (YJ X.prog X.w)).is s.heap q.1 q.2.1
 |_,_,.nil=>⟨[],.nil,rfl,rfl,fun j q e=>by simp at e⟩
 |_,_,.cons (a:=p) (b:=kv) h t=>by
  obtain⟨prs,r,hl,hm,hp⟩:=Oi I t
  obtain⟨h1,h2⟩:=h
  obtain⟨its,rv,ht,_⟩:=I.tuple h1
  obtain⟨u,y,ei,ru,ry⟩:=vals2 rv
  subst ei
  obtain rfl:u=Value.ref kv.1:=ru
  refine⟨(kv.2.1,kv.1,y)::prs,.cons ⟨rfl,h2,ry⟩ r,by rw[Zo,Zo,hl],by rw[ZB,ZB,hm],fun j q e=>?_⟩
  cases j with
  |zero=>
   have e':(kv.2.1,kv.1,y)=q:=ZC e
   subst e'
   exact⟨p,rfl,ht,QI I.hok h2⟩
  |succ j=>
   obtain⟨b,e1,e2,e3⟩:=hp j q (by simpa using e)
   exact⟨b,by simpa using e1,e2,e3⟩
theorem Lk(hu:X.A.units+64<cLine)(hcalm:X.calm=true):Us X (.type "dict") (fun xs H Q=>∃(a:Addr)(ps:List Addr)(qs:List (Addr×List Key×V)),xs=[.ref a]/\SqL X.K H a (ps.map V.ref)/\Paired (PrT X.K H) ps qs/\(qs.map fun q=>q.2.1).Nodup/\
  ∀p,H p=none->Q (.ref p) (upd H p (.dT (qs.map fun q=>q.2)))):=by
 intro pins s σ H xs us Q I r q
 obtain⟨a,ps,qs,ex,hq,hp,hnd,q⟩:=q
 subst ex
 obtain⟨u,eu,rx⟩:=vals1 r
 subst eu
 cases rx
 obtain⟨its,rv,pl,hz⟩:=I.list hq
 have ei:=O2 rv
 subst ei
 rw[Za]at hz
 obtain⟨prs,rel,hl,hm,hpr⟩:=Oi I hp
 obtain⟨o,n,ho,hc,hd,hdat⟩:=pl
 refine Rp (prs:=prs) (by omega) (I.ok.hd hcalm) ho hc hd hdat (by simp[hl]) (by rw[hl];exact hz) (by rw[hm];exact hnd) (fun j q' e=>?_) fun h' tk hd' k=>?_
 ·obtain⟨b,e1,e2,e3⟩:=hpr j q' e
  exact⟨b,by simp[e1],e2,e3⟩
 ·have hm':(s.heap.objs.size==sysModules)=false:=beq_eq_false_iff_ne.mpr (Nat.ne_of_gt I.big)
  have hlen:(qs.map fun q=>q.2).length<=sizeLine:=by
   rw[Za,<-Zy hp]
   exact hz
  have hfr:H s.heap.objs.size=none:=I.hok.fresh (Zl _)
  obtain⟨od,es,ep,g1,g2,g3,g4,g5,g6⟩:=hd'
  have relK:KT (upd H s.heap.objs.size (.dT (qs.map fun q=>q.2))) (qs.map fun q=>q.2) prs:=rel.keeps fun c ys ec=>by
   rw[Zt (ZD ec hfr)]
   exact ec
  exact⟨.ref s.heap.objs.size,upd H s.heap.objs.size (.dT (qs.map fun q=>q.2)),I.laid (t':=tk) k (Zl _) (show Wu X.prog X.w _ _ _ (.dT (qs.map fun q=>q.2))from⟨hlen,hm',prs,relK,od,es,ep,g1,g2,g3,g4,g6⟩),rfl,q _ hfr⟩
end
end L2
end
section
namespace Ta
open PySem SetTable
noncomputable def sumF:Nat->Nat
 |0=>0
 |k+1=>5*sumF k+1
theorem Qb(k:Nat):∀l:Nat,sumF (k+l)=5^l*sumF k+sumF l
 |0=>by simp[sumF]
 |l+1=>by
  rw[<-Nat.add_assoc,sumF,Qb k l,sumF,XE]
  rw[Nat.mul_add,<-Nat.mul_assoc,Y0 5 (5^l)]
  omega
theorem odd5:∀k:Nat,5^k%4=1
 |0=>rfl
 |k+1=>by
  rw[XE,Nat.mul_mod,odd5 k]
theorem Ps:∀k:Nat,sumF k%2=k%2
 |0=>rfl
 |k+1=>by
  have:=Ps k
  rw[sumF]
  omega
theorem Mc:∀(n d:Nat),2^n∣sumF d->2^n∣d
 |0,d,_=>by simp
 |n+1,d,h=>by
  have h2:2∣sumF d:=Nat.dvd_trans ⟨2^n,by rw[XE,Y0]⟩ h
  have hd:d%2=0:=by
   have:=Ps d
   omega
  obtain⟨e,rfl⟩:∃e,d=e+e:=⟨d/2,by omega⟩
  rw[Qb]at h
  have e1:5^e*sumF e+sumF e=2*(sumF e*((5^e+1)/2)):=by
   have h5:=odd5 e
   have:5^e+1=2*((5^e+1)/2):=by omega
   calc 5^e*sumF e+sumF e=sumF e*(5^e+1):=by rw[Nat.mul_add,Nat.mul_one,Y0]
    _=sumF e*(2*((5^e+1)/2)):=by rw[<-this]
    _=2*(sumF e*((5^e+1)/2)):=by rw[Nat.mul_left_comm]
  rw[e1,XE,Y0 (2^n) 2]at h
  have h3:2^n∣sumF e*((5^e+1)/2):=Nat.dvd_of_mul_dvd_mul_left (by decide) h
  have hodd:Nat.Coprime (2^n) ((5^e+1)/2):=by
   refine Nat.Coprime.pow_left n ?_
   have h5:=odd5 e
   have h6:((5^e+1)/2)%2=1:=by omega
   have:Nat.gcd 2 ((5^e+1)/2)=1:=by
    rw[Nat.gcd_rec,h6]
    rfl
   exact this
  have h4:=Mc n e (Nat.Coprime.dvd_of_dvd_mul_right hodd h3)
  rw[XE]
  obtain⟨z,hz⟩:=h4
  exact⟨z,by rw[hz];rw[Nat.mul_assoc,Y0 2 z,<-Nat.mul_assoc];omega⟩
theorem Ld{a b m:Nat}(h:b%m=(a+b)%m):m∣a:=by
 have:=Nat.sub_mod_eq_zero_of_mod_eq h.symm
 rw[WY]at this
 exact Nat.dvd_of_mod_eq_zero this
theorem nodup_len{α:Type}[DecidableEq α]:∀{l m:List α},l.Nodup->(∀x∈l,x∈m)->l.length<=m.length
 |[],_,_,_=>ZG _
 |x::l,m,hn,h=>by
  rw[YB]at hn
  have hx:=h x Zm
  have ih:=nodup_len (m:=m.erase x) hn.2 fun y hy=>(List.mem_erase_of_ne (show y≠x from fun e=>hn.1 (e▸hy))).mpr (h y (Ze _ hy))
  rw[List.length_erase_of_mem hx]at ih
  have:0<m.length:=Vc hx
  rw[Zo]
  omega
theorem all_of{l:List Nat}{n:Nat}(hn:l.Nodup)(hl:l.length=n)(hb:∀x∈l,x<n){s:Nat}(hs:s<n):s∈l:=by
 refine ZY fun h=>?_
 have h1:(s::l).length<=(List.range n).length:=nodup_len (YB.mpr ⟨h,hn⟩) fun x hx=>by
  rcases Zw.mp hx with rfl|hx
  ·exact Ye.mpr hs
  ·exact Ye.mpr (hb x hx)
 rw[Zo,YF]at h1
 omega
noncomputable def walk(n:Nat)(i:Nat):Nat->Nat
 |0=>i
 |k+1=>(walk n i k*5+1)%2^n
theorem RM(n:Nat){i:Nat}(hi:i<2^n):∀k,walk n i k=(5^k*i+sumF k)%2^n
 |0=>by
  show i=(5^0*i+0)%2^n
  rw[Nat.pow_zero,Nat.one_mul,Nat.add_zero,Nat.mod_eq_of_lt hi]
 |k+1=>by
  rw[walk,RM n hi k,sumF,XE]
  have e:5^k*5*i+(5*sumF k+1)=(5^k*i+sumF k)*5+1:=by
   rw[Nat.add_mul,Nat.mul_right_comm,Y0 (sumF k) 5]
   omega
  rw[e,Nat.add_mod,Nat.mul_mod,Nat.mod_mod,<-Nat.mul_mod,<-Nat.add_mod]
theorem L5(n:Nat){i s:Nat}(hi:i<2^n)(hs:s<2^n):∃k,k<2^n/\walk n i k=s:=by
 have h0:0<2^n:=Nat.pow_pos (by decide)
 have:=all_of (l:=(List.range (2^n)).map fun k=>walk n i k) (n:=2^n) ?_ (by simp) ?_ hs
 ·obtain⟨k,hk,e⟩:=ZS.mp this
  exact⟨k,Ye.mp hk,e⟩
 ·have inj:∀k l,k<l->l<2^n->walk n i k≠walk n i l:=fun k l hkl hl e=>by
   obtain⟨d,rfl⟩:∃d,l=d+k:=⟨l-k,by omega⟩
   rw[RM n hi,RM n hi]at e
   have e2:5^(d+k)*i+sumF (d+k)=5^k*(sumF d*(4*i+1))+(5^k*i+sumF k):=by
    have e5:5^d=4*sumF d+1:=by
     have:∀d,5^d=4*sumF d+1:=fun d=>by
      induction d with
      |zero=>rfl
      |succ d ih=>rw[XE,ih,sumF];omega
     exact this d
    rw[Qb,Nat.pow_add,e5]
    generalize 5^k=a
    generalize sumF d=b
    have q1:(4*b+1)*a*i=a*(b*(4*i))+a*i:=by
     rw[Nat.add_mul,Nat.add_mul,Nat.one_mul]
     congr 1
     rw[Y0 (4*b) a,Nat.mul_assoc,Y0 4 b,Nat.mul_assoc]
    rw[q1,Nat.mul_add b,Nat.mul_one,Nat.mul_add a]
    omega
   rw[e2]at e
   have h1:=Ld e
   have hc:Nat.Coprime (2^n) (5^k):=Nat.Coprime.pow n k (by decide)
   have h2:=Nat.Coprime.dvd_of_dvd_mul_left hc h1
   have hc2:Nat.Coprime (2^n) (4*i+1):=by
    refine Nat.Coprime.pow_left n ?_
    have h6:(4*i+1)%2=1:=by omega
    have:Nat.gcd 2 (4*i+1)=1:=by
     rw[Nat.gcd_rec,h6]
     rfl
    exact this
   have h3:=Mc n d (Nat.Coprime.dvd_of_dvd_mul_right hc2 h2)
   have hd:0<d:=by omega
   have:=Nat.le_of_dvd hd h3
   omega
  have key:∀m,m<=2^n->((List.range m).map fun k=>walk n i k).Nodup:=fun m=>by
   induction m with
   |zero=>intro _;exact Wv
   |succ m ih=>
    intro hm
    rw[YC,ZJ]
    refine Va.mpr ⟨ih (by omega),by simp,fun a ha b hb e=>?_⟩
    obtain⟨k,hk,rfl⟩:=ZS.mp ha
    have:b=walk n i m:=by simpa using hb
    subst this
    exact inj k m (Ye.mp hk) (by omega) e
  exact key _ (Zl _)
 ·intro x hx
  obtain⟨k,_,rfl⟩:=ZS.mp hx
  rw[RM n hi]
  exact Nat.mod_lt _ h0
end Ta
end
section
namespace Ta
open PySem SetTable
noncomputable def adv(mask:Nat)(p:Probe):Probe:=
 if p.more>0 then{p with j:=p.j+1,more:=p.more-1}else{p with j:=(leap mask p.i p.perturb).1,more:=runEnd mask (leap mask p.i p.perturb).1-(leap mask p.i p.perturb).1,i:=(leap mask p.i p.perturb).1,perturb:=(leap mask p.i p.perturb).2}
noncomputable def path(mask:Nat)(h:Int):Nat->Probe
 |0=>{j:=bits h%(mask+1),more:=runEnd mask (bits h%(mask+1))-bits h%(mask+1),i:=bits h%(mask+1),perturb:=bits h,dummy:=none}
 |k+1=>adv mask (path mask h k)
noncomputable def blk(mask:Nat)(h:Int):Nat->Nat×Nat
 |0=>(bits h%(mask+1),bits h)
 |b+1=>leap mask (blk mask h b).1 (blk mask h b).2
noncomputable def off(mask:Nat)(h:Int):Nat->Nat
 |0=>0
 |b+1=>off mask h b+(runEnd mask (blk mask h b).1-(blk mask h b).1)+1
theorem S5(mask i:Nat):i<=runEnd mask i/\runEnd mask i-i<=9:=by
 unfold runEnd
 split<;>omega
theorem Ry{mask i:Nat}(h:i<=mask):runEnd mask i<=mask:=by
 unfold runEnd
 split<;>omega
theorem Sn(mask:Nat)(h:Int):∀(b r:Nat),r<=runEnd mask (blk mask h b).1-(blk mask h b).1->
  path mask h (off mask h b+r)={j:=(blk mask h b).1+r,more:=runEnd mask (blk mask h b).1-(blk mask h b).1-r,i:=(blk mask h b).1,perturb:=(blk mask h b).2,dummy:=none}:=by
 intro b
 induction b with
 |zero=>
  intro r
  induction r with
  |zero=>intro _;rfl
  |succ r ih=>
   intro hr
   rw[<-Nat.add_assoc,path,ih (by omega),adv,if_pos (by show runEnd _ _-_-r>0;omega)]
   rfl
 |succ b ihb=>
  intro r
  induction r with
  |zero=>
   intro _
   have:=ihb _ (Zl _)
   rw[Nat.add_zero,off,path,this,adv,if_neg (by show¬(_-_>0);omega)]
   rfl
  |succ r ih=>
   intro hr
   rw[<-Nat.add_assoc,path,ih (by omega),adv,if_pos (by show runEnd _ _-_-r>0;omega)]
   rfl
theorem off_le(mask:Nat)(h:Int):∀b,off mask h b<=10*b
 |0=>Zl _
 |b+1=>by
  have:=off_le mask h b
  have:=(S5 mask (blk mask h b).1).2
  rw[off]
  omega
theorem Re(mask:Nat)(h:Int):∀k,∃b r,k=off mask h b+r/\r<=runEnd mask (blk mask h b).1-(blk mask h b).1
 |0=>⟨0,0,rfl,ZG _⟩
 |k+1=>by
  obtain⟨b,r,rfl,hr⟩:=Re mask h k
  by_cases e:r<runEnd mask (blk mask h b).1-(blk mask h b).1
  ·exact⟨b,r+1,by omega,e⟩
  ·exact⟨b+1,0,by rw[off];omega,ZG _⟩
theorem Np(mask:Nat)(h:Int):∀b,(blk mask h b).1<=mask
 |0=>Nat.le_of_lt_succ (Nat.mod_lt _ (Nat.succ_pos _))
 |b+1=>Nat.le_of_lt_succ (Nat.mod_lt _ (Nat.succ_pos _))
theorem LD(mask:Nat)(h:Int)(k:Nat):(path mask h k).j<=mask:=by
 obtain⟨b,r,rfl,hr⟩:=Re mask h k
 rw[Sn mask h b r hr]
 show(blk mask h b).1+r<=mask
 have:=Ry (Np mask h b)
 have:=(S5 mask (blk mask h b).1).1
 have:=Np mask h b
 omega
theorem MR(mask:Nat)(h:Int)(k:Nat):(path mask h k).dummy=none:=by
 obtain⟨b,r,rfl,hr⟩:=Re mask h k
 rw[Sn mask h b r hr]
theorem Mp(mask:Nat)(h:Int):∀b,(blk mask h b).2=bits h/32^b
 |0=>by rw[Nat.pow_zero,Nat.div_one];rfl
 |b+1=>by
  show(blk mask h b).2/32=_
  rw[Mp mask h b,Nat.div_div_eq_div_mul,XE]
theorem bits_lt(h:Int):bits h<2^64:=by
 unfold bits
 have h1:0<=h%(2^64:Int):=Int.emod_nonneg _ (by decide)
 have h2:h%(2^64:Int)<2^64:=Int.emod_lt_of_pos _ (by decide)
 omega
theorem Ki(mask:Nat)(h:Int)(k:Nat):(blk mask h (13+k)).2=0:=by
 rw[Mp]
 refine Nat.div_eq_of_lt (ZX (bits_lt h) ?_)
 exact Zi (by decide:2^64<=32^13) (VM (by decide) (Y1 _ _))
theorem Mo{mask n:Nat}(hm:mask+1=2^n)(h:Int):∀k,(blk mask h (13+k)).1=walk n (blk mask h 13).1 k
 |0=>rfl
 |k+1=>by
  rw[walk,<-Mo hm h k]
  show((blk mask h (13+k)).1*5+1+(blk mask h (13+k)).2/32)%(mask+1)=_
  rw[Ki,hm]
theorem Mq{mask n:Nat}(hm:mask+1=2^n)(h:Int){s:Nat}(hs:s<=mask):∃b,b<turns mask/\(blk mask h b).1=s:=by
 obtain⟨k,hk,e⟩:=L5 n (i:=(blk mask h 13).1) (s:=s) (by have:=Np mask h 13;omega) (by omega)
 exact⟨13+k,by unfold turns;omega,(Mo hm h k).trans e⟩
theorem Km{mask n:Nat}(hm:mask+1=2^n)(h:Int){s:Nat}(hs:s<=mask):∃k,k<10*turns mask/\(path mask h k).j=s:=by
 obtain⟨b,hb,e⟩:=Mq hm h hs
 refine⟨off mask h b,Z3 (off_le mask h b) (by omega),?_⟩
 have:=Sn mask h b 0 (ZG _)
 rw[Nat.add_zero]at this
 rw[this]
 exact e
theorem OQ{l:List Nat}(hs:l.Pairwise (· < ·)){i k a b:Nat}(hik:i<k)(ha:l[i]?=some a)(hb:l[k]?=some b):a<b:=by
 obtain⟨h1,e1⟩:=Zd.mp ha
 obtain⟨h2,e2⟩:=Zd.mp hb
 have:=Xl.mp hs i k h1 h2 hik
 rw[e1,e2]at this
 exact this
theorem Q8{xs:Array Nat}{j:Nat}(hs:xs.toList.Pairwise (· < ·)):∀fuel lo hi,hi-lo<=fuel->lo<=hi->hi<=xs.size->(∀i v,i<lo->xs.toList[i]?=some v->v<j)->(∀i v,hi<=i->xs.toList[i]?=some v->j<=v)->
  below.go xs j fuel lo hi<=xs.size/\(∀i v,i<below.go xs j fuel lo hi->xs.toList[i]?=some v->v<j)/\(∀i v,below.go xs j fuel lo hi<=i->xs.toList[i]?=some v->j<=v)
 |0,lo,hi,h1,h2,h3,h4,h5=>by
  rw[below.go]
  exact⟨by omega,h4,fun i v hi'=>h5 i v (by omega)⟩
 |fuel+1,lo,hi,h1,h2,h3,h4,h5=>by
  rw[below.go]
  by_cases hlt:lo<hi
  ·rw[if_pos hlt]
   have hmid:(lo+hi)/2<xs.size:=by omega
   have hl:(lo+hi)/2<xs.toList.length:=by simpa using hmid
   have eget:xs.getD ((lo+hi)/2) j=xs.toList[(lo+hi)/2]:=by
    simp[Array.getD,hmid]
   have hm:xs.toList[(lo+hi)/2]?=some xs.toList[(lo+hi)/2]:=Zu hl
   simp only
   rw[eget]
   generalize xs.toList[(lo+hi)/2]=m at hm
   by_cases hc:m<j
   ·rw[if_pos hc]
    refine Q8 hs fuel _ hi (by omega) (by omega) h3 (fun i v hi' hv=>?_) h5
    rcases Nat.lt_or_ge i ((lo+hi)/2)with q|q
    ·exact Wa (OQ hs q hv hm) hc
    ·have:i=(lo+hi)/2:=by omega
     subst this
     rw[hm]at hv
     cases hv
     exact hc
   ·rw[if_neg hc]
    refine Q8 hs fuel lo _ (by omega) (by omega) (by omega) h4 (fun i v hi' hv=>?_)
    rcases Nat.lt_or_ge ((lo+hi)/2) i with q|q
    ·exact Zi (by omega) (Nat.le_of_lt (OQ hs q hm hv))
    ·have:i=(lo+hi)/2:=by omega
     subst this
     rw[hm]at hv
     cases hv
     omega
  ·rw[if_neg hlt]
   exact⟨by omega,h4,fun i v hi'=>h5 i v (by omega)⟩
theorem Sd{xs:Array Nat}(hs:xs.toList.Pairwise (· < ·))(j:Nat):below xs j<=xs.size/\(∀i v,i<below xs j->xs.toList[i]?=some v->v<j)/\(∀i v,below xs j<=i->xs.toList[i]?=some v->j<=v):=
 Q8 hs _ _ _ (by omega) (ZG _) (Zl _) (fun i v h=>absurd h (WN _)) (fun i v h hv=>by
  rw[Z7 (by simpa using h)]at hv
  cases hv)
theorem U8{xs:Array Nat}(hs:xs.toList.Pairwise (· < ·)){i j:Nat}(h:xs.toList[i]?=some j):below xs j=i:=by
 obtain⟨h1,h2,h3⟩:=Sd hs j
 rcases Nat.lt_trichotomy (below xs j) i with q|q|q
 ·exfalso
  have hl:below xs j<xs.toList.length:=Wa q (Zd.mp h).1
  have hm:xs.toList[below xs j]?=some xs.toList[below xs j]:=Zu hl
  have:=h3 _ _ (Zl _) hm
  have:=OQ hs q hm h
  omega
 ·exact q
 ·exfalso
  have:=h2 i j q h
  omega
structure Tab(n:Nat)(t:SetTable)(hs:List Int):Prop where
 mask:t.mask+1=2^n
 n3:3<=n
 dum:t.dummies=#[]
 len:t.place.size=hs.length
 bnd:∀j∈t.place.toList,j<=t.mask
 srt:t.place.toList.Pairwise (· < ·)
 few:hs.length<=t.mask
 reach:∀j h,(j,h)∈t.place.toList.zip hs->∃k,(path t.mask h k).j=j/\∀k',k'<k->(path t.mask h k').j∈t.place.toList
section
variable{n:Nat}{t:SetTable}{hs:List Int}
theorem Tab.m7(T:Tab n t hs):7<=t.mask:=by
 have h1:=T.mask
 have h2:2^3<=2^n:=VM (by decide) T.n3
 omega
theorem Tab.odd(T:Tab n t hs):t.gaveWay=false:=by
 unfold SetTable.gaveWay
 have h1:=T.mask
 obtain⟨m,rfl⟩:∃m,n=m+1:=⟨n-1,by have:=T.n3;omega⟩
 rw[XE]at h1
 have:t.mask%2=1:=by omega
 rw[this]
 rfl
theorem Tab.fits(T:Tab n t hs){m:Nat}(hm:hs.length=m):t.fits m=true:=by
 unfold SetTable.fits SetTable.fill
 rw[T.dum,T.len,hm]
 have:=T.few
 simp
 omega
theorem Tab.live(T:Tab n t hs){i j:Nat}(h:t.place.toList[i]?=some j):t.slot j=.live i:=by
 unfold SetTable.slot
 rw[U8 T.srt h]
 have:t.place[i]?=some j:=by rw[<-Y2];exact h
 simp only[this]
 simp
theorem Tab.empty(T:Tab n t hs){j:Nat}(h:j∉t.place.toList):t.slot j=.empty:=by
 unfold SetTable.slot
 have h1:¬(t.place[below t.place j]? ==some j)=true:=fun z=>by
  have:=eq_of_beq z
  rw[<-Y2]at this
  exact h (Zp this)
 simp only[h1]
 rw[T.dum]
 rfl
theorem Tab.gap(T:Tab n t hs):∃s,s<=t.mask/\s∉t.place.toList:=by
 refine ZY fun hno=>?_
 have hall:∀s,s<t.mask+1->s∈t.place.toList:=fun s hs=>ZY fun z=>hno ⟨s,by omega,z⟩
 have h1:(List.range (t.mask+1)).length<=t.place.toList.length:=nodup_len List.nodup_range fun x hx=>hall x (Ye.mp hx)
 rw[YF]at h1
 have h2:=T.len
 have h3:=T.few
 rw[ZT]at h1
 omega
theorem least{P:Nat->Prop}:∀{k:Nat},P k->∃m,m<=k/\P m/\∀k',k'<m->¬P k':=by
 intro k
 induction k using Nat.strongRecOn with
 |_ k ih=>
  intro h
  by_cases q:∃k',k'<k/\P k'
  ·obtain⟨k',h1,h2⟩:=q
   obtain⟨m,a,b,c⟩:=ih k' h1 h2
   exact⟨m,by omega,b,c⟩
  ·exact⟨k,Zl _,h,fun k' h1 h2=>q ⟨k',h1,h2⟩⟩
theorem Tab.first(T:Tab n t hs)(h:Int):∃N,N<10*turns t.mask/\(path t.mask h N).j∉t.place.toList/\∀k,k<N->(path t.mask h k).j∈t.place.toList:=by
 obtain⟨s,hs,hn⟩:=T.gap
 obtain⟨k,hk,e⟩:=Km T.mask h hs
 obtain⟨m,h1,h2,h3⟩:=least (P:=fun k=>(path t.mask h k).j∉t.place.toList) (k:=k) (by rw[e];exact hn)
 exact⟨m,by omega,h2,fun k' hk'=>ZY fun z=>h3 k' hk' z⟩
theorem Tab.go(T:Tab n t hs){h:Int}{hashAt:Nat->Int}{N:Nat}(hN:(path t.mask h N).j∉t.place.toList)(hk:∀k,k<N->(path t.mask h k).j∈t.place.toList):∀(fuel m:Nat),m<=N->N-m<fuel->
  (∃e i,m<=e/\e<N/\t.place.toList[i]?=some (path t.mask h e).j/\hashAt i=h/\probe.go t hashAt h fuel (path t.mask h m)=some (.candidate (path t.mask h e).j i (path t.mask h (e+1)))/\∀e' i',m<=e'->e'<e->t.place.toList[i']?=some (path t.mask h e').j->hashAt i'≠h)\/
  (probe.go t hashAt h fuel (path t.mask h m)=some (.empty (path t.mask h N).j none)/\∀e' i',m<=e'->e'<N->t.place.toList[i']?=some (path t.mask h e').j->hashAt i'≠h)
 |0,m,_,hf=>absurd hf (WN _)
 |fuel+1,m,hm,hf=>by
  rw[probe.go]
  by_cases e:m=N
  ·subst e
   rw[T.empty hN]
   refine .inr ⟨by simp only[MR],fun e' i' h1 h2=>by omega⟩
  ·have hmN:m<N:=by omega
   obtain⟨i,hi⟩:=Zx.mp (hk m hmN)
   rw[T.live hi]
   by_cases hh:hashAt i=h
   ·refine .inl ⟨m,i,Zl _,hmN,hi,hh,?_,fun e' i' h1 h2=>by omega⟩
    simp only[hh,beq_self_eq_true,if_true]
    rfl
   ·have hb:(hashAt i==h)=false:=by simpa using hh
    simp only[hb]
    have ih:=Tab.go T (hashAt:=hashAt) hN hk fuel (m+1) hmN (by omega)
    have eadv:t.advance (path t.mask h m)=path t.mask h (m+1):=rfl
    have uniq:∀i',t.place.toList[i']?=some (path t.mask h m).j->i'=i:=fun i' h'=>by
     have h1:=U8 T.srt h'
     have h2:=U8 T.srt hi
     omega
    rcases ih with⟨e,i2,h1,h2,h3,h4,h5,h6⟩|⟨h1,h2⟩
    ·refine .inl ⟨e,i2,by omega,h2,h3,h4,by rw[<-h5,eadv];simp,fun e' i' q1 q2 q3=>?_⟩
     rcases Nat.eq_or_lt_of_le q1 with z|z
     ·subst z
      rw[uniq i' q3]
      exact hh
     ·exact h6 e' i' z q2 q3
    ·refine .inr ⟨by rw[<-h1,eadv];simp,fun e' i' q1 q2 q3=>?_⟩
     rcases Nat.eq_or_lt_of_le q1 with z|z
     ·subst z
      rw[uniq i' q3]
      exact hh
     ·exact h2 e' i' z q2 q3
end
theorem UH{α:Type}(xs:Array α)(p:Nat)(x:α):(insertAt xs p x).toList=xs.toList.take p++x::xs.toList.drop p:=by
 unfold insertAt
 simp[Array.toList_extract,Ya]
theorem mem_zip{α β:Type}{l:List α}{m:List β}{x:α×β}:x∈l.zip m↔∃i:Nat,l[i]?=some x.1/\m[i]?=some x.2:=by
 rw[Zx]
 constructor
 ·rintro⟨i,h⟩
  exact⟨i,WC.mp h⟩
 ·rintro⟨i,h⟩
  exact⟨i,WC.mpr h⟩
theorem N7{α:Type}{l:List α}{p i:Nat}{x:α}(h:(l.take p)[i]?=some x):l[i]?=some x:=by
 rw[List.getElem?_take]at h
 by_cases q:i<p
 ·rw[if_pos q]at h;exact h
 ·rw[if_neg q]at h;cases h
theorem Mv{α β:Type}{l:List α}{m:List β}(hl:l.length=m.length)(p:Nat)(a:α)(b:β){x:α×β}(h:x∈(l.take p++a::l.drop p).zip (m.take p++b::m.drop p)):x∈l.zip m\/x=(a,b):=by
 rw[List.zip_append (by rw[Yj,Yj,hl]),List.zip_cons_cons]at h
 rcases Zs.mp h with h|h
 ·refine .inl ?_
  obtain⟨i,h1,h2⟩:=mem_zip.mp h
  exact mem_zip.mpr ⟨i,N7 h1,N7 h2⟩
 ·rcases Zw.mp h with h|h
  ·exact .inr h
  ·refine .inl ?_
   obtain⟨i,h1,h2⟩:=mem_zip.mp h
   rw[XJ]at h1 h2
   exact mem_zip.mpr ⟨_,h1,h2⟩
theorem Tab.put{n:Nat}{t:SetTable}{hs:List Int}(T:Tab n t hs)(room:hs.length+1<=t.mask){h:Int}{N:Nat}(hN:(path t.mask h N).j∉t.place.toList)(hk:∀k,k<N->(path t.mask h k).j∈t.place.toList):
  Tab n (t.put (path t.mask h N).j).1 (hs.take (t.put (path t.mask h N).j).2++h::hs.drop (t.put (path t.mask h N).j).2):=by
 obtain⟨b1,b2,b3⟩:=Sd T.srt (path t.mask h N).j
 have edum:(t.put (path t.mask h N).j).1.dummies=#[]:=by
  unfold SetTable.put
  rw[T.dum]
  rfl
 have epl:(t.put (path t.mask h N).j).1.place.toList=t.place.toList.take (below t.place (path t.mask h N).j)++(path t.mask h N).j::t.place.toList.drop (below t.place (path t.mask h N).j):=UH _ _ _
 have emask:(t.put (path t.mask h N).j).1.mask=t.mask:=rfl
 have ep:(t.put (path t.mask h N).j).2=below t.place (path t.mask h N).j:=rfl
 have hlen:t.place.toList.length=hs.length:=by rw[ZT];exact T.len
 have hmem:∀j,j∈(t.put (path t.mask h N).j).1.place.toList↔j∈t.place.toList\/j=(path t.mask h N).j:=fun j=>by
  rw[epl]
  constructor
  ·intro z
   rcases Zs.mp z with z|z
   ·exact .inl (XX z)
   ·rcases Zw.mp z with z|z
    ·exact .inr z
    ·exact .inl (VF z)
  ·intro z
   rw[Zs,Zw]
   rcases z with z|z
   ·rw[<-List.take_append_drop (below t.place (path t.mask h N).j) t.place.toList]at z
    rcases Zs.mp z with z|z
    ·exact .inl z
    ·exact .inr (.inr z)
   ·exact .inr (.inl z)
 refine⟨T.mask,T.n3,edum,?_,?_,?_,?_,?_⟩
 ·rw[<-ZT,epl,ep,Zj,Zo,Zj,Zo,Yj,Yj,Z5,Z5,hlen]
 ·intro j hj
  rcases(hmem j).mp hj with z|z
  ·exact T.bnd j z
  ·rw[z];exact LD _ _ _
 ·rw[epl]
  have h1:(t.place.toList.take (below t.place (path t.mask h N).j)).Pairwise (· < ·):=List.Pairwise.sublist (List.take_sublist _ _) T.srt
  have h2:(t.place.toList.drop (below t.place (path t.mask h N).j)).Pairwise (· < ·):=List.Pairwise.sublist (List.drop_sublist _ _) T.srt
  have lt1:∀a∈t.place.toList.take (below t.place (path t.mask h N).j),a<(path t.mask h N).j:=fun a ha=>by
   obtain⟨i,hi⟩:=Zx.mp ha
   rw[List.getElem?_take]at hi
   by_cases q:i<below t.place (path t.mask h N).j
   ·rw[if_pos q]at hi
    exact b2 i a q hi
   ·rw[if_neg q]at hi;cases hi
  have lt2:∀a∈t.place.toList.drop (below t.place (path t.mask h N).j),(path t.mask h N).j<a:=fun a ha=>by
   obtain⟨i,hi⟩:=Zx.mp ha
   rw[XJ]at hi
   have:=b3 _ a (Y1 _ _) hi
   have hne:a≠(path t.mask h N).j:=fun z=>hN (z▸Zp hi)
   omega
  refine List.pairwise_append.mpr ⟨h1,List.pairwise_cons.mpr ⟨lt2,h2⟩,fun a ha b hb=>?_⟩
  rcases Zw.mp hb with z|z
  ·rw[z];exact lt1 a ha
  ·exact Wa (lt1 a ha) (lt2 b z)
 ·rw[emask,Zj,Zo,Yj,Z5]
  omega
 ·intro j h' hz
  rw[epl,ep]at hz
  rcases Mv hlen _ _ _ hz with z|z
  ·obtain⟨k,h1,h2⟩:=T.reach j h' z
   exact⟨k,h1,fun k' hk'=>(hmem _).mpr (.inl (h2 k' hk'))⟩
  ·have:j=(path t.mask h N).j/\h'=h:=by
    have:=Prod.mk.inj z
    exact this
   obtain⟨rfl,rfl⟩:=this
   exact⟨N,rfl,fun k' hk'=>(hmem _).mpr (.inl (hk k' hk'))⟩
end Ta
end
section
namespace Ta
open PySem SetTable
theorem Sh{n:Nat}:∀(fuel k:Nat),n<2^(k+fuel)->∃m,k<=m/\sizeAbove.go n fuel (2^k)=2^m/\n<2^m/\(m=k\/2^m<=2*n)
 |0,k,h=>⟨k,Zl _,rfl,h,.inl rfl⟩
 |fuel+1,k,h=>by
  rw[sizeAbove.go]
  by_cases c:2^k<=n
  ·rw[if_pos c,<-XE]
   obtain⟨m,h1,h2,h3,h4⟩:=Sh fuel (k+1) (by rw[show k+1+fuel=k+(fuel+1) by omega];exact h)
   refine⟨m,by omega,h2,h3,.inr ?_⟩
   rcases h4 with rfl|h4
   ·rw[XE];omega
   ·exact h4
  ·rw[if_neg c]
   exact⟨k,Zl _,rfl,by omega,.inl rfl⟩
theorem UQ{n:Nat}(hn:n<=100000):∃m,3<=m/\sizeAbove n=2^m/\n<2^m/\2^m<=8+2*n:=by
 obtain⟨m,h1,h2,h3,h4⟩:=Sh (n:=n) 64 3 (Z3 hn (by decide))
 refine⟨m,h1,h2,h3,?_⟩
 rcases h4 with rfl|h4
 ·exact Zi (by decide:2^3<=8) (Y1 _ _)
 ·omega
noncomputable def ow(owner:Array (Option Nat))(j:Nat):Option Nat:=owner.getD j none
structure Own(mask:Nat)(hs:List Int)(owner:Array (Option Nat))(k:Nat):Prop where
 size:owner.size=mask+1
 lt:∀j i,ow owner j=some i->i<k/\j<=mask
 inj:∀j j' i,ow owner j=some i->ow owner j'=some i->j=j'
 all:∀i,i<k->∃j,ow owner j=some i
 reach:∀j i h,ow owner j=some i->hs[i]?=some h->∃e,(path mask h e).j=j/\∀e',e'<e->ow owner (path mask h e').j≠none
theorem ow_set{owner:Array (Option Nat)}{j k:Nat}(hj:j<owner.size)(j':Nat):ow (owner.setIfInBounds j (some k)) j'=if j'=j then some k else ow owner j':=by
 unfold ow
 by_cases e:j'=j
 ·subst e
  rw[if_pos rfl]
  simp[V4,hj]
 ·rw[if_neg e]
  simp[V4,Array.getElem?_setIfInBounds,Yq e]
theorem OB{mask:Nat}{owner:Array (Option Nat)}(hsz:owner.size=mask+1)(h:Int):∀(fuel b:Nat),(∃b',b<=b'/\b'<b+fuel/\ow owner (blk mask h b').1=none)->
  ∃j e,layClean.free mask owner fuel (blk mask h b).1 (blk mask h b).2=some j/\off mask h b<=e/\(path mask h e).j=j/\ow owner j=none/\∀e',off mask h b<=e'->e'<e->ow owner (path mask h e').j≠none
 |0,b,hex=>by
  obtain⟨b',h1,h2,_⟩:=hex
  omega
 |fuel+1,b,hex=>by
  rw[layClean.free]
  have hb:=Np mask h b
  have hre:=Ry hb
  have hri:=(S5 mask (blk mask h b).1).1
  have eget:∀k,k<runEnd mask (blk mask h b).1+1-(blk mask h b).1->owner.getD ((blk mask h b).1+k) (some 0)=ow owner ((blk mask h b).1+k):=fun k hk=>by
   unfold ow
   have:(blk mask h b).1+k<owner.size:=by omega
   simp[Array.getD,this]
  have epath:∀k,k<runEnd mask (blk mask h b).1+1-(blk mask h b).1->(path mask h (off mask h b+k)).j=(blk mask h b).1+k:=fun k hk=>by
   rw[Sn mask h b k (by omega)]
  cases hf:(List.range (runEnd mask (blk mask h b).1+1-(blk mask h b).1)).find? fun k=>(owner.getD ((blk mask h b).1+k) (some 0)).isNone with
  |some k=>
   simp only
   obtain⟨h1,h2⟩:=List.find?_range_eq_some.mp hf
   have hk:=Ye.mp h2.1
   rw[eget k hk]at h1
   refine⟨(blk mask h b).1+k,off mask h b+k,rfl,Y1 _ _,epath k hk,Option.isNone_iff_eq_none.mp h1,fun e' q1 q2=>?_⟩
   obtain⟨k',rfl⟩:∃k',e'=off mask h b+k':=⟨e'-off mask h b,by omega⟩
   have hk':k'<k:=by omega
   rw[epath k' (by omega)]
   have:=h2.2 k' hk'
   rw[eget k' (by omega)]at this
   intro z
   rw[z]at this
   simp at this
  |none=>
   simp only
   have hall:∀k,k<runEnd mask (blk mask h b).1+1-(blk mask h b).1->ow owner ((blk mask h b).1+k)≠none:=fun k hk z=>by
    have:=List.find?_eq_none.mp hf k (Ye.mpr hk)
    rw[eget k hk,z]at this
    simp at this
   obtain⟨j,e,g1,g2,g3,g4,g5⟩:=OB hsz h fuel (b+1) (by
    obtain⟨b',h1,h2,h3⟩:=hex
    refine⟨b',?_,by omega,h3⟩
    rcases Nat.eq_or_lt_of_le h1 with z|z
    ·subst z
     exact absurd h3 (hall 0 (by omega))
    ·exact z)
   refine⟨j,e,g1,by rw[off]at g2;omega,g3,g4,fun e' q1 q2=>?_⟩
   by_cases q:off mask h (b+1)<=e'
   ·exact g5 e' q q2
   ·rw[off]at q
    obtain⟨k',rfl⟩:∃k',e'=off mask h b+k':=⟨e'-off mask h b,by omega⟩
    rw[epath k' (by omega)]
    exact hall k' (by omega)
theorem own_step{n mask:Nat}(hm:mask+1=2^n){hs:List Int}{owner:Array (Option Nat)}{k:Nat}{h:Int}(O:Own mask hs owner k)(hk:k<=mask)(hh:hs[k]?=some h):
  ∃j,layClean.free mask owner (turns mask) (bits h%(mask+1)) (bits h)=some j/\Own mask hs (owner.setIfInBounds j (some k)) (k+1):=by
 have hgap:∃s,s<=mask/\ow owner s=none:=by
  refine ZY fun hno=>?_
  have hall:∀s,s<=mask->∃i,ow owner s=some i:=fun s hs=>by
   cases e:ow owner s with
   |none=>exact(hno ⟨s,hs,e⟩).elim
   |some i=>exact⟨i,rfl⟩
  have h1:((List.range (mask+1)).map fun s=>(ow owner s).getD 0).length<=(List.range k).length:=nodup_len ?_ fun x hx=>?_
  ·rw[Za,YF,YF]at h1
   omega
  ·have key:∀m,m<=mask+1->((List.range m).map fun s=>(ow owner s).getD 0).Nodup:=fun m=>by
    induction m with
    |zero=>intro _;exact Wv
    |succ m ih=>
     intro hm'
     rw[YC,ZJ]
     refine Va.mpr ⟨ih (by omega),by simp,fun a ha b hb e=>?_⟩
     obtain⟨s,hs',rfl⟩:=ZS.mp ha
     have hb':b=(ow owner m).getD 0:=by simpa using hb
     subst hb'
     have hsm:=Ye.mp hs'
     obtain⟨i1,e1⟩:=hall s (by omega)
     obtain⟨i2,e2⟩:=hall m (by omega)
     rw[e1,e2]at e
     have e:i1=i2:=e
     subst e
     have:=O.inj s m i1 e1 e2
     omega
   exact key _ (Zl _)
  ·obtain⟨s,hs',rfl⟩:=ZS.mp hx
   obtain⟨i,e⟩:=hall s (by have:=Ye.mp hs';omega)
   rw[e]
   exact Ye.mpr (O.lt s i e).1
 obtain⟨s,hs1,hs2⟩:=hgap
 obtain⟨b,hb,hbs⟩:=Mq hm h hs1
 obtain⟨j,e,g1,g2,g3,g4,g5⟩:=OB O.size h (turns mask) 0 ⟨b,ZG _,by omega,by rw[hbs];exact hs2⟩
 have hj:j<=mask:=by rw[<-g3];exact LD _ _ _
 have hjs:j<owner.size:=by rw[O.size];omega
 have hset:=ow_set (owner:=owner) (k:=k) hjs
 refine⟨j,g1,⟨by simp[O.size],fun j' i h'=>?_,fun j1 j2 i h1 h2=>?_,fun i hi=>?_,fun j' i h' q1 q2=>?_⟩⟩
 ·rw[hset]at h'
  by_cases z:j'=j
  ·rw[if_pos z]at h'
   cases h'
   exact⟨by omega,by omega⟩
  ·rw[if_neg z]at h'
   have:=O.lt j' i h'
   exact⟨by omega,this.2⟩
 ·rw[hset]at h1 h2
  by_cases z1:j1=j
  ·by_cases z2:j2=j
   ·rw[z1,z2]
   ·rw[if_pos z1]at h1
    rw[if_neg z2]at h2
    cases h1
    have:=(O.lt j2 k h2).1
    omega
  ·by_cases z2:j2=j
   ·rw[if_neg z1]at h1
    rw[if_pos z2]at h2
    cases h2
    have:=(O.lt j1 k h1).1
    omega
   ·rw[if_neg z1]at h1
    rw[if_neg z2]at h2
    exact O.inj j1 j2 i h1 h2
 ·by_cases z:i=k
  ·exact⟨j,by rw[hset,if_pos rfl,z]⟩
  ·obtain⟨j',h'⟩:=O.all i (by omega)
   refine⟨j',?_⟩
   rw[hset,if_neg]
   ·exact h'
   ·intro z
    rw[z,g4]at h'
    cases h'
 ·have mono:∀x,ow owner x≠none->ow (owner.setIfInBounds j (some k)) x≠none:=fun x hx=>by
   rw[hset]
   by_cases z:x=j
   ·rw[if_pos z];simp
   ·rw[if_neg z];exact hx
  rw[hset]at q1
  by_cases z:j'=j
  ·rw[if_pos z]at q1
   cases q1
   rw[hh]at q2
   cases q2
   exact⟨e,by rw[g3,z],fun e' he'=>mono _ (g5 e' (ZG _) he')⟩
  ·rw[if_neg z]at q1
   obtain⟨e2,a1,a2⟩:=O.reach j' i h' q1 q2
   exact⟨e2,a1,fun e' he'=>mono _ (a2 e' he')⟩
theorem NU{n mask:Nat}(hm:mask+1=2^n){hs:List Int}(hl:hs.length<=mask):∀(rest:List Int)(owner:Array (Option Nat))(k:Nat),hs.drop k=rest->Own mask hs owner k->
  ∃owner',rest.foldl (fun acc h=>do
   let(owner,k)<-acc
   let j<-layClean.free mask owner (turns mask) (bits h%(mask+1)) (bits h)
   pure (owner.setIfInBounds j (some k),k+1)) (some (owner,k))=some (owner',k+rest.length)/\Own mask hs owner' (k+rest.length)
 |[],owner,k,_,O=>⟨owner,rfl,O⟩
 |h::rest,owner,k,e,O=>by
  have hk:k<hs.length:=by
   rcases Nat.lt_or_ge k hs.length with z|z
   ·exact z
   ·rw[Vd z]at e;cases e
  have e2:=List.drop_eq_getElem_cons hk
  rw[e]at e2
  injection e2 with e3 e4
  have hh:hs[k]?=some h:=by rw[Zu hk,e3]
  obtain⟨j,g1,O'⟩:=own_step hm O (by omega) hh
  obtain⟨owner',g2,g3⟩:=NU hm hl rest _ (k+1) e4.symm O'
  refine⟨owner',?_,?_⟩
  ·rw[Y7,Zo,show k+(rest.length+1)=k+1+rest.length by omega,<-g2]
   congr 1
   show(some (owner,k) >>= fun x=>_)=_
   simp only[Option.bind_eq_bind,Option.bind_some,g1]
   rfl
  ·rw[Zo,show k+(rest.length+1)=k+1+rest.length by omega]
   exact g3
theorem Pf{n mask:Nat}(hm:mask+1=2^n){hashes:Array Int}(hl:hashes.size<=mask):∃owner,layClean mask hashes=some owner/\Own mask hashes.toList owner hashes.size:=by
 have O0:Own mask hashes.toList (Array.replicate (mask+1) none) 0:=by
  have e:∀j,ow (Array.replicate (mask+1) none) j=none:=fun j=>by
   unfold ow
   by_cases q:j<mask+1
   ·simp[Array.getD,q]
   ·simp[Array.getD,q]
  exact⟨by simp,fun j i h=>(by rw[e]at h;cases h),fun j j' i h=>(by rw[e]at h;cases h),fun i h=>absurd h (WN _),fun j i h q=>(by rw[e]at q;cases q)⟩
 obtain⟨owner,g1,g2⟩:=NU hm (hs:=hashes.toList) (by simpa using hl) hashes.toList _ 0 (List.drop_zero) O0
 rw[Nat.zero_add,ZT]at g1 g2
 refine⟨owner,?_,g2⟩
 unfold layClean
 rw[<-Array.foldl_toList,g1]
 rfl
noncomputable def WL(mask:Nat)(owner:Array (Option Nat)):List (Nat×Nat):=(List.range (mask+1)).filterMap fun j=>(owner.getD j none).map (j,·)
theorem Wq{mask:Nat}{hs:List Int}{owner:Array (Option Nat)}{k:Nat}(O:Own mask hs owner k){j i:Nat}:(j,i)∈WL mask owner↔ow owner j=some i:=by
 unfold WL
 rw[List.mem_filterMap]
 constructor
 ·rintro⟨j',hj',e⟩
  obtain⟨i',h1,h2⟩:=XC.mp e
  injection h2 with h2 h3
  subst h2 h3
  exact h1
 ·intro h
  refine⟨j,Ye.mpr (by have:=(O.lt j i h).2;omega),?_⟩
  show(ow owner j).map _=_
  rw[h]
  rfl
theorem Ou(mask:Nat)(owner:Array (Option Nat)):((WL mask owner).map (·.1)).Pairwise (· < ·):=by
 unfold WL
 have key:∀m,((((List.range m).filterMap fun j=>(owner.getD j none).map fun x=>(j,x)).map (·.1)).Pairwise (· < ·))/\∀x∈((List.range m).filterMap fun j=>(owner.getD j none).map fun x=>(j,x)).map (·.1),x<m:=fun m=>by
  induction m with
  |zero=>exact⟨List.Pairwise.nil,fun x h=>(by simp at h)⟩
  |succ m ih=>
   rw[YC,List.filterMap_append,ZJ]
   have e:([m].filterMap fun j=>(owner.getD j none).map fun x=>(j,x)).map (·.1)=[]\/([m].filterMap fun j=>(owner.getD j none).map fun x=>(j,x)).map (·.1)=[m]:=by
    cases q:owner.getD m none with
    |none=>
     left
     rw[List.filterMap_cons_none (by rw[q];rfl),List.filterMap_nil]
     rfl
    |some i=>
     right
     rw[List.filterMap_cons_some (b:=(m,i)) (by rw[q];rfl),List.filterMap_nil]
     rfl
   rcases e with e|e
   ·rw[e,Y6]
    exact⟨ih.1,fun x hx=>Vm (ih.2 x hx)⟩
   ·rw[e]
    refine⟨List.pairwise_append.mpr ⟨ih.1,List.pairwise_singleton _ _,fun a ha b hb=>?_⟩,fun x hx=>?_⟩
    ·have:b=m:=by simpa using hb
     rw[this]
     exact ih.2 a ha
    ·rcases Zs.mp hx with hx|hx
     ·exact Vm (ih.2 x hx)
     ·have:x=m:=by simpa using hx
      omega
 exact(key (mask+1)).1
theorem NT{l:List (Nat×Nat)}(h:(l.map (·.1)).Pairwise (· < ·))(hi:∀j j' i,(j,i)∈l->(j',i)∈l->j=j'):(l.map (·.2)).Nodup:=by
 induction l with
 |nil=>exact Wv
 |cons x r ih=>
  rw[ZB,List.pairwise_cons]at h
  rw[ZB,YB]
  refine⟨fun z=>?_,ih h.2 fun j j' i h1 h2=>hi j j' i (Ze _ h1) (Ze _ h2)⟩
  obtain⟨y,hy,e⟩:=ZS.mp z
  have h1:=h.1 y.1 (ZS.mpr ⟨y,hy,rfl⟩)
  have h2:=hi x.1 y.1 x.2 Zm (by rw[<-e];exact Ze _ hy)
  omega
theorem KB{mask:Nat}{hs:List Int}{owner:Array (Option Nat)}{k:Nat}(O:Own mask hs owner k):(WL mask owner).length=k:=by
 have hnd:=NT (Ou mask owner) fun j j' i h1 h2=>O.inj j j' i ((Wq O).mp h1) ((Wq O).mp h2)
 have h1:((WL mask owner).map (·.2)).length<=(List.range k).length:=nodup_len hnd fun x hx=>by
  obtain⟨y,hy,rfl⟩:=ZS.mp hx
  exact Ye.mpr (O.lt y.1 y.2 ((Wq O).mp hy)).1
 have h2:(List.range k).length<=((WL mask owner).map (·.2)).length:=nodup_len List.nodup_range fun x hx=>by
  obtain⟨j,hj⟩:=O.all x (Ye.mp hx)
  exact ZS.mpr ⟨(j,x),(Wq O).mpr hj,rfl⟩
 rw[Za,YF]at h1 h2
 omega
theorem TR{α β:Type}{f:α->Option β}:∀{l:List α},(∀x∈l,(f x).isSome=true)->(l.filterMap f).length=l.length/\∀(i:Nat) x,l[i]?=some x->(l.filterMap f)[i]?=f x
 |[],_=>⟨rfl,fun i x h=>by simp at h⟩
 |a::l,h=>by
  obtain⟨ih1,ih2⟩:=TR (f:=f) (l:=l) fun x hx=>h x (Ze _ hx)
  obtain⟨b,hb⟩:=Option.isSome_iff_exists.mp (h a Zm)
  rw[List.filterMap_cons_some hb]
  refine⟨by rw[Zo,Zo,ih1],fun i x hx=>?_⟩
  cases i with
  |zero=>
   have:a=x:=by simpa using hx
   subst this
   rw[hb]
   rfl
  |succ i=>
   have:l[i]?=some x:=by simpa using hx
   rw[List.getElem?_cons_succ]
   exact ih2 i x this
theorem NN{α:Type}{t:SetTable}{es:Array (Int×α)}{wanted:Nat}(h1:4*es.size<=wanted)(h2:wanted<=100000)(h0:1<=es.size):
  ∃n t' order,t.relaid (es.map (·.1)) wanted=some (t',order)/\Tab n t' ((order.filterMap (es[·]?)).toList.map (·.1))/\(order.filterMap (es[·]?)).size=es.size/\(∀e,e∈(order.filterMap (es[·]?)).toList↔e∈es.toList)/\t'.led=t.led/\t'.plain=t.plain/\t'.mask<=8+2*wanted/\4*es.size<=t'.mask:=by
 obtain⟨n,hn3,hsz,hlt,hle⟩:=UQ h2
 have hm:sizeAbove wanted-1+1=2^n:=by omega
 obtain⟨owner,g1,O⟩:=Pf hm (hashes:=es.map (·.1)) (by rw[Array.size_map];omega)
 rw[Array.size_map]at O
 have hlen:=KB O
 have hll:∀x∈(WL (sizeAbove wanted-1) owner).map (·.2),(es[x]?).isSome=true:=fun x hx=>by
  obtain⟨y,hy,rfl⟩:=ZS.mp hx
  have:=(O.lt y.1 y.2 ((Wq O).mp hy)).1
  simp[this]
 obtain⟨f1,f2⟩:=TR (f:=fun x:Nat=>es[x]?) hll
 have efm:(((WL (sizeAbove wanted-1) owner).map (·.2)).toArray.filterMap (es[·]?)).toList=((WL (sizeAbove wanted-1) owner).map (·.2)).filterMap fun x:Nat=>es[x]? :=by simp
 have hget:∀(i:Nat) y,(WL (sizeAbove wanted-1) owner)[i]?=some y->(((WL (sizeAbove wanted-1) owner).map (·.2)).filterMap fun x:Nat=>es[x]?)[i]?=es[y.2]? :=fun i y hy=>f2 i y.2 (by rw[ZA,hy];rfl)
 refine⟨n,{mask:=sizeAbove wanted-1,place:=((WL (sizeAbove wanted-1) owner).map (·.1)).toArray,dummies:=#[],finger:=t.finger,led:=t.led,moves:=t.movedTo (sizeAbove wanted-1),plain:=t.plain},((WL (sizeAbove wanted-1) owner).map (·.2)).toArray,by unfold SetTable.relaid SetTable.laid;rw[g1];rfl,⟨hm,hn3,rfl,?_,?_,?_,?_,?_⟩,?_,?_,rfl,rfl,?_,?_⟩
 ·rw[Za,efm,f1,Za]
  show((WL (sizeAbove wanted-1) owner).map (·.1)).toArray.size=_
  simp
 ·intro j hj
  have hj:j∈(WL (sizeAbove wanted-1) owner).map (·.1):=hj
  obtain⟨y,hy,rfl⟩:=ZS.mp hj
  exact(O.lt y.1 y.2 ((Wq O).mp hy)).2
 ·exact Ou _ owner
 ·rw[Za,efm,f1,Za,hlen]
  show es.size<=sizeAbove wanted-1
  omega
 ·intro j h hz
  obtain⟨i,z1,z2⟩:=mem_zip.mp hz
  have z1:((WL (sizeAbove wanted-1) owner).map (·.1))[i]?=some j:=z1
  rw[ZA]at z1
  obtain⟨y,hy,e1⟩:=XC.mp z1
  rw[efm,ZA,hget i y hy]at z2
  obtain⟨x,hx,e2⟩:=XC.mp z2
  have hyo:=(Wq O).mp (Zp hy)
  have hh:(es.map (·.1)).toList[y.2]?=some h:=by
   simp only at e2
   rw[Array.toList_map,ZA,Y2,hx,<-e2]
   rfl
  obtain⟨e,a1,a2⟩:=O.reach y.1 y.2 h hyo hh
  refine⟨e,by rw[<-e1];exact a1,fun e' he'=>?_⟩
  have a3:=a2 e' he'
  obtain⟨i',hi'⟩:=Option.ne_none_iff_exists'.mp a3
  show _∈(WL (sizeAbove wanted-1) owner).map (·.1)
  exact ZS.mpr ⟨(_,i'),(Wq O).mpr hi',rfl⟩
 ·show(((WL (sizeAbove wanted-1) owner).map (·.2)).toArray.filterMap (es[·]?)).size=es.size
  rw[<-ZT,efm,f1,Za,hlen]
 ·intro x
  show x∈(((WL (sizeAbove wanted-1) owner).map (·.2)).toArray.filterMap (es[·]?)).toList↔_
  rw[efm,List.mem_filterMap]
  constructor
  ·rintro⟨i,_,h⟩
   rw[<-Y2]at h
   exact Zp h
  ·intro h
   obtain⟨i,hi⟩:=Zx.mp h
   have hil:i<es.size:=by have:=(Zd.mp hi).1;simpa using this
   obtain⟨j,hj⟩:=O.all i hil
   exact⟨i,ZS.mpr ⟨(j,i),(Wq O).mpr hj,rfl⟩,by rw[<-Y2];exact hi⟩
 ·show sizeAbove wanted-1<=_
  omega
 ·show 4*es.size<=sizeAbove wanted-1
  omega
end Ta
end
section
namespace Ta
open PySem SetTable L2
section
variable{prog:Program}{w:World}{A:Around}{E:Value->Shared->Prop}{s:Shared}
noncomputable abbrev TK(prog:Program)(w:World):=tupleKind (YJ prog w)
noncomputable def AllI(k:List Key):Prop:=∀x∈k,∃i:Int,x=.inl i
theorem items_int{k:List Key}{vs:List Value}(hk:AllI k)(h:ItemsAre (YJ prog w) k vs):∀v∈vs,∃i t,v=Value.int i t:=by
 induction h with
 |nil=>intro v hv;cases hv
 |cons h1 _ ih=>
  intro v hv
  rcases Zw.mp hv with rfl|hv
  ·obtain⟨i,rfl⟩:=hk _ Zm
   rcases XB (show QJ (Sum.inl i) _=true from h1)with⟨j,t,e,e2⟩|⟨x,t,e,e2⟩
   ·exact⟨j,t,e2⟩
   ·cases e
  ·exact ih (fun x hx=>hk x (Ze _ hx)) v hv
theorem Qz{k:List Key}{b:Addr}{Q:Bool->Shared->Prop}(hk:AllI k)(h:(TK prog w).is s.heap k b)(q:Q false s):wpAny (model prog w) A (ofAClassStatement 8 (.ref b)) Q E s:=by
 have hT:=IsTupleKey.typeIs h
 obtain⟨o,items,n,ho,_,hd,hi⟩:=h
 unfold ofAClassStatement
 refine Zc (wpAny_typeOf hT ?_)
 simp only[beq_self_eq_true,if_true]
 refine Zc (Zq ?_)
 simp only[VC,ZR,if_false]
 refine Zc (wpAny_seqItems ho hd ?_)
 simp only
 refine Zc ?_
 show wpAny _ _ (forIn items _ _) _ _ s
 rw[<-Array.forIn_toList]
 refine wpAny_forIn_list _ (fun rest r s'=>r=(none,())/\s'=s/\∀v∈rest,∃i t,v=Value.int i t) _ ?_ ?_ _ _ ⟨rfl,rfl,items_int hk hi⟩
 ·rintro v rest r s' ⟨rfl,rfl,hall⟩
  obtain⟨i,t,rfl⟩:=hall v Zm
  unfold ofAClassStatement
  refine Zc (Zq ?_)
  simp only[ZR,if_false]
  exact Zq ⟨rfl,rfl,fun u hu'=>hall u (Ze _ hu')⟩
 ·rintro r s' ⟨rfl,rfl,_⟩
  exact Zq q
theorem Ll{k:List Key}{b:Addr}{Q:Bool->Shared->Prop}(hk:AllI k)(h:(TK prog w).is s.heap k b)(q:Q true s):wpAny (model prog w) A (hashByValue 8 (.ref b)) Q E s:=by
 have hT:=IsTupleKey.typeIs h
 obtain⟨o,items,n,ho,_,hd,hi⟩:=h
 unfold hashByValue
 refine Zc (wpAny_specialOf hT F.slot_tuple_hash.lookup ?_)
 simp only
 refine Zc (wpAny_seqItems ho hd ?_)
 simp only[Option.getD_some]
 refine Zc ?_
 show wpAny _ _ (forIn items _ _) _ _ s
 rw[<-Array.forIn_toList]
 refine wpAny_forIn_list _ (fun rest r s'=>r=(none,())/\s'=s/\∀v∈rest,∃i t,v=Value.int i t) _ ?_ ?_ _ _ ⟨rfl,rfl,items_int hk hi⟩
 ·rintro v rest r s' ⟨rfl,rfl,hall⟩
  obtain⟨i,t,rfl⟩:=hall v Zm
  unfold hashByValue
  refine Zc (Zq ?_)
  simp only[VC,ZR,if_false]
  exact Zq ⟨rfl,rfl,fun u hu'=>hall u (Ze _ hu')⟩
 ·rintro r s' ⟨rfl,rfl,_⟩
  exact Zq q
noncomputable def Els(prog:Program)(w:World)(h:Heap)(es:List (Int×Value)):Prop:=∀e∈es,∃k b,e=((TK prog w).hash k,.ref b)/\AllI k/\(TK prog w).is h k b
theorem seen_wp{k:List Key}{b:Addr}{stored:List Value}{Q:Bool->Shared->Prop}(hk:AllI k)(h:(TK prog w).is s.heap k b)(hst:∀v∈stored,∃k' b',v=Value.ref b'/\AllI k'/\(TK prog w).is s.heap k' b')(q:Q false s):
  wpAny (model prog w) A (searchCouldBeSeen (.ref b) stored) Q E s:=by
 unfold searchCouldBeSeen
 refine Zc ?_
 refine wpAny_forIn_list _ (fun rest r s'=>r=(none,())/\s'=s/\∀v∈rest,∃k' b',v=Value.ref b'/\AllI k'/\(TK prog w).is s.heap k' b') _ ?_ ?_ _ _ ⟨rfl,rfl,hst⟩
 ·rintro v rest r s' ⟨rfl,rfl,hall⟩
  obtain⟨k',b',rfl,hk',hb'⟩:=hall v Zm
  have nxt:∀u∈rest,∃k' b',u=Value.ref b'/\AllI k'/\(TK prog w).is s'.heap k' b':=fun u hu=>hall u (Ze _ hu)
  dsimp only
  split
  ·exact Zq ⟨rfl,rfl,nxt⟩
  ·refine Zc ((TK prog w).quiet h ?_)
   simp only[VC,ZR,if_false]
   refine Zc ((TK prog w).quiet hb' ?_)
   simp only[VC,ZR,if_false]
   refine Zc (Qz hk h ?_)
   simp only[ZR,if_false]
   refine Zc (Qz hk' hb' ?_)
   simp only[ZR,if_false]
   exact Zq ⟨rfl,rfl,nxt⟩
 ·rintro r s' ⟨rfl,rfl,_⟩
  exact Zq q
theorem SH{a b:Addr}{o:Obj}{es:Array (Int×Value)}{ep:Nat}{t:SetTable}{n N:Nat}{k:List Key}{adding:Bool}(hu:A.units+8<cLine)(ho:s.heap.get? a=some o)(hd:o.data=.set es ep t)(T:Tab n t (es.toList.map (·.1)))(hel:Els prog w s.heap es.toList)(hk:AllI k)(hkey:(TK prog w).is s.heap k b)
  (hN:(path t.mask ((TK prog w).hash k) N).j∉t.place.toList) (hkN:∀e,e<N->(path t.mask ((TK prog w).hash k) e).j∈t.place.toList) (hNl:N<10*turns t.mask):
  ∀(fuel m:Nat)(stand:Option Probe)(Q:SetFound->Shared->Prop),m<=N->N-m<fuel->stand.getD (t.probeStart ((TK prog w).hash k))=path t.mask ((TK prog w).hash k) m->
   (∀(i:Nat)(b':Addr),es.toList[i]?=some ((TK prog w).hash k,Value.ref b')->(TK prog w).is s.heap k b'->Q (.there (if adding=true then none else some i)) s)->
   ((∀(e i:Nat)(b':Addr),m<=e->e<N->t.place.toList[i]?=some (path t.mask ((TK prog w).hash k) e).j->es.toList[i]?=some ((TK prog w).hash k,Value.ref b')->¬(TK prog w).is s.heap k b')->Q (.free (path t.mask ((TK prog w).hash k) N).j false) s)->
   wpAny (model prog w) A (setSearchFrom a (.ref b) ((TK prog w).hash k) adding fuel stand) Q E s
 |0,m,stand,Q,_,hf,_,_,_=>absurd hf (WN _)
 |fuel+1,m,stand,Q,hm,hf,hst,hfound,hfree=>by
  have hfit:=T.fits (m:=es.size) (by simp)
  unfold setSearchFrom
  refine Zc (Y8 ho hd hfit ?_)
  simp only[T.odd,ZR,if_false]
  generalize hp:SetTable.probe t _ ((TK prog w).hash k) (stand.getD _)=pr
  rw[hst]at hp
  have hp':SetTable.probe.go t (fun i=>(es[i]?.map (·.1)).getD 0) ((TK prog w).hash k) (10*turns t.mask) (path t.mask ((TK prog w).hash k) m)=pr:=hp
  rcases T.go (hashAt:=fun i=>(es[i]?.map (·.1)).getD 0) hN hkN (10*turns t.mask) m hm (by omega)with⟨e,i,h1,h2,h3,h4,h5,h6⟩|⟨h1,h2⟩
  ·rw[h5]at hp'
   subst hp'
   simp only
   have hil:i<t.place.toList.length:=(Zd.mp h3).1
   rw[ZT,T.len,Za,ZT]at hil
   obtain⟨x,hx⟩:∃x,es.toList[i]?=some x:=⟨_,Zu (by simpa using hil)⟩
   have hx':es[i]?=some x:=by rw[<-Y2];exact hx
   obtain⟨k',b',rfl,hk',hb'⟩:=hel x (Zp hx)
   simp only[hx',Option.map_some,Option.getD_some]at h4
   have body:wpAny (model prog w) A (do
     let some (_,y):=es[i]?|unsupported "internal:set-entry"
     let equal<-holding [y] (eqBool y (.ref b))
     let(es',_,t')<-setState a
     if adding&&equal then return .there none
     let some same:=t'.sameMemory t.moves t.mask|unsupported "set.changed-during-lookup:is-the-new-block-at-the-old-address"
     let still<-match(if same then t'.slot (path t.mask ((TK prog w).hash k) e).j else .empty)with
      | .live i'=>match es'[i']? with
       |some (_,y')=>do pure (if<-isSame y' y then some i' else none)
       |none=>pure none
      |_=>pure none
     match still with
     |none=>rule "set.search.anew";setSearchFrom a (.ref b) ((TK prog w).hash k) adding fuel none
     |some i'=>if equal then return .there (some i')else setSearchFrom a (.ref b) ((TK prog w).hash k) adding fuel (some (path t.mask ((TK prog w).hash k) (e+1)))) Q E s:=by
    rw[hx']
    simp only
    refine Zc (YV ((TK prog w).eqBool (show A.units<cLine by omega) hb' hkey ?_))
    refine Zc (Y8 ho hd hfit ?_)
    simp only
    by_cases hkk:k'=k
    ·subst hkk
     rw[decide_eq_true rfl]
     have hq:=hfound i b' hx hb'
     cases adding with
     |true=>
      simp only[Bool.and_self,if_true]
      exact Zq hq
     |false=>
      simp only[Bool.false_and,ZR,if_false,SetTable.sameMemory,beq_self_eq_true,if_true,T.live h3,hx']
      refine Zc (wpAny_isSame_ref_self (Zc (Zq ?_)))
      simp only[if_true]
      exact Zq hq
    ·rw[decide_eq_false hkk]
     simp only[X4,ZR,if_false,SetTable.sameMemory,beq_self_eq_true,if_true,T.live h3,hx']
     refine Zc (wpAny_isSame_ref_self (Zc (Zq ?_)))
     simp only[if_true]
     refine SH hu ho hd T hel hk hkey hN hkN hNl fuel (e+1) (some (path t.mask ((TK prog w).hash k) (e+1))) Q (by omega) (by omega) rfl hfound (fun hno=>hfree fun e' i' b'' q1 q2 q3 q4 q5=>?_)
     by_cases z:e+1<=e'
     ·exact hno e' i' b'' z q2 q3 q4 q5
     ·by_cases z2:e'=e
      ·subst z2
       have z3:i'=i:=by
        have a1:=U8 T.srt q3
        have a2:=U8 T.srt h3
        omega
       subst z3
       rw[hx]at q4
       injection q4 with q4
       injection q4 with _ q4
       injection q4 with q4
       subst q4
       exact hkk ((TK prog w).inj hb' q5)
      ·refine h6 e' i' q1 (by omega) q3 ?_
       have:es[i']?=some ((TK prog w).hash k,Value.ref b''):=by rw[<-Y2];exact q4
       simp only[this,Option.map_some,Option.getD_some]
   by_cases hled:t.led=true
   ·simp only[hled,VC,ZR,if_false]
    exact body
   ·have hled:t.led=false:=by simpa using hled
    simp only[hled,Bool.not_false,if_true]
    refine Zc (seen_wp hk hkey (fun v hv=>?_) ?_)
    ·obtain⟨x,hx,rfl⟩:=ZS.mp hv
     have hx2:x∈es.toList:=by
      have:=VB.mp hx
      exact VB.mpr (Array.mem_filter.mp this).1
     obtain⟨k2,b2,rfl,hk2,hb2⟩:=hel x hx2
     exact⟨k2,b2,rfl,hk2,hb2⟩
    ·simp only[ZR,if_false]
     exact body
  ·rw[h1]at hp'
   subst hp'
   simp only
   refine Zq (hfree fun e i b' q1 q2 q3 q4 q5=>?_)
   refine h2 e i q1 q2 q3 ?_
   have:es[i]?=some ((TK prog w).hash k,Value.ref b'):=by rw[<-Y2];exact q4
   simp only[this,Option.map_some,Option.getD_some]
end
end Ta
end
section
namespace Ta
open PySem SetTable L2
section
variable{prog:Program}{w:World}{A:Around}{E:Value->Shared->Prop}{s:Shared}
structure SetR(prog:Program)(w:World)(h:Heap)(es:Array (Int×Value))(t:SetTable)(S:List Key->Prop)(m:Nat):Prop where
 tab:∃n,Tab n t (es.toList.map (·.1))
 small:t.mask<=8191
 room:es.size*5<t.mask*3
 els:Els prog w h es.toList
 mem:∀k,S k↔∃b,((TK prog w).hash k,Value.ref b)∈es.toList/\(TK prog w).is h k b
 le:es.size<=m
 plain:t.plain=true
 led:t.led=!w.params.followText "set-order"
noncomputable def SetT(prog:Program)(w:World)(h:Heap)(a:Addr)(S:List Key->Prop)(m:Nat):Prop:=∃o es ep t,h.get? a=some o/\o.ExactSet/\o.data=.set es ep t/\SetR prog w h es t S m
theorem is_but{h h':Heap}{a b:Addr}{o:Obj}{k:List Key}(ho:h.get? a=some o)(hc:o.cls=.type "set")(hk:∀c oc,c≠a->h.get? c=some oc->h'.get? c=some oc)(hi:(TK prog w).is h k b):(TK prog w).is h' k b:=by
 obtain⟨ob,its,n,h1,h2,h3,h4⟩:=hi
 refine⟨ob,its,n,hk b ob (fun z=>?_) h1,h2,h3,h4⟩
 rw[z,ho]at h1
 cases h1
 have z2:=hc.symm.trans h2
 injection z2 with z2
 exact absurd z2 (by decide)
theorem SetR.keep{h h':Heap}{es:Array (Int×Value)}{t:SetTable}{S:List Key->Prop}{m:Nat}(R:SetR prog w h es t S m)(hk:∀k b,(TK prog w).is h k b->(TK prog w).is h' k b):SetR prog w h' es t S m:=by
 refine⟨R.tab,R.small,R.room,fun e he=>?_,fun k=>⟨fun z=>?_,fun z=>?_⟩,R.le,R.plain,R.led⟩
 ·obtain⟨k,b,e1,e2,e3⟩:=R.els e he
  exact⟨k,b,e1,e2,hk k b e3⟩
 ·obtain⟨b,h1,h2⟩:=(R.mem k).mp z
  exact⟨b,h1,hk k b h2⟩
 ·obtain⟨b,h1,h2⟩:=z
  obtain⟨k2,b2,e1,e2,e3⟩:=R.els _ h1
  injection e1 with _ e1
  injection e1 with e1
  subst e1
  have:=(TK prog w).inj (hk k2 b e3) h2
  subst this
  exact(R.mem k2).mpr ⟨b,h1,e3⟩
theorem SetT.keep{h h':Heap}{a:Addr}{S:List Key->Prop}{m:Nat}(T:SetT prog w h a S m)(hk:∀c oc,h.get? c=some oc->h'.get? c=some oc):SetT prog w h' a S m:=by
 obtain⟨o,es,ep,t,h1,h2,h3,R⟩:=T
 refine⟨o,es,ep,t,hk _ _ h1,h2,h3,R.keep fun k b hi=>?_⟩
 obtain⟨ob,its,n,q1,q2,q3,q4⟩:=hi
 exact⟨ob,its,n,hk _ _ q1,q2,q3,q4⟩
theorem SetT.congr{h:Heap}{a:Addr}{S S':List Key->Prop}{m m':Nat}(T:SetT prog w h a S m)(e:∀k,S k↔S' k)(hm:m<=m'):SetT prog w h a S' m':=by
 obtain⟨o,es,ep,t,h1,h2,h3,R⟩:=T
 exact⟨o,es,ep,t,h1,h2,h3,R.tab,R.small,R.room,R.els,fun k=>(e k).symm.trans (R.mem k),Zi R.le hm,R.plain,R.led⟩
theorem Q5(b:Addr)(es:Array (Int×Value)):byScan (.ref b) es=false:=by
 unfold byScan Value.scannable
 simp
theorem Ny{h:Heap}{es:Array (Int×Value)}{t:SetTable}{S:List Key->Prop}{m n N:Nat}{k:List Key}(R:SetR prog w h es t S m)(T:Tab n t (es.toList.map (·.1)))(hN:(path t.mask ((TK prog w).hash k) N).j∉t.place.toList)
  (hno:∀(e i:Nat)(b':Addr),0<=e->e<N->t.place.toList[i]?=some (path t.mask ((TK prog w).hash k) e).j->es.toList[i]?=some ((TK prog w).hash k,Value.ref b')->¬(TK prog w).is h k b'):¬S k:=fun z=>by
 obtain⟨b,h1,h2⟩:=(R.mem k).mp z
 obtain⟨i,hi⟩:=Zx.mp h1
 have hil:=(Zd.mp hi).1
 have hlen:t.place.toList.length=es.toList.length:=by
  have:=T.len
  rw[Za]at this
  rw[ZT]
  exact this
 obtain⟨j,hj⟩:∃j,t.place.toList[i]?=some j:=⟨_,Zu (by omega)⟩
 obtain⟨e,g1,g2⟩:=T.reach j ((TK prog w).hash k) (mem_zip.mpr ⟨i,hj,by rw[ZA,hi];rfl⟩)
 have hjm:=Zp hj
 have heN:e<N:=by
  rcases Nat.lt_trichotomy e N with q|q|q
  ·exact q
  ·subst q
   rw[g1]at hN
   exact(hN hjm).elim
  ·exact(hN (g2 N q)).elim
 exact hno e i b (ZG _) heN (by rw[g1];exact hj) hi h2
theorem find_wp{a b:Addr}{S:List Key->Prop}{m:Nat}{k:List Key}{Q:Option Nat->Shared->Prop}(hu:A.units+8<cLine)(T:SetT prog w s.heap a S m)(hk:AllI k)(hkey:(TK prog w).is s.heap k b)(q:∀r:Option Nat,(r.isSome=true↔S k)->Q r s):
  wpAny (model prog w) A (setFind a (.ref b) ((TK prog w).hash k)) Q E s:=by
 obtain⟨o,es,ep,t,ho,hex,hd,R⟩:=T
 obtain⟨n,T⟩:=R.tab
 obtain⟨N,hNl,hN,hkN⟩:=T.first ((TK prog w).hash k)
 unfold setFind setFindIn
 refine Zc (Y8 ho hd (T.fits (by simp)) ?_)
 simp only[Q5,ZR,if_false]
 have hf:N-0<100000:=by
  have:=R.small
  unfold turns at hNl
  omega
 refine Zc ?_
 unfold setSearch
 refine SH hu ho hd T R.els hk hkey hN hkN hNl 100000 0 none _ (ZG _) hf rfl (fun i b' h1 h2=>?_) (fun hno=>?_)
 ·exact Zq (q _ ⟨fun _=>(R.mem k).mpr ⟨b',Zp h1,h2⟩,fun _=>rfl⟩)
 ·have:=Ny R T hN hno
  exact Zq (q none ⟨fun z=>(by cases z),fun z=>(this z).elim⟩)
theorem add_wp{a b:Addr}{S:List Key->Prop}{m:Nat}{k:List Key}{Q:Bool->Shared->Prop}(hu:A.units+8<cLine)(T:SetT prog w s.heap a S m)(hm:m<=1600)(hk:AllI k)(hkey:(TK prog w).is s.heap k b)
  (q:∀h' r,(∀c oc,c≠a->s.heap.get? c=some oc->h'.get? c=some oc)->h'.objs.size=s.heap.objs.size->SetT prog w h' a (fun k'=>S k'\/k'=k) (m+1)->Q r {s with heap:=h'}):
  wpAny (model prog w) A (setAddHashed a (.ref b) ((TK prog w).hash k)) Q E s:=by
 have T0:=T
 obtain⟨o,es,ep,t,ho,hex,hd,R⟩:=T
 obtain⟨n,T⟩:=R.tab
 obtain⟨N,hNl,hN,hkN⟩:=T.first ((TK prog w).hash k)
 have hfit:=T.fits (m:=es.size) (by simp)
 unfold setAddHashed
 refine YV ?_
 unfold setAddHashedIn
 refine Zc (Y8 ho hd hfit ?_)
 simp only[Q5,ZR,if_false]
 have hf:N-0<100000:=by
  have:=R.small
  unfold turns at hNl
  omega
 refine Zc ?_
 unfold setSearch
 refine SH hu ho hd T R.els hk hkey hN hkN hNl 100000 0 none _ (ZG _) hf rfl (fun i b' h1 h2=>?_) (fun hno=>?_)
 ·have hS:S k:=(R.mem k).mpr ⟨b',Zp h1,h2⟩
  simp only
  refine Zq ?_
  have:=q s.heap false (fun _ _ _ e=>e) rfl (T0.congr (fun k'=>⟨.inl,fun z=>z.elim id (fun e=>e▸hS)⟩) (Nat.le_succ _))
  cases s
  exact this
 ·have hS:=Ny R T hN hno
  simp only
  refine Zc (Y8 ho hd hfit ?_)
  have hrm:(es.toList.map (·.1)).length+1<=t.mask:=by
   have:=R.room
   have:=T.m7
   rw[Za,ZT]
   omega
  have T1:=T.put hrm hN hkN
  have epl:(t.put (path t.mask ((TK prog w).hash k) N).j).1.plain=true:=R.plain
  have eled:(t.put (path t.mask ((TK prog w).hash k) N).j).1.led=t.led:=rfl
  have emask:(t.put (path t.mask ((TK prog w).hash k) N).j).1.mask=t.mask:=rfl
  generalize hput:t.put (path t.mask ((TK prog w).hash k) N).j=tp at T1 epl eled emask
  obtain⟨t1,p⟩:=tp
  simp only at T1 epl eled emask⊢
  simp only[epl,if_true]
  refine Zc (Ll hk hkey ?_)
  simp only[if_true]
  have eList:(insertAt es p ((TK prog w).hash k,Value.ref b)).toList=es.toList.take p++((TK prog w).hash k,Value.ref b)::es.toList.drop p:=UH _ _ _
  have eHash:(insertAt es p ((TK prog w).hash k,Value.ref b)).toList.map (·.1)=(es.toList.map (·.1)).take p++(TK prog w).hash k::(es.toList.map (·.1)).drop p:=by
   rw[eList,ZJ,ZB,List.map_take,WM]
  rw[<-eHash]at T1
  have eMem:∀e,e∈(insertAt es p ((TK prog w).hash k,Value.ref b)).toList↔e∈es.toList\/e=((TK prog w).hash k,Value.ref b):=fun e=>by
   rw[eList,Zs,Zw]
   constructor
   ·rintro(z|z|z)
    ·exact .inl (XX z)
    ·exact .inr z
    ·exact .inl (VF z)
   ·rintro(z|z)
    ·rw[<-List.take_append_drop p es.toList]at z
     rcases Zs.mp z with z|z
     ·exact .inl z
     ·exact .inr (.inr z)
    ·exact .inr (.inl z)
  have eSize:(insertAt es p ((TK prog w).hash k,Value.ref b)).size=es.size+1:=by
   rw[<-ZT,eList,Zj,Zo,Yj,Z5,ZT]
   have hp:p<=es.size:=by
    have e1:p=below t.place (path t.mask ((TK prog w).hash k) N).j:=by
     have:=congrArg Prod.snd hput
     exact this.symm
    have:=(Sd T.srt (path t.mask ((TK prog w).hash k) N).j).1
    have:=T.len
    rw[Za,ZT]at this
    omega
   omega
  generalize insertAt es p ((TK prog w).hash k,Value.ref b)=es1 at eList eHash eMem eSize T1
  have hle:=R.le
  refine Zc (wpAny_storeSet_of ho hd ?_ (by rw[eSize];exact Zi (show es.size+1<=1601 by omega) (by decide)))
  have hg1:(s.heap.update a (Obj.putSet es1 t1)).get? a=some {o with data:=.set es1 (ep+1) t1}:=by
   have:=Vy (Obj.putSet es1 t1) ho (by rw[putSet_of es1 t1 hd];rfl)
   rw[putSet_of es1 t1 hd]at this
   exact this
  have sb1:=Vo s.heap a (Obj.putSet es1 t1)
  have kp1:∀c oc,c≠a->s.heap.get? c=some oc->(s.heap.update a (Obj.putSet es1 t1)).get? c=some oc:=fun c oc hc e=>(sb1.2 c hc).trans e
  have sz1:(s.heap.update a (Obj.putSet es1 t1)).objs.size=s.heap.objs.size:=sb1.1
  have is1:∀k' b',(TK prog w).is s.heap k' b'->(TK prog w).is (s.heap.update a (Obj.putSet es1 t1)) k' b':=fun k' b' hi=>is_but ho hex.1 kp1 hi
  generalize s.heap.update a (Obj.putSet es1 t1)=h1 at hg1 sb1 kp1 sz1 is1
  have els1:Els prog w h1 es1.toList:=fun e he=>by
   rcases(eMem e).mp he with z|z
   ·obtain⟨k2,b2,e1,e2,e3⟩:=R.els e z
    exact⟨k2,b2,e1,e2,is1 k2 b2 e3⟩
   ·exact⟨k,b,z,hk,is1 k b hkey⟩
  have mem1:∀k',(S k'\/k'=k)↔∃b',((TK prog w).hash k',Value.ref b')∈es1.toList/\(TK prog w).is h1 k' b':=fun k'=>by
   constructor
   ·rintro(z|rfl)
    ·obtain⟨b',g1,g2⟩:=(R.mem k').mp z
     exact⟨b',(eMem _).mpr (.inl g1),is1 k' b' g2⟩
    ·exact⟨b,(eMem _).mpr (.inr rfl),is1 k' b hkey⟩
   ·rintro⟨b',g1,g2⟩
    rcases(eMem _).mp g1 with z|z
    ·obtain⟨k2,b2,e1,e2,e3⟩:=R.els _ z
     injection e1 with _ e1
     injection e1 with e1
     subst e1
     have:=(TK prog w).inj (is1 k2 b' e3) g2
     subst this
     exact .inl ((R.mem k2).mpr ⟨b',z,e3⟩)
    ·injection z with _ z
     injection z with z
     subst z
     exact .inr ((TK prog w).inj g2 (is1 k b' hkey))
  simp only[Bool.not_false,Bool.true_and]
  have efill:t1.fill=es.size+1:=by
   unfold SetTable.fill
   rw[T1.dum,T1.len,Za,ZT,eSize]
   rfl
  by_cases hfull:t1.tooFull=true
  ·rw[if_pos hfull]
   unfold SetTable.tooFull at hfull
   rw[efill,decide_eq_true_eq]at hfull
   have egr:SetTable.grown (es.size+1)=4*(es.size+1):=by
    unfold SetTable.grown
    rw[if_neg (by omega)]
    omega
   obtain⟨n2,t2,order,g1,T2,g3,g4,g5,g6,g7,g8⟩:=NN (t:=t1) (es:=es1) (wanted:=SetTable.grown (es.size+1)) (by rw[egr,eSize];omega) (by rw[egr];omega) (by rw[eSize];omega)
   unfold setRelay
   refine Zc (Zc (Y8 hg1 rfl (T1.fits (by simp)) ?_))
   simp only
   have hsz:¬SetTable.sizeAbove (SetTable.grown (es.size+1))>sizeLine:=by
    obtain⟨mm,_,e1,_,e3⟩:=UQ (n:=SetTable.grown (es.size+1)) (by rw[egr];omega)
    rw[e1]
    have hb:2^mm<=20000:=by rw[egr]at e3;omega
    have:20000<=sizeLine:=by decide
    omega
   rw[if_neg hsz]
   rw[g1]
   have hne:((order.filterMap (es1[·]?)).size !=es1.size)=false:=by rw[g3];simp
   show wpAny _ A ((if((order.filterMap (es1[·]?)).size !=es1.size)=true then(unsupported "internal:set-table-lost-an-element" >>= fun _=>pure (order.filterMap (es1[·]?),t2))else pure (order.filterMap (es1[·]?),t2)) >>= fun x=>storeSet a x.1 x.2) _ _ _
   rw[if_neg (by rw[hne];simp)]
   refine Zc (Zq ?_)
   generalize order.filterMap (es1[·]?)=es2 at T2 g3 g4
   refine wpAny_storeSet_of (s:={s with heap:=h1}) hg1 rfl ?_ (by rw[g3,eSize];exact Zi (show es.size+1<=1601 by omega) (by decide))
   have hg2:(h1.update a (Obj.putSet es2 t2)).get? a=some {o with data:=.set es2 (ep+1+1) t2}:=by
    have:=Vy (Obj.putSet es2 t2) hg1 (by rw[putSet_of es2 t2 rfl];rfl)
    rw[putSet_of es2 t2 rfl]at this
    exact this
   have sb2:=Vo h1 a (Obj.putSet es2 t2)
   have kp2:∀c oc,c≠a->h1.get? c=some oc->(h1.update a (Obj.putSet es2 t2)).get? c=some oc:=fun c oc hc e=>(sb2.2 c hc).trans e
   have is2:∀k' b',(TK prog w).is h1 k' b'->(TK prog w).is (h1.update a (Obj.putSet es2 t2)) k' b':=fun k' b' hi=>is_but hg1 hex.1 kp2 hi
   have sz2:(h1.update a (Obj.putSet es2 t2)).objs.size=s.heap.objs.size:=sb2.1.trans sz1
   have small2:t2.mask<=8191:=by
    have e1:=T2.mask
    have e2:t2.mask+1<=12900:=by rw[egr]at g7;omega
    have hn2:n2<=13:=by
     refine ZY fun z=>?_
     have:2^14<=2^n2:=VM (by decide) (by omega)
     have:(2:Nat)^14=16384:=by decide
     omega
    have:2^n2<=2^13:=VM (by decide) hn2
    have:(2:Nat)^13=8192:=by decide
    omega
   have R1:SetR prog w h1 es2 t2 (fun k'=>S k'\/k'=k) (m+1):=by
    refine⟨⟨n2,T2⟩,small2,?_,fun e he=>els1 e ((g4 e).mp he),fun k'=>?_,by rw[g3,eSize];omega,g6.trans epl,by rw[g5,eled];exact R.led⟩
    ·rw[g3]
     have:=T2.m7
     omega
    ·rw[mem1 k']
     constructor
     ·rintro⟨b',z1,z2⟩
      exact⟨b',(g4 _).mpr z1,z2⟩
     ·rintro⟨b',z1,z2⟩
      exact⟨b',(g4 _).mp z1,z2⟩
   exact Zq (q _ true (fun c oc hc e=>kp2 c oc hc (kp1 c oc hc e)) sz2 ⟨_,es2,ep+1+1,t2,hg2,hex,rfl,R1.keep is2⟩)
  ·rw[if_neg hfull]
   refine Zq (q h1 true kp1 sz1 ⟨_,es1,ep+1,t1,hg1,hex,rfl,⟨n,T1⟩,by rw[emask];exact R.small,?_,els1,mem1,by rw[eSize];omega,epl,by rw[eled];exact R.led⟩)
   unfold SetTable.tooFull at hfull
   rw[efill,decide_eq_true_eq]at hfull
   rw[eSize]
   omega
end
end Ta
end
section
namespace Ta
open PySem SetTable L2
section
variable{prog:Program}{w:World}{A:Around}{E:Value->Shared->Prop}{s:Shared}
theorem Rj{h h':Heap}{b:Addr}{k:List Key}(hk:∀c oc,oc.cls=.type "tuple"->h.get? c=some oc->h'.get? c=some oc)(hi:(TK prog w).is h k b):(TK prog w).is h' k b:=by
 obtain⟨ob,its,n,h1,h2,h3,h4⟩:=hi
 exact⟨ob,its,n,hk b ob h2 h1,h2,h3,h4⟩
theorem SetT.out{h h':Heap}{a:Addr}{S:List Key->Prop}{m:Nat}(T:SetT prog w h a S m)(ha:∀o,h.get? a=some o->h'.get? a=some o)(hk:∀c oc,oc.cls=.type "tuple"->h.get? c=some oc->h'.get? c=some oc):SetT prog w h' a S m:=by
 obtain⟨o,es,ep,t,h1,h2,h3,R⟩:=T
 exact⟨o,es,ep,t,ha _ h1,h2,h3,R.keep fun k b hi=>Rj hk hi⟩
theorem SetT.cls{h:Heap}{a:Addr}{S:List Key->Prop}{m:Nat}(T:SetT prog w h a S m):∃o,h.get? a=some o/\o.cls=.type "set":=by
 obtain⟨o,es,ep,t,h1,h2,h3,R⟩:=T
 exact⟨o,h1,h2.1⟩
theorem LJ{h:Heap}{a c:Addr}{o oc:Obj}{x:String}(h1:h.get? a=some o)(h2:o.cls=.type x)(hx:x≠"tuple")(h3:h.get? c=some oc)(h4:oc.cls=.type "tuple"):c≠a:=fun z=>by
 rw[z,h1]at h3
 cases h3
 have z2:=h2.symm.trans h4
 injection z2 with z2
 exact hx z2
section
variable{R:Result->Shared->Prop}{I:Addr}{fp wr:List Addr}{G:Array GenState->Array GenState->Prop}{n:Nat}{P:Nat->Value->Prop}{St:Nat->Shared->Prop}
theorem loopT(W:WalksS prog w A.in1 I fp wr G n P St)(S:Addr)(hSf:S∉fp)(hu:A.in1.units+8<cLine)(key:Nat->List Key)(ad:Nat->Addr)
  (hI:∀i s,St i s->∀b∈wr,∃o x,s.heap.get? b=some o/\o.cls=.type x/\x≠"tuple") (hP:∀i v,i<n->P i v->v=.ref (ad i)) (hA:∀i,i<n->AllI (key i)) (hn:n<=1600):
  ∀(d i:Nat)(s:Shared),n-i=d->i<=n->St i s->SetT prog w s.heap S (fun c=>∃j,j<i/\c=key j) i->(∀j,j<n->(TK prog w).is s.heap (key j) (ad j))->
   (∀s',Moved (S::wr) G s s'->SetT prog w s'.heap S (fun c=>∃j,j<n/\c=key j) n->R (.ok (.ret .none)) s')->
   codeAny (model prog w) A (.builtin "set.update.loop" ⟨[.ref S,.ref I],[]⟩) R s:=by
 have hSw:S∉wr:=fun h=>hSf (W.sub _ h)
 have hsub:∀b∈wr,b∈S::wr:=fun b hb=>Ze _ hb
 have hmv:∀{i:Nat}{s s':Shared},St i s->Moved wr G s s'->∀c oc,oc.cls=.type "tuple"->s.heap.get? c=some oc->s'.heap.get? c=some oc:=fun st hm c oc h1 h2=>by
  refine hm.heap c oc (fun hc=>?_) h2
  obtain⟨o,x,e1,e2,e3⟩:=hI _ _ st c hc
  exact LJ e1 e2 e3 h2 h1 rfl
 intro d
 induction d with
 |zero=>
  intro i s hd hi hst hS hK hR
  have hin:i=n:=by omega
  subst hin
  refine Vf PyProof.Rows.F.entry_set_update_loop ?_
  rw[Wo Wg _]
  show wpAny _ A.in1 (pyNext (.ref I) >>= _) _ _ s
  refine Zc (W.done s _ _ hst fun s' hm=>?_)
  show wpAny _ A.in1 (ret Value.none) _ _ s'
  exact Zq (hR s' (hm.mono hsub) (hS.out (fun o e=>hm.heap S o hSw e) (hmv hst hm)))
 |succ d ih=>
  intro i s hd hi hst hS hK hR
  have hlt:i<n:=by omega
  refine Vf PyProof.Rows.F.entry_set_update_loop ?_
  rw[Wo Wg _]
  show wpAny _ A.in1 (pyNext (.ref I) >>= _) _ _ s
  refine Zc (W.item i s _ _ hlt hst fun v s' hv hst' hm=>?_)
  have ev:=hP i v hlt hv
  subst ev
  have hS':=hS.out (fun o e=>hm.heap S o hSw e) (hmv hst hm)
  have hK':∀j,j<n->(TK prog w).is s'.heap (key j) (ad j):=fun j hj=>Rj (hmv hst hm) (hK j hj)
  show wpAny _ A.in1 (holding [Value.ref (ad i)] (setAdd S (.ref (ad i))) >>= _) _ _ s'
  refine Zc (YV ?_)
  unfold setAdd
  refine YV ?_
  refine Zc ((TK prog w).pyHash (show A.in1.units<cLine by omega) (hK' i hlt) ?_)
  refine add_wp (s:={s' with toks:=s'.toks+(TK prog w).draws (key i)}) hu hS' (by omega) (hA i hlt) (hK' i hlt) fun h' r hk _ hS2=>?_
  obtain⟨oS,eS,cS⟩:=hS'.cls
  have hk2:∀c oc,oc.cls=.type "tuple"->s'.heap.get? c=some oc->h'.get? c=some oc:=fun c oc h1 h2=>hk c oc (LJ eS cS (by decide) h2 h1) h2
  refine Zq ⟨plainId_quiet Wg _,ih (i+1) _ (by omega) hlt (W.frame _ s' _ _ hst' (Y1 _ _) fun b hb o e=>?_) (hS2.congr (fun c=>?_) (Zl _)) (fun j hj=>Rj hk2 (hK' j hj)) fun s'' hm'' hS''=>?_⟩
  ·exact hk b o (fun z=>hSf (z▸hb)) e
  ·constructor
   ·rintro(⟨j,hj,e⟩|e)
    ·exact⟨j,by omega,e⟩
    ·exact⟨i,by omega,e⟩
   ·rintro⟨j,hj,e⟩
    by_cases hji:j=i
    ·subst hji
     exact .inr e
    ·exact .inl ⟨j,by omega,e⟩
  ·refine hR s'' (Moved.trans W.gtrans ((hm.mono hsub).then_heap (Y1 _ _) fun b o hb e=>?_) hm'') hS''
   exact hk b o (fun z=>hb (z▸Zm)) e
end
noncomputable abbrev nS(w:World):Obj:={cls:=.type "set",dict:=none,data:=.set #[] 0 (.fresh 0 0 (!w.params.followText "set-order"))}
theorem new_setT(a:Value){Q₁:Value->Shared->Prop}
  (h:Q₁ (.ref s.heap.objs.size) {s with heap:=s.heap.push {cls:=.type "set",dict:=none,data:=.set #[] 0 (.fresh 0 0 (!w.params.followText "set-order"))}}):
  codeAny (model prog w) A (.call (.builtin "set.__new__") ⟨[.type "set",a],[]⟩) (wants Q₁ E) s:=by
 refine codeAny_of_tree ?_
 show wpAny _ A.in1 (checkBuiltinCall "set.__new__" ⟨[.type "set",a],[]⟩ >>= fun _=>again (.builtin "set.__new__" ⟨[.type "set",a],[]⟩)) _ _ s
 refine Zc (wpAny_of_eq (F.newCall_set_1 a) (Zq ⟨plainId_quiet F.plain_set_new _,Vf F.entry_set_new ?_⟩))
 rw[Wo F.plain_set_new _]
 unfold Builtin.«set.__new__» Builtin.Frozenset.newClass
 have hsub:=sub_set_self
 obtain⟨hp,g,d,tk,os⟩:=s
 dsimp only
 wp_walk
 refine wpAny_askSetting (Zq ?_)
 dsimp only
 simp only[newObj]
 refine Zc (wpAny_alloc (Zq ?_))
 exact Zq h
theorem KI(l:Bool):Tab 3 (SetTable.fresh 0 0 l) []:=by
 refine⟨rfl,by decide,rfl,rfl,fun j hj=>?_,?_,(show(0:Nat)<=7 by decide),fun j h hj=>?_⟩
 ·cases hj
 ·exact List.Pairwise.nil
 ·cases hj
theorem QT{h:Heap}{a:Addr}{m:Nat}(ha:h.get? a=some {cls:=.type "set",dict:=none,data:=.set #[] 0 (.fresh 0 0 (!w.params.followText "set-order"))}):SetT prog w h a (fun _=>False) m:=by
 refine⟨_,_,_,_,ha,⟨rfl,rfl,rfl⟩,rfl,⟨3,KI _⟩,(show(7:Nat)<=8191 by decide),(show(0:Nat)*5<7*3 by decide),fun e he=>?_,fun k=>⟨False.elim,?_⟩,ZG _,rfl,rfl⟩
 ·cases he
 ·rintro⟨b,hb,_⟩
  cases hb
theorem ne_of1{a b:Nat}(h:a<b):a≠b+1:=by omega
theorem call_setT{l:Addr}{items:Array Value}{key:Nat->List Key}{ad:Nat->Addr}{Q:Value->Shared->Prop}(hu:A.units+40<cLine)(hh:A.handled=none)(hl:s.heap.IsList l items)
  (hi:∀i,i<items.size->items[i]?=some (.ref (ad i))/\AllI (key i)/\(TK prog w).is s.heap (key i) (ad i)) (hn:items.size<=1600)
  (q:∀(h':Heap)(tk:Nat),SetT prog w h' s.heap.objs.size (fun c=>∃j,j<items.size/\c=key j) items.size->(∀b o,s.heap.get? b=some o->h'.get? b=some o)->Q (.ref s.heap.objs.size) {s with heap:=h',toks:=tk}):
  wpAny (model prog w) A (call (.type "set") [.ref l]) Q E s:=by
 obtain⟨c0,t0,m0⟩:=WG.mro
 have m1:=WG.made
 have m2:=WG.sub
 refine wpAny_call (codeAny_of_tree ?_)
 show wpAny _ _ (callAny (Value.type "set") _) _ _ _
 refine Zq ⟨Code.quiet_builtin _ (by decide +kernel),Vf F.entry_type_call ?_⟩
 rw[Around.under_plain (weight_type_call_type "set" [Value.ref l] []) rfl]
 have m3:=WG.notType
 have m4:=WG.canCreate
 have m5:=F.typeCall_set_1 (.ref l)
 repeat (any_goals (first|assumption|wp_step))
 generalize hnew:({cls:=.type "set",dict:=none,data:=.set #[] 0 (.fresh 0 0 (!w.params.followText "set-order"))}:Obj)=ob
 refine codeAny_mono (new_setT (.ref l) (E:=E) (Q₁:=fun x s1=>x=.ref s.heap.objs.size/\s1={s with heap:=s.heap.push ob}) ⟨rfl,by rw[hnew]⟩) fun r1 s1 hr1=>?_
 cases r1 with
 |error e=>exact hr1
 |ok f1=>
  cases f1 with
  |ret x1=>
   obtain⟨rfl,rfl⟩:=hr1
   have fr:ob.isFreed=false:=by rw[<-hnew];rfl
   have oc:ob.cls=.type "set":=by rw[<-hnew]
   have g1:(s.heap.push ob).get? s.heap.objs.size=some ob:=ZW _ fr
   have ty:Shared.TypeIs {s with heap:=s.heap.push ob} (.ref s.heap.objs.size) "set":=⟨_,g1,oc⟩
   have n1:=WG.init.lookup
   have n2:=WG.init.bind (.ref s.heap.objs.size)
   repeat (any_goals (first|assumption|wp_step))
   refine codeAny_mono (codeAny_call_builtin (R:=wants (fun x s2=>x=.none/\∃h' tk,s2={s with heap:=h',toks:=tk}/\
     SetT prog w h' s.heap.objs.size (fun c=>∃j,j<items.size/\c=key j) items.size/\(∀b o,s.heap.get? b=some o->h'.get? b=some o)) E) WG.init.plain F.entry_set_init (check_set_init_1 ty ?_)) fun r2 s2 hr2=>?_
   ·have hl0:=hl
    subst hnew
    obtain⟨ol,hol,hcl,nl,hdl⟩:=hl
    obtain⟨ocls,odict,odata,oslots⟩:=ol
    simp only at hcl hdl
    subst hcl;subst hdl
    have g2:(s.heap.push (nS w)).get? l=some {cls:=.type "list",dict:=odict,data:=.seq items nl,slots:=oslots}:=Zz _ hol
    have k1:=F.sub_list_set
    have k2:=F.sub_list_frozenset
    have k3:(Value.type "list"==Value.type "dict")=false:=by decide
    have l1:(s.heap.push (nS w)).IsList l items:=⟨_,g2,rfl,nl,rfl⟩
    unfold Builtin.«set.__init__» noKeywords Builtin.Frozenset.updateFrom
    generalize hPI:pyIter=PI
    wp_walk
    subst hPI
    have ll:l<s.heap.objs.size:=ZF hol
    refine wpAny_pyIter_list (l:=l) (items:=items) ?hl1 ?_
    case hl1=>exact l1
    refine Zc (wpAny_runValue ?_)
    have hh3:A.in1.in1.in1.handled=none:=by simp[hh]
    have ne:l≠(s.heap.push (nS w)).objs.size:=by
     rw[YD];exact ne_of1 ll
    have nf:s.heap.objs.size∉[(s.heap.push (nS w)).objs.size,l]:=by
     rw[YD];simp only[Zw,Xe,or_false,not_or]
     exact⟨Z0 (Nat.lt_succ_self _),fun z=>Z0 ll z.symm⟩
    have kp:∀b o,s.heap.get? b=some o->((s.heap.push (nS w)).push {cls:=.type "list_iterator",data:=.fields #[.ref l,.int 0 0]}).get? b=some o:=fun b o e=>Zz _ (Zz _ e)
    refine loopT ((Walks.list hh3 _ l ne items).toS) s.heap.objs.size nf ?hu key ad ?hI ?hP (fun i hi'=>(hi i hi').2.1) hn (items.size-0) 0 _ (by omega) (ZG _)
     ⟨⟨_,ZW _ rfl,rfl,rfl⟩,?hL⟩ ?hS ?hK ?hR
    case hL=>exact l1.push _
    case hu=>simp only[Around.in1_units];omega
    case hI=>
     rintro i s' ⟨⟨o,e1,e2,e3⟩,_⟩ b hb
     rw[ZI.mp hb]
     exact⟨o,_,e1,e2,by decide⟩
    case hP=>
     intro i v hi' hv
     have z:=(hi i hi').1
     exact ZC (hv.symm.trans z)
    case hS=>
     have g3:((s.heap.push (nS w)).push {cls:=.type "list_iterator",data:=.fields #[.ref l,.int 0 0]}).get? s.heap.objs.size=some (nS w):=Zz _ g1
     exact(QT (m:=0) g3).congr (fun c=>⟨False.elim,fun⟨j,hj,_⟩=>by omega⟩) (Zl _)
    case hK=>exact fun j hj=>Rj (fun c o _ e=>kp c o e) (hi j hj).2.2
    case hR=>
     intro s' hm hS'
     obtain⟨h',g',d',tk',os'⟩:=s'
     have eg:g'=s.gens:=hm.gens
     have ed:d'=s.drawn:=hm.drawn
     have eo:os'=s.os:=hm.os
     subst eg;subst ed;subst eo
     show wpAny _ _ _ _ _ _
     refine Zq ?_
     show wpAny _ _ (ret Value.none) _ _ _
     refine Zq ⟨rfl,h',tk',rfl,hS',fun b o e=>?_⟩
     have hb:=ZF e
     refine hm.heap b o ?_ (kp b o e)
     simp only[Zw,Xe,or_false,not_or,YD]
     exact⟨Z0 hb,ne_of1 hb⟩
   ·cases r2 with
    |error e=>exact hr2
    |ok f2=>
     cases f2 with
     |ret x2=>
      obtain⟨rfl,h',tk,rfl,hS',hk'⟩:=hr2
      repeat (any_goals (first|assumption|wp_step))
      exact q _ _ hS' hk'
     |_=>exact hr2.elim
  |_=>exact hr1.elim
end
end Ta
end
section
namespace Ta
open PySem SetTable L2
theorem Q1{α:Type}:∀(l:List α)(i:Nat)(h:i<l.length),(l[i]::l.eraseIdx i).Perm l
 |x::r,0,h=>List.Perm.refl _
 |x::r,i+1,h=>by
  have ih:=Q1 r i (by simpa using h)
  rw[List.getElem_cons_succ,List.eraseIdx_cons_succ]
  exact(List.Perm.swap _ _ _).trans (ih.cons x)
theorem LC{α:Type}(nx:Nat->Nat):∀(f k:Nat)(left:List α)(out:Array α),left.length=f->(pickOrder.go nx f k left out).toList.Perm (out.toList++left)
 |0,k,left,out,h=>by
  rw[List.length_eq_zero_iff.mp h,Y6]
  exact List.Perm.refl _
 |f+1,k,left,out,h=>by
  have hl:nx k%left.length<left.length:=Nat.mod_lt _ (by omega)
  rw[pickOrder.go,Zu hl]
  simp only
  refine(LC nx f (k+1) (left.eraseIdx (nx k%left.length)) _ (by rw[List.length_eraseIdx_of_lt hl];omega)).trans ?_
  rw[Array.toList_push,Xv]
  exact List.Perm.append_left _ (Q1 left _ hl)
theorem Kh{α:Type}(nx:Nat->Nat)(xs:Array α):(pickOrder nx xs).toList.Perm xs.toList:=by
 unfold pickOrder
 exact(LC nx _ _ _ _ (by simp)).trans (by simp)
section
variable{prog:Program}{w:World}{A:Around}{E:Value->Shared->Prop}{s:Shared}
theorem Rq{Q:Bool->Shared->Prop}(q:Q (w.params.followText "set-order") s):wpAny (model prog w) A setsByText Q E s:=by
 unfold setsByText
 exact Zc (wpAny_askSetting (Zq q))
theorem walk_wp{a:Addr}{S:List Key->Prop}{m:Nat}{oth:List Addr}{fl:Option Addr}{Q:Array (Int×Value)->Shared->Prop}(T:SetT prog w s.heap a S m)
  (q:∀es:Array (Int×Value),Els prog w s.heap es.toList->(∀k,S k↔∃c,((TK prog w).hash k,Value.ref c)∈es.toList/\(TK prog w).is s.heap k c)->es.size<=m->Q es s):
  wpAny (model prog w) A (setWalkUnseen a oth fl) Q E s:=by
 obtain⟨o,es,ep,t,ho,hex,hd,R⟩:=T
 obtain⟨n,T⟩:=R.tab
 have hfit:=T.fits (m:=es.size) (by simp)
 have q':∀es':Array (Int×Value),es'.toList.Perm es.toList->Q es' s:=fun es' hp=>by
  refine q es' (fun e he=>R.els e (hp.mem_iff.mp he)) (fun k=>?_) ?_
  ·rw[R.mem k]
   constructor
   ·rintro⟨c,h1,h2⟩
    exact⟨c,hp.mem_iff.mpr h1,h2⟩
   ·rintro⟨c,h1,h2⟩
    exact⟨c,hp.mem_iff.mp h1,h2⟩
  ·have:=hp.length_eq
   have h2:=R.le
   simp only[ZT]at this
   omega
 have hled:=R.led
 have hpl:=R.plain
 unfold setWalkUnseen
 refine Zc (Y8 ho hd hfit ?_)
 simp only
 refine Zc (Rq ?_)
 have hc:(w.params.followText "set-order"||t.led&&t.plain||decide (es.size<=1))=true:=by
  rw[hled,hpl]
  cases w.params.followText "set-order"<;>simp
 rw[if_pos hc]
 unfold setWalk
 refine Zc (Y8 ho hd hfit ?_)
 simp only
 refine Zc (Rq ?_)
 by_cases hb:w.params.followText "set-order"=true
 ·rw[if_pos hb]
  refine Zc (wpAny_askSetting (Zq ?_))
  exact q' _ (Kh _ _)
 ·rw[if_neg hb]
  have hb':w.params.followText "set-order"=false:=by simpa using hb
  rw[hb']at hled
  show wpAny _ _ (if(!t.plain&&decide (es.size>1))=true then _ else _) Q E s
  rw[if_neg (by rw[hpl];simp)]
  refine Zc ?_
  show wpAny _ _ (if(!t.led&&decide (es.size>1))=true then _ else _) _ E s
  rw[if_neg (by rw[hled];simp)]
  exact Zq (Zq (q' _ (List.Perm.refl _)))
theorem Kv{Q:Value->Shared->Prop}(q:Q (.ref s.heap.objs.size) {s with heap:=s.heap.push (nS w)}):wpAny (model prog w) A (newSet (.type "set")) Q E s:=by
 unfold newSet
 refine Zc (Rq ?_)
 simp only[newObj]
 exact Zc (wpAny_alloc (Zq q))
theorem SetT.ty{a:Addr}{S:List Key->Prop}{m:Nat}(T:SetT prog w s.heap a S m):s.TypeIs (.ref a) "set":=by
 obtain⟨o,h1,h2⟩:=T.cls
 exact⟨o,h1,h2⟩
theorem Rt{a:Addr}{S:List Key->Prop}{m:Nat}{Q:Bool->Shared->Prop}(T:SetT prog w s.heap a S m)(q:Q true s):wpAny (model prog w) A (Builtin.Frozenset.isAnySet (.ref a)) Q E s:=by
 unfold Builtin.Frozenset.isAnySet
 refine Zc (wpAny_isInstance T.ty sub_set_self ?_)
 exact Zq q
theorem base_wp{a:Addr}{S:List Key->Prop}{m:Nat}{Q:Value->Shared->Prop}(T:SetT prog w s.heap a S m)(q:Q (.type "set") s):wpAny (model prog w) A (Builtin.Frozenset.baseOf a) Q E s:=by
 unfold Builtin.Frozenset.baseOf
 refine Zc (wpAny_isInstance T.ty sub_set_self ?_)
 exact Zq q
theorem Lz{a:Addr}{S:List Key->Prop}{m:Nat}{Q:Nat->Shared->Prop}(T:SetT prog w s.heap a S m)(q:∀n,Q n s):wpAny (model prog w) A (Builtin.Frozenset.sizeOf a) Q E s:=by
 obtain⟨o,es,ep,t,ho,hex,hd,R⟩:=T
 obtain⟨n,T⟩:=R.tab
 unfold Builtin.Frozenset.sizeOf
 exact Zc (wpAny_setEntries_of ho hd (T.fits (by simp)) (Zq (q _)))
theorem loop_wp{a b r:Addr}{Sa Sb:List Key->Prop}{ma mb:Nat}{id:String}{Q:Unit->Shared->Prop}{L:List (Int×Value)}{ep:Nat}(hu:A.units+8<cLine)(h0:Heap)(hr:∀c o,h0.get? c=some o->c≠r)
  (T1:SetT prog w h0 a Sa ma) (T2:∃o es t n,h0.get? b=some o/\o.data=.set es ep t/\Tab n t (es.toList.map (·.1))) (hL:Els prog w h0 L) (hn:L.length<=1600) (hk:∀c o,h0.get? c=some o->s.heap.get? c=some o)
  (T3:SetT prog w s.heap r (fun _=>False) 0)
  (q:∀h',SetT prog w h' r (fun k=>Sa k/\∃c,((TK prog w).hash k,Value.ref c)∈L/\(TK prog w).is h0 k c) L.length->(∀c o,h0.get? c=some o->h'.get? c=some o)->Q () {s with heap:=h'}):
  wpAny (model prog w) A (forIn L PUnit.unit fun(x:Int×Value) (_:PUnit)=>(match x with
   |(h,x)=>(do
    holding [x] (do
     let z<-setFind a x h
     if z.isSome=true then do
      let _<-setAddHashed r x h
      pure PUnit.unit
     else pure PUnit.unit)
    Builtin.Frozenset.unchanged id b ep
    pure (ForInStep.yield PUnit.unit)):Sem (ForInStep PUnit))) (fun _ s'=>Q () s') E s:=by
 refine wpAny_forIn_list _ (fun rest _ s'=>∃pre h',L=pre++rest/\s'={s with heap:=h'}/\(∀c o,h0.get? c=some o->h'.get? c=some o)/\SetT prog w h' r (fun k=>Sa k/\∃c,((TK prog w).hash k,Value.ref c)∈pre/\(TK prog w).is h0 k c) pre.length) _ ?_ ?_ L _ ?_
 ·rintro e rest _ s' ⟨pre,h',eL,rfl,kp,T⟩
  obtain⟨k,c,rfl,hk1,hk2⟩:=hL e (by rw[eL];simp)
  have lift:∀{k c},(TK prog w).is h0 k c->(TK prog w).is h' k c:=fun z=>Rj (fun c o _ e=>kp c o e) z
  have un:∀(h2:Heap)(X:ForInStep PUnit->Shared->Prop),(∀c o,h0.get? c=some o->h2.get? c=some o)->X (ForInStep.yield PUnit.unit) {s with heap:=h2}->wpAny (model prog w) A (do
    Builtin.Frozenset.unchanged id b ep
    pure (ForInStep.yield PUnit.unit)) X E {s with heap:=h2}:=fun h2 X kp2 hX=>by
   obtain⟨o,es,t,n,e1,e2,e3⟩:=T2
   refine Zc ?_
   unfold Builtin.Frozenset.unchanged setEpoch
   refine Zc (Zc (Y8 (s:={s with heap:=h2}) (kp2 _ _ e1) e2 (e3.fits (by simp)) (Zq ?_)))
   simp only[bne_self_eq_false,ZR,if_false]
   exact Zq (Zq hX)
  have eL2:L=(pre++[((TK prog w).hash k,Value.ref c)])++rest:=by rw[eL];simp
  simp only
  refine Zc (YV ?_)
  refine Zc (find_wp (s:={s with heap:=h'}) hu (T1.keep kp) hk1 (lift hk2) fun z hz=>?_)
  by_cases hs:z.isSome=true
  ·rw[if_pos hs]
   have hlen:pre.length+1<=L.length:=by rw[eL];simp
   refine Zc (add_wp (s:={s with heap:=h'}) hu T (by omega) hk1 (lift hk2) fun h2 _ kp2 _ T'=>?_)
   have kp3:∀c o,h0.get? c=some o->h2.get? c=some o:=fun c o e=>kp2 c o (hr c o e) (kp c o e)
   refine Zq (un h2 _ kp3 ⟨_,h2,eL2,rfl,kp3,?_⟩)
   rw[Zj,Z6]
   refine T'.congr (fun k'=>?_) (Zl _)
   constructor
   ·rintro(⟨g1,c',g2,g3⟩|rfl)
    ·exact⟨g1,c',Yo _ g2,g3⟩
    ·exact⟨hz.mp hs,c,by simp,hk2⟩
   ·rintro⟨g1,c',g2,g3⟩
    rcases Zs.mp g2 with g2|g2
    ·exact .inl ⟨g1,c',g2,g3⟩
    ·rw[ZI]at g2
     injection g2 with _ g2
     injection g2 with g2
     subst g2
     exact .inr ((TK prog w).inj g3 hk2)
  ·rw[if_neg hs]
   refine Zq (un h' _ kp ⟨_,h',eL2,rfl,kp,T.congr (fun k'=>?_) (by simp)⟩)
   constructor
   ·rintro⟨g1,c',g2,g3⟩
    exact⟨g1,c',Yo _ g2,g3⟩
   ·rintro⟨g1,c',g2,g3⟩
    rcases Zs.mp g2 with g2|g2
    ·exact⟨g1,c',g2,g3⟩
    ·rw[ZI]at g2
     injection g2 with _ g2
     injection g2 with g2
     subst g2
     have:=(TK prog w).inj g3 hk2
     subst this
     exact absurd (hz.mpr g1) hs
 ·rintro _ s' ⟨pre,h',eL,rfl,kp,T⟩
  rw[Y6]at eL
  subst eL
  exact q h' T kp
 ·exact⟨[],s.heap,rfl,rfl,hk,T3.congr (fun k=>⟨False.elim,fun⟨_,c,z,_⟩=>by cases z⟩) (Zl _)⟩
theorem inter_wp{a b:Addr}{S1 S2:List Key->Prop}{m1 m2:Nat}{id:String}{Q:Value->Shared->Prop}(hu:A.units+8<cLine)(ne:a≠b)(T1:SetT prog w s.heap a S1 m1)(T2:SetT prog w s.heap b S2 m2)(h1:m1<=1600)(h2:m2<=1600)
  (q:∀h',SetT prog w h' s.heap.objs.size (fun k=>S1 k/\S2 k) 1600->(∀c o,s.heap.get? c=some o->h'.get? c=some o)->Q (.ref s.heap.objs.size) {s with heap:=h'}):
  wpAny (model prog w) A (Builtin.Frozenset.intersection id a (.ref b)) Q E s:=by
 unfold Builtin.Frozenset.intersection
 have hne:¬(Value.ref b==Value.ref a)=true:=fun z=>ne (by
  have:=eq_of_beq z
  injection this with this
  exact this.symm)
 rw[if_neg hne]
 refine Zc (base_wp T1 ?_)
 refine Zc (Kv ?_)
 have kp:∀c o,s.heap.get? c=some o->(s.heap.push (nS w)).get? c=some o:=fun c o e=>Zz _ e
 have g:(s.heap.push (nS w)).get? s.heap.objs.size=some (nS w):=ZW _ rfl
 have T1':=T1.keep kp
 have T2':=T2.keep kp
 have T3:SetT prog w (s.heap.push (nS w)) s.heap.objs.size (fun _=>False) 0:=QT g
 have hr:∀c o,s.heap.get? c=some o->c≠s.heap.objs.size:=fun c o e=>Z0 (ZF e)
 unfold Builtin.Frozenset.addrOf
 refine Zc (Zq ?_)
 dsimp only
 refine Zc (YV ?_)
 refine Zc (Rt (s:={s with heap:=s.heap.push (nS w)}) T2' ?_)
 rw[if_pos rfl]
 refine Zc (Zq ?_)
 refine Zc (Lz (s:={s with heap:=s.heap.push (nS w)}) T2' fun n2=>?_)
 refine Zc (Lz (s:={s with heap:=s.heap.push (nS w)}) T1' fun n1=>?_)
 obtain⟨x,y,Sx,Sy,mx,my,e,Tx,Ty,hmy,hS⟩:∃(x y:Addr)(Sx Sy:List Key->Prop)(mx my:Nat),(if n2>n1 then(b,a)else(a,b))=(x,y)/\SetT prog w s.heap x Sx mx/\SetT prog w s.heap y Sy my/\my<=1600/\∀k,Sx k/\Sy k↔S1 k/\S2 k:=by
  by_cases hc:n2>n1
  ·exact⟨b,a,S2,S1,m2,m1,if_pos hc,T2,T1,h1,fun k=>And.comm⟩
  ·exact⟨a,b,S1,S2,m1,m2,if_neg hc,T1,T2,h2,fun k=>Iff.rfl⟩
 rw[e]
 dsimp only
 have Ty':=Ty.keep kp
 have Ty0:=Ty
 obtain⟨o,es,ep,t,ho,hex,hd,R⟩:=Ty
 obtain⟨n,Tb⟩:=R.tab
 unfold setEpoch
 refine Zc (Zc (Y8 (s:={s with heap:=s.heap.push (nS w)}) (kp _ _ ho) hd (Tb.fits (by simp)) (Zq ?_)))
 refine Zc (walk_wp (s:={s with heap:=s.heap.push (nS w)}) Ty' fun es' hE hM hsz=>?_)
 rw[<-Array.forIn_toList]
 have back:∀{k c},(TK prog w).is (s.heap.push (nS w)) k c->(TK prog w).is s.heap k c:=by
  rintro k c ⟨ob,its,m,g1,g2,g3,g4⟩
  rcases Heap.get?_push_cases g1 with⟨_,rfl⟩|g1'
  ·have z:Value.type "set"=Value.type "tuple":=g2
   injection z with z
   exact absurd z (by decide)
  ·exact⟨ob,its,m,g1',g2,g3,g4⟩
 have hE0:Els prog w s.heap es'.toList:=fun e he=>by
  obtain⟨k,c,g1,g2,g3⟩:=hE e he
  exact⟨k,c,g1,g2,back g3⟩
 refine Zc (loop_wp (s:={s with heap:=s.heap.push (nS w)}) (ep:=ep) (L:=es'.toList) (Sb:=Sy) (mb:=my) (id:=id) (Q:=fun _ s'=>wpAny (model prog w) A (pure PUnit.unit) (fun a s'=>wpAny (model prog w) A (pure (Value.ref s.heap.objs.size)) Q E s') E s') hu s.heap hr Tx ⟨o,es,t,n,ho,hd,Tb⟩ hE0 (by rw[ZT];omega) kp T3 fun h' T' kp'=>?_)
 refine Zq (Zq (q h' (T'.congr (fun k=>?_) (by rw[ZT];omega)) kp'))
 rw[<-hS k,hM k]
 constructor
 ·rintro⟨g1,c,g2,g3⟩
  exact⟨g1,c,g2,Rj (fun c o _ e=>kp c o e) g3⟩
 ·rintro⟨g1,c,g2,g3⟩
  exact⟨g1,c,g2,back g3⟩
theorem KL:entryFor table "set.__and__"=some Builtin.«frozenset.__and__»:=entryFor_alias (id':="frozenset.__and__") (by kernel_rfl) rfl (by decide +kernel) (by kernel_rfl)
theorem and_wp{a b:Addr}{S1 S2:List Key->Prop}{m1 m2:Nat}{Q:Value->Shared->Prop}(hu:A.units+40<cLine)(ne:a≠b)(T1:SetT prog w s.heap a S1 m1)(T2:SetT prog w s.heap b S2 m2)(h1:m1<=1600)(h2:m2<=1600)
  (q:∀h',SetT prog w h' s.heap.objs.size (fun k=>S1 k/\S2 k) 1600->(∀c o,s.heap.get? c=some o->h'.get? c=some o)->Q (.ref s.heap.objs.size) {s with heap:=h'}):
  wpAny (model prog w) A (binaryOp .BitAnd (.ref a) (.ref b)) Q E s:=by
 refine wpAny_binaryOp_same T1.ty T2.ty F.fills_set_and F.slot_set_and (wpAny_call_entry F.slot_set_and T1.ty KL ?_ (F.args_set_and_2 _ _))
 unfold Builtin.«frozenset.__and__»
 refine Zc (m:=Builtin.Frozenset.slot1 "__and__" _) ?_
 unfold Builtin.Frozenset.slot1 slotArgs
 simp only[List.isEmpty_nil,VC,ZR,↓reduceIte,bind_assoc,Zo,Yc,bne_self_eq_false]
 refine Zc (Zq ?_)
 refine Zq ?_
 dsimp only
 refine Zc (Zc (Rt T1 ?_))
 show wpAny _ _ (Builtin.Frozenset.isAnySet (.ref b)) _ _ _
 refine Rt T2 ?_
 rw[if_neg (by simp)]
 unfold Builtin.Frozenset.addrOf
 refine Zc (Zq ?_)
 refine Zc (inter_wp (by simp only[Around.in1_units];omega) ne T1 T2 h1 h2 fun h' T' kp=>?_)
 exact Zq ⟨_,rfl,(by intro z;cases z),q h' T' kp⟩
theorem len_wp{a:Addr}{S:List Key->Prop}{m:Nat}{Q:Value->Shared->Prop}(T:SetT prog w s.heap a S m)(hm:m<=1600)(q:∀(n tk:Nat)(tk':Nat),(0<n↔∃k,S k)->Q (.int n tk) {s with toks:=tk'}):
  wpAny (model prog w) A (call (.builtin "len") [.ref a]) Q E s:=by
 obtain⟨o,es,ep,t,ho,hex,hd,R⟩:=T
 obtain⟨n,T⟩:=R.tab
 have hle:=R.le
 refine call_len_set ho hex hd (T.fits (by simp)) (by omega) (q es.size _ _ ?_)
 constructor
 ·intro h
  have hz:es.toList.length≠0:=by rw[ZT];omega
  obtain⟨e,r,he⟩:=List.exists_cons_of_ne_nil (fun z=>hz (by rw[z];rfl):es.toList≠[])
  obtain⟨k,b,g1,g2,g3⟩:=R.els e (by rw[he];exact Zm)
  exact⟨k,(R.mem k).mpr ⟨b,by rw[<-g1,he];exact Zm,g3⟩⟩
 ·rintro⟨k,hk⟩
  obtain⟨b,g1,_⟩:=(R.mem k).mp hk
  have:=Vc g1
  rw[ZT]at this
  exact this
end
end Ta
end
section
namespace L2
open PySem PySem.Spec PyProof.Rows
noncomputable abbrev TupK(H:Hp)(t:Addr)(c:List Key):Prop:=H t=some (.tup (c.map kV))
noncomputable def tLenAnd(t1:TE)(i:Nat):TE:=fun σ H Q=>t1 σ H fun x H1=>∃(p q:Addr)(ts us:List Addr)(cs ds:List (List Key)),x=.ref p/\σ[i]?=some (some (.ref q))/\H1 p=some (.lst (ts.map V.ref))/\Paired (TupK H1) ts cs/\H1 q=some (.lst (us.map V.ref))/\Paired (TupK H1) us ds/\ts.length<=1600/\us.length<=1600/\
 (∀c∈cs,Ta.AllI c)/\(∀d∈ds,Ta.AllI d)/\∀n:Nat,(0<n↔∃c∈cs,c∈ds)->Q (.int (n:Int)) H1
theorem OI:bootBuiltins "set"=some (.type "set"):=by decide +kernel
theorem KZ:bootBuiltins "len"=some (.builtin "len"):=by decide +kernel
section
variable{X:Cx}{pins:List (Addr×Obj)}{σ:St}{H:Hp}{s:Shared}
theorem set_in{E:Value->Shared->Prop}{p:Addr}{ts:List Addr}{cs:List (List Key)}{Q:Value->Shared->Prop}(hu:X.A.units+60<cLine)(hh:X.A.handled=none)(I:Inv X pins σ H s)(hp:H p=some (.lst (ts.map V.ref)))(hP:Paired (TupK H) ts cs)(hl:ts.length<=1600)(hA:∀c∈cs,Ta.AllI c)
  (q:∀(h':Heap)(tk:Nat),Ta.SetT X.prog X.w h' s.heap.objs.size (fun k=>k∈cs) 1600->(∀b o,s.heap.get? b=some o->h'.get? b=some o)->Q (.ref s.heap.objs.size) {s with heap:=h',toks:=tk}):
  wpAny (model X.prog X.w) X.A (call (.type "set") [.ref p]) Q E s:=by
 obtain⟨its,rv,pl,hz⟩:=I.list (a:=p) (.inl (.inl hp))
 have l1:ts.length=its.length:=by
  have:=rv.length
  rwa[Za]at this
 have l2:ts.length=cs.length:=Zy hP
 refine Ta.call_setT (key:=fun i=>cs.getD i []) (ad:=fun i=>ts.getD i 0) (by omega) hh pl.isList (fun i hi=>?_) (by rw[ZH];omega) fun h' tk T kp=>q h' tk (T.congr (fun k=>?_) (by rw[ZH];omega)) kp
 ·rw[ZH]at hi
  have hti:ts[i]?=some ts[i]:=Zu (by omega)
  obtain⟨c,hc,ht⟩:=Z4 hP hti
  obtain⟨u,hu1,hu2⟩:=rv.get (i:=i) (x:=V.ref ts[i]) (by rw[ZA,hti];rfl)
  have hu2:u=Value.ref ts[i]:=hu2
  subst hu2
  have e1:ts.getD i 0=ts[i]:=by rw[Z8,hti];rfl
  have e2:cs.getD i []=c:=by rw[Z8,hc];rfl
  simp only[e1,e2]
  exact⟨by rw[List.getElem?_toArray];exact hu1,hA c (Zp hc),QI I.hok ht⟩
 ·rw[ZH,<-l1,l2]
  constructor
  ·rintro⟨j,hj,rfl⟩
   rw[Z8,Zu hj]
   exact List.getElem_mem hj
  ·intro hk
   obtain⟨j,hj⟩:=Zx.mp hk
   exact⟨j,(Zd.mp hj).1,by rw[Z8,hj];rfl⟩
theorem ev_var{E:Value->Shared->Prop}{i:Nat}{x:Str}{v:V}{pos:Pos}{Q:Value->Shared->Prop}(I:Inv X pins σ H s)(hN:X.N[i]?=some x)(hv:Vis X.env.scope x)(e:σ[i]?=some (some v))(q:∀u,RelV v u->Q u s)(hd:(x==("__debug__":Str))=false)(hcd:(x==("__classdict__":Str))=false):wpAny (model X.prog X.w) X.A (eval (.Name x pos) X.env) Q E s:=by
 obtain⟨m,hn,hl⟩:=I.loc
 obtain⟨u,r,l⟩:=hl i x v hN e hv
 rcases l with⟨hk,hm⟩|⟨hk,c,hc,hcell⟩
 ·exact wpAny_Name (wpAny_loadName_local I.ok.kind hk hn hm (q u r)) hd
 ·rcases hk with hk|hk
  ·exact wpAny_Name (wpAny_loadName_cell I.ok.kind hk hc hcell (q u r)) hd
  ·exact wpAny_Name (wpAny_loadName_free I.ok.kind hk hc hcell (q u r) hcd) hd
end
theorem Kk{X:Cx}{k:Nat}(i:Nat){x:Str}{e1:Expr}{t1:TE}{p1 p2 p3 p4 p5 p6 p7 p8:Pos}(hgl:Gl X "len")(hml:X.mg "len"=none)(hgs:Gl X "set")(hms:X.mg "set"=none)(hr:Room k X.A)(hc:X.calm=true)(h1:PE X e1 t1)
  (hN:X.N[i]?=some x:=by rfl) (hv:Vis X.env.scope x:=by first|exact Or.inl rfl|exact Or.inr (Or.inl rfl)|exact Or.inr (Or.inr rfl)) (hd:(x==("__debug__":Str))=false:=by decide) (hcd:(x==("__classdict__":Str))=false:=by decide) (hst:starEach [e1] X.env=[(false,eval e1 X.env)]:=by rfl):
  PE X (.Call (.Name "len" p1) [.BinOp (.Call (.Name "set" p2) [e1] [] p3) .BitAnd (.Call (.Name "set" p4) [.Name x p5] [] p6) p7] [] p8) (tLenAnd t1 i):=by
 intro pins s σ H Q I h
 have hu:X.A.units+60<cLine:=by have:=hr.un;omega
 refine Call_ (VY I hgl hml KZ (callWith_builtin1 (X8 ?_)))
 refine wpAny_BinOp ?_
 refine Call_ (VY I hgs hms OI (Ym ?_ hst rfl))
 rw[hst]
 refine X8 (thn (h1 pins s σ H _ I h) fun u s1 ⟨y,H1,I1,r1,q1⟩=>?_)
 obtain⟨p,q,ts,us,cs,ds,rfl,hq,hp,hP,hq1,hQ,l1,l2,a1,a2,fin⟩:=q1
 have r1:u=Value.ref p:=r1
 subst r1
 refine Wh ?_
 refine set_in hu hr.hd I1 hp hP l1 a1 fun h2 tk2 T1 kp1=>?_
 have I2:Inv X pins σ H1 {s1 with heap:=h2,toks:=tk2}:=I1.kept kp1
 refine Call_ (VY I2 hgs hms OI (Ym (X8 ?_) rfl rfl))
 refine ev_var I2 hN hv hq (fun u r=>?_) hd hcd
 have r:u=Value.ref q:=r
 subst r
 refine Wh ?_
 refine set_in hu hr.hd I2 hq1 hQ l2 a2 fun h3 tk3 T2 kp2=>?_
 have I3:Inv X pins σ H1 {s1 with heap:=h3,toks:=tk3}:=I2.kept kp2
 have T1':=T1.keep kp2
 obtain⟨o1,g1,_⟩:=T1.cls
 refine Ta.and_wp (s:={s1 with heap:=h3,toks:=tk3}) (by omega) (Z0 (ZF g1)) T1' T2 (Zl _) (Zl _) fun h4 T3 kp3=>?_
 have I4:Inv X pins σ H1 {s1 with heap:=h4,toks:=tk3}:=I3.kept kp3
 refine Wh ?_
 refine Ta.len_wp (s:={s1 with heap:=h4,toks:=tk3}) T3 (Zl _) fun n tk tk' hn=>?_
 exact⟨.int (n:Int),H1,I4.tok tk',⟨_,rfl⟩,fin n (hn.trans ⟨fun⟨k,h1,h2⟩=>⟨k,h1,h2⟩,fun⟨k,h1,h2⟩=>⟨k,h1,h2⟩⟩)⟩
end L2
end
section
namespace Cp
open PySem PySem.Spec PyProof.Rows L2 Ma
noncomputable def top(i:Nat):Stmt:=PySem.Challenge.pw_cellpaint_s01_answers.main.body.getD i (.Pass ⟨0,0,0,0⟩)
noncomputable abbrev ZQ(ns:List Int):List V:=ns.map V.int
noncomputable abbrev ZV(as:List Addr):List V:=as.map V.ref
theorem QM(l:List Int)(z:Int):ZQ (l++[z])=ZQ l++[V.int z]:=by simp[ZQ]
theorem Yw(l:List Addr)(z:Addr):ZV (l++[z])=ZV l++[V.ref z]:=by simp[ZV]
noncomputable abbrev LI(H:Hp)(a:Addr)(ns:List Int):Prop:=H a=some (.lst (ZQ ns))
structure LL(H:Hp)(a:Addr)(as:List Addr)(xss:List (List Int)):Prop where
 at_:H a=some (.lst (ZV as))
 each:Paired (LI H) as xss
theorem _root_.L2.Same.upd{H H':Hp}{a:Addr}{o:HO}(s:Same H H')(h:H a=none):Same H (L2.upd H' a o):=fun b u e=>by
 rw[Zt (ZD e h)]
 exact s b u e
theorem _root_.L2.Same.new{H:Hp}{a:Addr}{o:HO}(h:H a=none):Same H (L2.upd H a o):=fun b u e=>by
 rw[Zt (ZD e h)]
 exact e
theorem pimp{α β:Type}{F G:α->β->Prop}:∀{l:List α}{m:List β},Paired F l m->(∀a b,a∈l->F a b->G a b)->Paired G l m
 |_,_,.nil,_=>.nil
 |_,_,.cons r t,h=>.cons (h _ _ Zm r) (pimp t fun a b ha=>h a b (Ze _ ha))
theorem V8{α β:Type}{F:α->β->Prop}:∀{l:List α}{m:List β}{a:α}{b:β},Paired F l m->F a b->Paired F (l++[a]) (m++[b])
 |_,_,_,_,.nil,h=>.cons h .nil
 |_,_,_,_,.cons r t,h=>.cons r (V8 t h)
theorem take_snoc{α:Type}:∀{l:List α}{i:Nat}{x:α},l[i]?=some x->l.take (i+1)=l.take i++[x]
 |[],i,x,h=>by simp at h
 |a::l,0,x,h=>by simp at h;subst h;rfl
 |a::l,i+1,x,h=>by
  have ih:=take_snoc (l:=l) (i:=i) (x:=x) (by simpa using h)
  show a::l.take (i+1)=a::l.take i++[x]
  rw[ih]
  rfl
theorem int_at{ns:List Int}{i:Nat}{y:V}(h:(ZQ ns)[i]?=some y):∃z,ns[i]?=some z/\y=.int z:=by
 rw[ZA]at h
 cases e:ns[i]? with
 |none=>rw[e]at h;cases h
 |some z=>rw[e]at h;exact⟨z,rfl,(ZC h).symm⟩
section
variable{P:Program}{w:World}{K:PySem.W.Frag}{mg:Str->Option Value}{base:Heap}
noncomputable abbrev SK:Stmt:=top 11
theorem scSplit:ZP ["text","separator","parts","part","byte"] ["text","separator"] (Zh SK):=⟨rfl,rfl,rfl,by decide +kernel,rfl,by decide +kernel,by decide +kernel⟩
noncomputable def Te(K:PySem.W.Frag):Sp:=fun vs H Q _=>∃(a:Addr)(t:List Int)(sep:Int),vs=[.ref a,.int sep]/\SqL K H a (ZQ t)/\t.length<=17000/\
 ∀(H':Hp)(p:Addr)(as:List Addr),Same H H'->H p=none->LL H' p as (cutI sep [] t)->Q (.ref p) H'
theorem ok_split{f:Addr}{fd:FuncData}(F:Fun K "split_at" "split_at" SK f fd):FnOk P w K mg base CX0 1 f fd ["text","separator"] (Te K):=by
 refine F.ok scSplit (fun vs H Q E h=>?_) (fun cdv A outer s H vs Q E hr h=>?_)
 ·obtain⟨a,t,sep,rfl,_⟩:=h
  rfl
 ·obtain⟨a,t,sep,rfl,hS,hl,k⟩:=h
  have nd:=scSplit.nd
  refine⟨_,(Zk (ZZ (i:=2) nd rfl (Or.inl rfl) (Yp Zn))
   (Zk (ZZ (i:=3) nd rfl (Or.inl rfl) (Yp Zn))
   (Zk (VU YH rfl (YN (pv 0)) (Z2 (i:=4) nd rfl (Or.inl rfl))
   (Zr (Xm (Yx UG (pv 4) (pv 1) (YU _)) (Zk (Xx (Um Z9 YK YL WJ (pv 2) (Zb (pv 3) Zn)))
   (Zr (ZZ (i:=3) nd rfl (Or.inl rfl) (Yp Zn)))) (Zr (Xx (Um Z9 YK YL WJ (pv 3) (Zb (pv 4) Zn)))))))
   (Zk (Xx (Um Z9 YK YL WJ (pv 2) (Zb (pv 3) Zn)))
   (Zr (ZN (pv 2))))))),?_⟩
  refine⟨ZG _,fun p hp=>⟨ZG _,fun c hc=>?_⟩⟩
  have hpc:c≠p:=by
   intro e;subst e;rw[Zf]at hc;cases hc
  rw[Zt hpc]at hc
  have s0:Same H (upd (upd H p (.lst [])) c (.lst [])):=(Same.new hp).upd hc
  refine⟨_,rfl,a,rfl,⟨_,s0.seq hS⟩,V0 (K:=K) (a:=a) (xs:=ZQ t)
   (fun i σ H'=>∃(v:Option V)(as:List Addr)(c:Addr),σ=[some (.ref a),some (.int sep),some (.ref p),some (.ref c),v]/\Same H H'/\H c=none/\c≠p/\c∉as/\
    (∀b∈as,H b=none)/\p∉as/\as.length<=i/\((t.take i).foldl (XH sep) ([],[])).2.length<=i/\LL H' p as ((t.take i).foldl (XH sep) ([],[])).1/\LI H' c ((t.take i).foldl (XH sep) ([],[])).2)
   ⟨none,[],c,rfl,s0,hc,hpc,by simp,by simp,by simp,Zl _,Zl _,⟨by rw[Zt (Yq hpc),Zf];rfl,.nil⟩,Zf⟩
   (fun i σ H' _ ⟨_,_,_,_,s5,_⟩=>s5.seq hS) ?_ ?_⟩
  ·rintro i y σ H' hi ⟨v,as,c,rfl,s1,hc,hpc,hca,hfr,hpa,hal,hcl,hL,hC⟩
   obtain⟨z,hz,rfl⟩:=int_at hi
   have hit:i<t.length:=(Zd.mp hz).1
   have et:(t.take (i+1)).foldl (XH sep) ([],[])=XH sep ((t.take i).foldl (XH sep) ([],[])) z:=by
    rw[take_snoc hz,Vb]
    rfl
   revert hal hcl hL hC et
   generalize (t.take i).foldl (XH sep) ([],[])=st
   intro hal hcl hL hC et
   refine⟨_,rfl,_,rfl,rfl,_,rfl,?_⟩
   refine ite2 (fun e=>?_) (fun e=>?_)
   ·have e:z=sep:=by simpa using e
    refine⟨_,rfl,.inl ⟨rfl,_,SqL.of hL.at_⟩,_,rfl,p,_,_,rfl,rfl,hL.at_,(by rw[Za];exact Z3 hal (ZX hit (Zi hl (by decide)))),?_⟩
    refine⟨ZG _,fun c2 hc2=>?_⟩
    have n1:c2≠p:=by intro e;subst e;rw[Zf]at hc2;cases hc2
    rw[Zt n1]at hc2
    have n2:c2≠c:=by intro e;subst e;rw[hC]at hc2;cases hc2
    have hcp:H p=none:=hp
    have n3:∀b∈as,b≠c2:=by
     intro b hb e
     subst e
     obtain⟨j,hj⟩:=Zx.mp hb
     obtain⟨_,_,h4⟩:=Z4 hL.each hj
     rw[h4]at hc2;cases hc2
    rw[et]
    have e1:XH sep st z=(st.1++[st.2],[]):=by unfold XH;rw[if_pos e]
    rw[e1]
    refine⟨_,as++[c],c2,rfl,(s1.upd hp).upd (s1.free hc2),s1.free hc2,n1,?_,?_,?_,by simp;omega,ZG _,⟨?_,?_⟩,Zf⟩
    ·intro hm
     rcases Zs.mp hm with hm|hm
     ·exact n3 _ hm rfl
     ·exact n2 (by simpa using hm)
    ·intro b hb
     rcases Zs.mp hb with hb|hb
     ·exact hfr b hb
     ·have:b=c:=by simpa using hb
      rw[this];exact hc
    ·intro hm
     rcases Zs.mp hm with hm|hm
     ·exact hpa hm
     ·exact hpc (ZI.mp hm).symm
    ·rw[Zt (Yq n1),Zf,Yw]
    ·refine V8 (pimp hL.each fun b xs hb q=>?_) ?_
     ·show upd _ c2 _ b=_
      rw[Zt (n3 b hb),Zt (show b≠p from fun e=>hpa (e▸hb))]
      exact q
     ·show upd _ c2 _ c=_
      rw[Zt (Yq n2),Zt hpc]
      exact hC
   ·have e:¬z=sep:=by simpa using e
    refine⟨_,rfl,.inl ⟨rfl,_,SqL.of hC⟩,_,rfl,c,_,_,rfl,rfl,hC,(by rw[Za];exact Z3 hcl (ZX hit (Zi hl (by decide)))),?_⟩
    rw[et]
    have e1:XH sep st z=(st.1,st.2++[z]):=by unfold XH;rw[if_neg e]
    rw[e1]
    refine⟨_,as,c,rfl,s1.upd hc,hc,hpc,hca,hfr,hpa,by omega,by simp;omega,⟨?_,?_⟩,?_⟩
    ·rw[Zt (Yq hpc)];exact hL.at_
    ·refine pimp hL.each fun b xs hb q=>?_
     show upd _ c _ b=_
     rw[Zt (show b≠c from fun e=>hca (e▸hb))]
     exact q
    ·show upd _ c _ c=_
     rw[Zf,QM]
  ·rintro σ H' ⟨v,as,c,rfl,s1,hc,hpc,hca,hfr,hpa,hal,hcl,hL,hC⟩
   rw[Za,YM]at hcl hL hC
   rw[Za]at hal
   have ef:=Rl (sep:=sep) t [] []
   revert hcl hL hC ef
   generalize t.foldl (XH sep) ([],[])=st
   intro hcl hL hC ef
   refine⟨_,rfl,.inl ⟨rfl,_,SqL.of hL.at_⟩,_,rfl,p,_,_,rfl,rfl,hL.at_,(by rw[Za];exact Z3 (Zi hal hl) (by decide)),?_⟩
   refine⟨_,rfl,?_⟩
   refine k _ p (as++[c]) (s1.upd hp) hp ?_
   rw[VQ]at ef
   rw[<-ef]
   refine⟨?_,V8 (pimp hL.each fun b xs hb q=>?_) ?_⟩
   ·rw[Zf,Yw]
   ·show upd _ p _ b=_
    rw[Zt (show b≠p from fun e=>hpa (e▸hb))]
    exact q
   ·show upd _ p _ c=_
    rw[Zt hpc]
    exact hC
end
end Cp
end
section
namespace Cp
open PySem PySem.Spec PyProof.Rows L2 Ma
structure TxtP(K:PySem.W.Frag)(mg:Str->Option Value)(aSIGN aRULE cBox:Addr):Prop where
 n_len:mg "len"=none
 n_all:mg "all"=none
 n_min:mg "min"=none
 g_LINE_END:GV mg "LINE_END" (.int 10)
 g_BLANK:GV mg "BLANK" (.int 32)
 g_MINUS:GV mg "MINUS" (.int 45)
 g_ZERO:GV mg "ZERO" (.int 48)
 g_NINE:GV mg "NINE" (.int 57)
 g_SIGN:GV mg "SIGN" (.ref aSIGN)
 g_RULE:GV mg "RULE" (.ref aRULE)
 k_SIGN:∀H,SqL K H aSIGN (ZQ [115])
 k_RULE:∀H,SqL K H aRULE (ZQ [114])
 g_FARTHEST:GV mg "FARTHEST" (.int 1000000000)
 g_MOST_DIGITS:GV mg "MOST_DIGITS" (.int 10)
 g_MOST_MARKS:GV mg "MOST_MARKS" (.int 1000)
 g_LONGEST_NAME:GV mg "LONGEST_NAME" (.int 12)
 g_GREATEST_SIGN_SIZE:GV mg "GREATEST_SIGN_SIZE" (.int 2)
section
variable{P:Program}{w:World}{K:PySem.W.Frag}{mg:Str->Option Value}{base:Heap}{aSIGN aRULE cBox:Addr}
noncomputable abbrev SM:Stmt:=top 53
theorem scPlain:ZP ["digits","digit"] ["digits"] (Zh SM):=⟨rfl,rfl,rfl,by decide +kernel,rfl,by decide +kernel,by decide +kernel⟩
noncomputable def OV(K:PySem.W.Frag):Sp:=fun vs H Q _=>∃(a:Addr)(ds:List Int),vs=[.ref a]/\SqL K H a (ZQ ds)/\ds.length<=17000/\∀H',Same H H'->Q (.bl (Wy ds)) H'
theorem ok_plain{f:Addr}{fd:FuncData}(F:Fun K "are_plain_digits" "are_plain_digits" SM f fd)(T:TxtP K mg aSIGN aRULE cBox):FnOk P w K mg base CX0 1 f fd ["digits"] (OV K):=by
 refine F.ok scPlain (fun vs H Q E h=>?_) (fun cdv A outer s H vs Q E hr h=>?_)
 ·obtain⟨a,ds,rfl,_⟩:=h
  rfl
 ·obtain⟨a,ds,rfl,hS,hl,k⟩:=h
  have nd:=scPlain.nd
  refine⟨_,(Zk (Xm (Vh (US X7 X7 ZE (Yf Yn (by rfl) T.n_len Xz (Zb (pv 0) Zn)) (pe_g rfl T.g_MOST_DIGITS))) (Zr (ZN pe_bl)) Yy)
   (Zk (Xm (PW.pt (O4 (Yx UG (Xt YQ (pv 0) ZE (fun _ _=>rfl)) (pe_g rfl T.g_ZERO) (YU _)) (O3 (Yx Qy (Yf Yn (by rfl) T.n_len Xz (Zb (pv 0) Zn)) ZE (YU _))))) (Zr (ZN pe_bl)) Yy)
   (Zr (ZN (Yf (Lg rfl) (by rfl) T.n_all boot_all (Zb (X1 rfl nd (YN (pv 0)) (own:=[("digit",1)]) (Yr (by kernel_rfl)) (fun _ _ _ _ _=>(Z2 (i:=1) nd rfl (Or.inl rfl))) (fun _ _ _ _ _=>Y4) (fun _ _ _ _ _=>(Vt X7 X7 (pe_g rfl T.g_ZERO) (pv 1) (pe_g rfl T.g_NINE)))) Zn)))))),?_⟩
  have ret:∀{b:Bool}{H':Hp},Same H H'->Wy ds=b->Q (.bl b) H':=fun s1 e=>by rw[<-e];exact k _ s1
  refine⟨_,rfl,_,_,rfl,.inl hS,_,_,rfl,rfl,_,rfl,?_⟩
  rw[Za]
  refine ite2 (fun e1=>?_) (fun e1=>?_)
  ·refine⟨_,_,rfl,rfl,_,rfl,?_⟩
   have e1':1<=ds.length:=by simp at e1;omega
   refine ite2 (fun e2=>?_) (fun e2=>?_)
   ·refine ret (Same.refl H) ?_
    have e2':¬ds.length<=10:=by simp at e2;omega
    unfold Wy
    simp[e2']
   ·have e2':ds.length<=10:=by simp at e2;omega
    have last:∀D:Ends,D.rt=Q->¬(ds.head?=some 48/\1<ds.length)->tRet (tCB (rAll K) (Lu (tLc (iList K (tVar 0)) (VD 1) tYes (OP (rI0 fun i j=>V.bl (decide (i<=j))) (rI0 fun i j=>V.bl (decide (i<=j))) (tC (.int 48)) (tVar 1) (tC (.int 57))) [1]) tNil)) D [some (.ref a),none] H:=by
     intro D hD hn
     refine⟨_,rfl,a,rfl,⟨_,hS⟩,fun d hd=>QG (K:=K) (xs:=ZQ ds) (fun v=>match v with| .int z=>.bl (decide (48<=z)&&decide (z<=57))|_=>.bl false) hS (by rw[Za];exact Zi hl (by decide)) hd (fun _=>rfl) (fun i x H' R hx _ hR=>?_) ?_⟩
     ·obtain⟨z,hz,rfl⟩:=int_at hx
      refine⟨_,rfl,_,_,rfl,rfl,_,rfl,?_⟩
      refine ite2 (fun e=>⟨_,_,rfl,rfl,?_⟩) (fun e=>?_)
      ·have e':(48:Int)<=z:=by simpa using e
       simpa[e']using hR
      ·have e':¬(48:Int)<=z:=by simpa using e
       simpa[e']using hR
     ·refine⟨d,ds.map fun z=>decide (48<=z)&&decide (z<=57),rfl,SqL.of (by rw[Zf,Yg,Yg];rfl),?_⟩
      rw[hD]
      refine ret (Same.new hd) ?_
      unfold Wy
      have h1:decide (1<=ds.length)=true:=decide_eq_true e1'
      have h2:decide (ds.length<=10)=true:=decide_eq_true e2'
      have h3:(!(decide (ds.head?=some 48)&&decide (1<ds.length)))=true:=by
       rw[Xw,Vz,decide_eq_false_iff_not,decide_eq_false_iff_not]
       by_cases q:ds.head?=some 48
       ·exact .inr fun q2=>hn ⟨q,q2⟩
       ·exact .inl q
      rw[h1,h2,h3,List.all_map]
      rfl
    cases ds with
    |nil=>simp at e1'
    |cons d r=>
     refine⟨_,rfl,a,_,_,_,rfl,rfl,hS,Xu (j:=0) rfl rfl,rfl,_,rfl,?_⟩
     refine ite2 (fun e3=>?_) (fun e3=>iteF ?_)
     ·have e3':d=48:=by simpa using e3
      refine⟨_,rfl,_,_,rfl,.inl hS,_,_,rfl,rfl,_,rfl,?_⟩
      refine ite2 (fun e4=>?_) (fun e4=>?_)
      ·refine ret (Same.refl H) ?_
       have e4':0<r.length:=by simp at e4;omega
       unfold Wy
       simp[e3',e4']
      ·refine last _ rfl ?_
       rintro⟨_,q⟩
       simp at e4 q
       omega
     ·refine last _ rfl ?_
      rintro⟨q,_⟩
      have e3':¬d=48:=by simpa using e3
      exact e3' (by simpa using q)
  ·refine⟨_,rfl,iteT ?_⟩
   refine ret (Same.refl H) ?_
   have e1':¬1<=ds.length:=by simp at e1;omega
   unfold Wy
   rw[decide_eq_false e1']
   rfl
noncomputable def optV:Option Int->V
 |none=>.non
 |some n=>.int n
noncomputable abbrev sNum:Stmt:=top 52
theorem scNum:ZP ["field","is_below","digits","number","digit"] ["field"] (Zh sNum):=⟨rfl,rfl,rfl,by decide +kernel,rfl,by decide +kernel,by decide +kernel⟩
noncomputable def spNum(K:PySem.W.Frag):Sp:=fun vs H Q _=>∃(a:Addr)(fl:List Int),vs=[.ref a]/\SqL K H a (ZQ fl)/\fl.length<=17000/\∀H',Same H H'->Q (optV (numI fl)) H'
theorem KO(fl:List Int):cutV (ZQ fl) none (some 1)=ZQ (fl.take 1):=by
 unfold cutV
 have e:HT.sIx (ZQ fl).length (ZQ fl).length (some 1)=min 1 (ZQ fl).length:=HT.sIx_nat _ _ 1
 rw[HT.sIx_none,e,List.drop_zero]
 simp only[Za,ZQ]
 rw[<-List.map_take]
 congr 1
 cases fl<;>simp
theorem Vj(xs:List V):cutV xs (some 1) none=xs.drop 1:=by
 unfold cutV
 have e:HT.sIx xs.length 0 (some 1)=min 1 xs.length:=HT.sIx_nat _ _ 1
 rw[HT.sIx_none,e]
 cases xs<;>simp
theorem ifSlice{K:PySem.W.Frag}{a:Addr}{c:Bool}{i:Nat}{xs:List V}{σ:L2.St}{H0:Hp}{N:VK}(h1:σ[i]?=some (some (.bl c)))(h0:σ[0]?=some (some (.ref a)))(hS:SqL K H0 a xs)
  (h:∀d H',Same H0 H'->SqL K H' d (if c=true then xs.drop 1 else xs)->N (.ref d) H'):tIf (tB (tVar i)) (tSl (rSlL K) (tVar 0) (tPart (tC (.int 1))) Lr) (tVar 0) σ H0 N:=by
 refine⟨_,h1,_,rfl,?_⟩
 cases c with
 |true=>exact⟨_,h0,_,rfl,a,xs,rfl,hS,fun p hp=>h p _ (Same.new hp) (SqL.of (by rw[Zf,Vj];rfl))⟩
 |false=>exact⟨_,h0,h a H0 (Same.refl _) hS⟩
theorem ok_num{f:Addr}{fd:FuncData}(F:Fun K "number_of" "number_of" sNum f fd)(T:TxtP K mg aSIGN aRULE cBox)(C_are_plain_digits:Callee P w K mg base "are_plain_digits" 1 ["digits"] (OV K)):FnOk P w K mg base CX0 2 f fd ["field"] (spNum K):=by
 refine F.ok scNum (fun vs H Q E h=>?_) (fun cdv A outer s H vs Q E hr h=>?_)
 ·obtain⟨a,ds,rfl,_⟩:=h
  rfl
 ·obtain⟨a,fl,rfl,hS,hl,k⟩:=h
  have nd:=scNum.nd
  refine⟨_,(Zk (ZZ (i:=1) nd rfl (Or.inl rfl) (Vq (MS hr.units) (XD Wb (pv 0) Wc (XY ZE)) (Yp (Zb (pe_g rfl T.g_MINUS) Zn)) (YU _)))
   (Zk (ZZ (i:=2) nd rfl (Or.inl rfl) (Vs (Wj (pv 1)) (XD Wb (pv 0) (XY ZE) Wc) (pv 0)))
   (Zk (Xm (Vh (Wj (ZU C_are_plain_digits hr rfl (Zb (pv 2) Zn)))) (Zr (ZN Wk)) Yy)
   (Zk (ZZ (i:=3) nd rfl (Or.inl rfl) ZE)
   (Zk (VU YH rfl (YN (pv 2)) (Z2 (i:=4) nd rfl (Or.inl rfl))
   (Zr (ZZ (i:=3) nd rfl (Or.inl rfl) (Xf VA (Xf Vi (Xf O9 (pv 3) ZE) (pv 4)) (pe_g rfl T.g_ZERO)))))
   (Zk (Xm (PW.pt (Rz (Yx Qy (pv 3) (pe_g rfl T.g_FARTHEST) (YU _)) (UR (PW.pt (O4 (Wj (pv 1)) (O3 (Yx UG (pv 3) ZE (YU _)))))))) (Zr (ZN Wk)) Yy)
   (Zr (ZN (Vs (Wj (pv 1)) (pe_un un_neg (pv 3)) (pv 3)))))))))),?_⟩
  refine⟨_,rfl,_,rfl,a,_,rfl,hS,fun b1 h1=>⟨by decide,fun b2 h2=>⟨b1,b2,fl.take 1,[45],rfl,rfl,?_,SqL.of (by rw[Zf];rfl),?_⟩⟩⟩
  ·have hb:b2≠b1:=by intro e;subst e;rw[Zf]at h2;cases h2
   exact SqL.of (by rw[Zt (Yq hb),Zf];exact congrArg (fun q=>some (HO.lst q)) (KO fl))
  have s0:Same H (upd (upd H b1 (.lst (cutV (ZQ fl) none (some 1)))) b2 (.lst [.int 45])):=(Same.new h1).trans (Same.new h2)
  generalize (upd (upd H b1 (.lst (cutV (ZQ fl) none (some 1)))) b2 (.lst [.int 45]))=H0 at s0
  refine ifSlice (K:=K) (a:=a) (c:=decide (fl.take 1=[45])) (xs:=ZQ fl) rfl rfl (s0.seq hS) fun d H1 s1 hd=>?_
  obtain⟨ds,eds,hd,hdl⟩:∃ds,ds=(if fl.take 1=[45]then fl.drop 1 else fl)/\SqL K H1 d (ZQ ds)/\ds.length<=17000:=by
   refine⟨_,rfl,?_,?_⟩
   ·by_cases q:fl.take 1=[45]
    ·rw[if_pos q]
     rw[decide_eq_true q,if_pos rfl]at hd
     rw[ZQ,WM]
     exact hd
    ·rw[if_neg q]
     rw[decide_eq_false q,if_neg ZM]at hd
     exact hd
   ·by_cases q:fl.take 1=[45]
    ·rw[if_pos q,Z5];omega
    ·rw[if_neg q];exact hl
  have s1:Same H H1:=s0.trans s1
  have ret:∀{v:V}{H':Hp},Same H H'->optV (numI fl)=v->Q v H':=fun s1 e=>by rw[<-e];exact k _ s1
  have en:numI fl=if Wy ds=true then(if 1000000000<valI ds\/(fl.take 1=[45]/\valI ds=0)then none else some (if fl.take 1=[45]then -valI ds else valI ds))else none:=by
   unfold numI
   rw[<-eds]
  refine⟨_,rfl,d,ds,rfl,hd,hdl,fun H2 s12=>⟨_,rfl,?_⟩⟩
  have s2:Same H H2:=s1.trans s12
  refine ite2 (fun e1=>?_) (fun e1=>?_)
  ·refine ret s2 ?_
   rw[en,if_neg (by simpa using e1)]
   rfl
  ·have e1':Wy ds=true:=by simpa using e1
   rw[if_pos e1']at en
   have hd2:SqL K H2 d (ZQ ds):=s12.seq hd
   refine⟨_,rfl,d,rfl,⟨_,hd2⟩,V0 (K:=K) (a:=d) (xs:=ZQ ds) (fun i σ H'=>∃v,σ=[some (.ref a),some (.bl (decide (fl.take 1=[45]))),some (.ref d),some (.int (valI (ds.take i))),v]/\H'=H2)
    ⟨none,rfl,rfl⟩ (fun i σ H' _ ⟨_,_,e⟩=>by rw[e];exact hd2) ?_ ?_⟩
   ·rintro i y σ H' hi ⟨v,rfl,rfl⟩
    obtain⟨z,hz,rfl⟩:=int_at hi
    refine⟨_,rfl,_,_,rfl,rfl,.inr ⟨by decide,by decide⟩,_,rfl,_,_,rfl,rfl,_,_,rfl,rfl,some (.int z),?_,rfl⟩
    rw[take_snoc hz,Pj]
    rfl
   ·rintro σ H' ⟨v,rfl,rfl⟩
    rw[Za,YM]
    refine⟨_,rfl,_,_,rfl,rfl,_,rfl,?_⟩
    refine ite2 (fun e2=>iteT ?_) (fun e2=>?_)
    ·refine ret s2 ?_
     rw[en,if_pos (.inl (of_decide_eq_true e2))]
     rfl
    ·have e2':¬1000000000<valI ds:=by simpa using e2
     refine⟨_,rfl,_,rfl,?_⟩
     refine ite2 (fun e3=>?_) (fun e3=>iteF ?_)
     ·have e3':fl.take 1=[45]:=by simpa using e3
      refine⟨_,rfl,rfl,_,rfl,?_⟩
      refine ite2 (fun e4=>?_) (fun e4=>?_)
      ·refine ret s2 ?_
       rw[en,if_pos (.inr ⟨e3',by simpa using e4⟩)]
       rfl
      ·refine⟨_,rfl,_,rfl,ite2 (fun _=>?_) (fun q=>absurd e3 q)⟩
       refine⟨_,rfl,_,rfl,ret s2 ?_⟩
       rw[en,if_neg,if_pos e3']
       ·rfl
       ·rintro(q|q)
        ·exact e2' q
        ·exact e4 (by simpa using q.2)
     ·have e3':¬fl.take 1=[45]:=by simpa using e3
      refine⟨_,rfl,_,rfl,ite2 (fun q=>absurd q e3) (fun _=>?_)⟩
      refine⟨_,rfl,ret s2 ?_⟩
      rw[en,if_neg,if_neg e3']
      ·rfl
      ·rintro(q|q)
       ·exact e2' q
       ·exact e3' q.1
end
end Cp
end
section
namespace Cp
open PySem PySem.Spec PyProof.Rows L2 Ma
section
variable{P:Program}{w:World}{K:PySem.W.Frag}{mg:Str->Option Value}{base:Heap}{aSIGN aRULE cBox:Addr}
noncomputable def ResL(H H':Hp)(v:V):Option (List Int)->Prop
 |none=>v=.non
 |some ns=>∃p,v=.ref p/\H p=none/\LI H' p ns
theorem LF:∀fss:List (List Int),(W0 fss=none/\(fss.map fun f=>optV (numI f)).any Sr=true)\/∃ns,W0 fss=some ns/\(fss.map fun f=>optV (numI f)).any Sr=false/\(fss.map fun f=>optV (numI f))=ZQ ns
 |[]=>.inr ⟨[],rfl,rfl,rfl⟩
 |f::r=>by
  unfold W0
  rw[VX]
  cases e:numI f with
  |none=>exact .inl ⟨rfl,by rw[ZB,e,Yt];rfl⟩
  |some n=>
   rcases LF r with⟨h1,h2⟩|⟨ns,h1,h2,h3⟩
   ·unfold W0 at h1
    rw[h1]
    exact .inl ⟨rfl,by rw[ZB,Yt,h2,Bool.or_true]⟩
   ·unfold W0 at h1
    rw[h1]
    refine .inr ⟨n::ns,rfl,?_,?_⟩
    ·rw[ZB,Yt,h2,e];rfl
    ·rw[ZB,h3,e];rfl
theorem MV{K:PySem.W.Frag}{H:Hp}(o:Option Int):NoneOr K H (optV o):=by cases o<;>trivial
theorem RF{α β:Type}{f:α->β}{xs:List α}{ys:List β}(hl:ys.length=xs.length)(h:∀(i:Nat) y,ys[i]?=some y->∃x,xs[i]?=some x/\y=f x):ys=xs.map f:=by
 refine Ve fun i=>?_
 rw[ZA]
 cases e:ys[i]? with
 |none=>
  have:xs.length<=i:=by rw[<-hl];exact List.getElem?_eq_none_iff.mp e
  rw[Z7 this];rfl
 |some y=>
  obtain⟨x,hx,rfl⟩:=h i y e
  rw[hx];rfl
theorem Xr{as:List Addr}{i:Nat}{y:V}(h:(ZV as)[i]?=some y):∃z,as[i]?=some z/\y=.ref z:=by
 rw[ZA]at h
 cases e:as[i]? with
 |none=>rw[e]at h;cases h
 |some z=>rw[e]at h;exact⟨z,rfl,(ZC h).symm⟩
noncomputable abbrev Flds(K:PySem.W.Frag)(H:Hp)(as:List Addr)(fss:List (List Int)):Prop:=Paired (fun b xs=>SqL K H b (ZQ xs)) as fss
theorem Flds.same{K:PySem.W.Frag}{H H':Hp}{as:List Addr}{fss:List (List Int)}(h:Flds K H as fss)(s:Same H H'):Flds K H' as fss:=pimp h fun _ _ _ q=>s.seq q
theorem LL.flds{K:PySem.W.Frag}{H:Hp}{a:Addr}{as:List Addr}{fss:List (List Int)}(h:LL H a as fss):Flds K H as fss:=pimp h.each fun _ _ _ q=>SqL.of q
noncomputable abbrev PY:Stmt:=top 51
theorem scNums:ZP ["fields","numbers","field"] ["fields"] (Zh PY):=⟨rfl,rfl,rfl,by decide +kernel,rfl,by decide +kernel,by decide +kernel⟩
noncomputable def Qm(K:PySem.W.Frag):Sp:=fun vs H Q _=>∃(a:Addr)(as:List Addr)(fss:List (List Int)),vs=[.ref a]/\SqL K H a (ZV as)/\Flds K H as fss/\as.length<=17001/\(∀f∈fss,f.length<=17000)/\
 ∀H' v,Same H H'->ResL H H' v (W0 fss)->Q v H'
theorem ok_nums{f:Addr}{fd:FuncData}(F:Fun K "numbers_of" "numbers_of" PY f fd)(C_number_of:Callee P w K mg base "number_of" 2 ["field"] (spNum K)):FnOk P w K mg base CX0 3 f fd ["fields"] (Qm K):=by
 refine F.ok scNums (fun vs H Q E h=>?_) (fun cdv A outer s H vs Q E hr h=>?_)
 ·obtain⟨a,as,fss,rfl,_⟩:=h
  rfl
 ·obtain⟨a,as,fss,rfl,hS,hF,hl,hfl,k⟩:=h
  have nd:=scNums.nd
  have hlen:as.length=fss.length:=Zy hF
  refine⟨_,(Zk (Sk (i:=1) rfl nd rfl rfl (RP rfl rfl rfl rfl) (YN (pv 0)) (own:=[("field",2)]) (Yr (by kernel_rfl)) (fun _ _ _ _ _=>(Z2 (i:=2) nd rfl (Or.inl rfl))) (fun _ _ _ _ _=>Y4) (fun _ _ _ _ _=>(ZU C_number_of hr rfl (Zb (pv 2) Zn))))
   (Zr (ZN (Vs (Yx (Rc hr.units) Wk (pv 1) (by with_unfolding_all rfl)) Wk (pv 1))))),?_⟩
  refine⟨_,rfl,a,rfl,⟨_,hS⟩,fun D hD=>Ng (K:=K) (xs:=ZV as) (fun i y _=>∃f,fss[i]?=some f/\y=optV (numI f)) hS (by rw[Za];exact Zi hl (by decide)) hD (fun _=>rfl)
   (fun _ _ _ _ h=>h) (fun _ _ _ _ h _=>h) (fun i x H' R hx s1 _ hR=>?_) (fun ys H' hyl s1 hy he=>?_)⟩
  ·obtain⟨b,hb,rfl⟩:=Xr hx
   obtain⟨fl,hf,hq⟩:=Z4 hF hb
   exact⟨_,rfl,b,fl,rfl,s1.seq hq,hfl fl (Zp hf),fun H'' s2=>hR _ _ s2 ⟨fl,hf,rfl⟩⟩
  ·rw[Za]at hyl
   have ey:ys=fss.map fun f=>optV (numI f):=RF (by omega) he
   refine⟨_,rfl,rfl,D,ys,rfl,SqL.of hy,?_,_,rfl,?_⟩
   ·intro v hv
    rw[ey]at hv
    obtain⟨f,_,rfl⟩:=ZS.mp hv
    exact MV _
   ·rcases LF fss with⟨h1,h2⟩|⟨ns,h1,h2,h3⟩
    ·rw[ey,h2]
     refine iteT (k _ _ s1 ?_)
     rw[h1];rfl
    ·rw[ey,h2]
     refine iteF ⟨_,rfl,k _ _ s1 ?_⟩
     rw[h1]
     exact⟨D,rfl,hD,by show H' D=_;rw[hy,ey,h3]⟩
end
end Cp
end
section
namespace Cp
open PySem PySem.Spec PyProof.Rows L2 Ma
section
variable{P:Program}{w:World}{K:PySem.W.Frag}{mg:Str->Option Value}{base:Heap}{aSIGN aRULE cBox:Addr}
noncomputable abbrev VP:Stmt:=top 50
theorem MN:ZP ["field","byte"] ["field"] (Zh VP):=⟨rfl,rfl,rfl,by decide +kernel,rfl,by decide +kernel,by decide +kernel⟩
noncomputable def TX(K:PySem.W.Frag):Sp:=fun vs H Q _=>∃(a:Addr)(fl:List Int),vs=[.ref a]/\SqL K H a (ZQ fl)/\fl.length<=17000/\∀H',Same H H'->Q (.bl (XO fl)) H'
theorem NV{f:Addr}{fd:FuncData}(F:Fun K "is_sign_name" "is_sign_name" VP f fd)(T:TxtP K mg aSIGN aRULE cBox):FnOk P w K mg base CX0 1 f fd ["field"] (TX K):=by
 refine F.ok MN (fun vs H Q E h=>?_) (fun cdv A outer s H vs Q E hr h=>?_)
 ·obtain⟨a,ds,rfl,_⟩:=h
  rfl
 ·obtain⟨a,fl,rfl,hS,hl,k⟩:=h
  have nd:=MN.nd
  refine⟨_,(Zk (Xm (Yx UG (Yf Yn (by rfl) T.n_len Xz (Zb (pv 0) Zn)) ZE (YU _)) (Zr (ZN (Vt X7 X7 ZE (Xt YQ (pv 0) ZE (fun _ _=>rfl)) ZE))) Yy)
   (Zr (ZN (S9 (Vt X7 X7 ZE (Yf Yn (by rfl) T.n_len Xz (Zb (pv 0) Zn)) (pe_g rfl T.g_LONGEST_NAME)) (S8 (Yf (Lg rfl) (by rfl) T.n_all boot_all (Zb (X1 rfl nd (YN (pv 0)) (own:=[("byte",1)]) (Yr (by kernel_rfl)) (fun _ _ _ _ _=>(Z2 (i:=1) nd rfl (Or.inl rfl))) (fun _ _ _ _ _=>Y4) (fun _ _ _ _ _=>(Vt X7 X7 ZE (pv 1) ZE))) Zn))))))),?_⟩
  have ret:∀(b:Bool)(H':Hp),Same H H'->XO fl=b->Q (.bl b) H':=fun b H' s1 e=>by rw[<-e];exact k _ s1
  refine⟨_,rfl,_,_,rfl,.inl hS,rfl,_,rfl,?_⟩
  rw[Za]
  refine ite2 (fun e1=>?_) (fun e1=>?_)
  ·match fl,e1,hS,ret with
   |[],e1,_,_=>simp at e1
   |[c],_,hS,ret=>
    refine⟨_,rfl,a,_,_,_,rfl,rfl,hS,Xu (j:=0) rfl rfl,_,_,rfl,rfl,_,rfl,?_⟩
    refine ite2 (fun e=>⟨_,_,rfl,rfl,ret _ _ (Same.refl H) ?_⟩) (fun e=>ret _ _ (Same.refl H) ?_)
    ·have e':(33:Int)<=c:=by simpa using e
     simp[XO,e']
    ·have e':¬(33:Int)<=c:=by simpa using e
     simp[XO,e']
   |_::_::_,e1,_,_=>simp at e1;omega
  ·have e1':¬fl.length=1:=by simp at e1;omega
   have en:XO fl=(decide (2<=fl.length)&&decide (fl.length<=12)&&fl.all Uu):=by
    match fl,e1' with
    |[],_=>rfl
    |[_],e=>simp at e
    |_::_::_,_=>rfl
   refine⟨_,rfl,_,_,rfl,.inl hS,_,_,rfl,rfl,_,rfl,?_⟩
   rw[Za]
   refine ite2 (fun e2=>?_) (fun e2=>?_)
   ·have e2':2<=fl.length:=by simp at e2;omega
    refine⟨_,_,rfl,rfl,_,rfl,?_⟩
    refine ite2 (fun e3=>?_) (fun e3=>?_)
    ·have e3':fl.length<=12:=by simp at e3;omega
     refine⟨_,rfl,a,rfl,⟨_,hS⟩,fun d hd=>QG (K:=K) (xs:=ZQ fl) (fun v=>match v with| .int z=>.bl (Uu z)|_=>.bl false) hS (by rw[Za];exact Zi hl (by decide)) hd (fun _=>rfl) (fun i x H' R hx _ hR=>?_) ?_⟩
     ·obtain⟨z,hz,rfl⟩:=int_at hx
      refine⟨_,rfl,_,_,rfl,rfl,_,rfl,?_⟩
      refine ite2 (fun e=>⟨_,_,rfl,rfl,?_⟩) (fun e=>?_)
      ·have e':(97:Int)<=z:=by simpa using e
       simpa[Uu,e']using hR
      ·have e':¬(97:Int)<=z:=by simpa using e
       simpa[Uu,e']using hR
     ·refine⟨d,fl.map Uu,rfl,SqL.of (by rw[Zf,Yg,Yg];rfl),ret _ _ (Same.new hd) ?_⟩
      rw[en,decide_eq_true e2',decide_eq_true e3',List.all_map]
      rfl
    ·refine ret _ _ (Same.refl H) ?_
     have e3':¬fl.length<=12:=by simp at e3;omega
     rw[en,decide_eq_false e3']
     simp
   ·refine⟨_,rfl,iteF (ret _ _ (Same.refl H) ?_)⟩
    have e2':¬2<=fl.length:=by simp at e2;omega
    rw[en,decide_eq_false e2']
    rfl
theorem YG{x:Str}{v:V}{fs:List (Str×V)}{n:Nat}(h:fs.length<=n):(putF x v fs).length<=n+1:=Zi (UZ x v fs) (Nat.succ_le_succ h)
theorem Wx{fs:List (Str×V)}{n:Nat}(h:fs.length<=n)(hn:n<1000:=by decide):fs.length<1000:=Z3 h hn
noncomputable def boxF(b:Vamate.Box):List (Str×V):=putF "high" (.int b.high) (putF "right" (.int b.right) (putF "low" (.int b.low) (putF "left" (.int b.left) [])))
structure TxtB(K:PySem.W.Frag)(cBox:Addr):Prop where
 cl:Cls K cBox
 n_left:X9 K cBox "left"
 n_low:X9 K cBox "low"
 n_right:X9 K cBox "right"
 n_high:X9 K cBox "high"
 eqc:EqC K cBox
noncomputable abbrev P8:Stmt:=XG (top 44) 0
theorem scBoxI:ZP ["self","left","low","right","high"] ["self","left","low","right","high"] (Zh P8):=⟨rfl,rfl,rfl,by decide +kernel,rfl,by decide +kernel,by decide +kernel⟩
noncomputable def OY(C:Addr):Sp:=fun vs H Q _=>∃(p dx:Addr)(b:Vamate.Box),vs=[.ref p,.int b.left,.int b.low,.int b.right,.int b.high]/\H p=some (.ins C dx [])/\
 ∀H':Hp,H' p=some (.ins C dx (boxF b))->(∀c o,H c=some o->c≠p->H' c=some o)->Q .non H'
theorem ok_boxI{f:Addr}{fd:FuncData}(F:Fun K "__init__" "Box.__init__" P8 f fd)(B:TxtB K cBox):FnOk P w K mg base CX0 1 f fd ["self","left","low","right","high"] (OY cBox):=by
 refine F.ok scBoxI (fun vs H Q E h=>?_) (fun cdv A outer s H vs Q E hr h=>?_)
 ·obtain⟨p,dx,b,rfl,_⟩:=h
  rfl
 ·obtain⟨p,dx,b,rfl,hp,k⟩:=h
  refine⟨_,(Zk (WR (pv 0) (pv 1) rfl)
   (Zk (WR (pv 0) (pv 2) rfl)
   (Zk (WR (pv 0) (pv 3) rfl)
   (Zr (WR (pv 0) (pv 4) rfl))))),?_⟩
  refine⟨_,rfl,_,rfl,p,cBox,dx,_,rfl,hp,B.cl,B.n_left,Wx (n:=0) (Zl _),?_⟩
  refine⟨_,rfl,_,rfl,p,cBox,dx,_,rfl,Zf,B.cl,B.n_low,Wx (YG (n:=0) (Zl _)),?_⟩
  refine⟨_,rfl,_,rfl,p,cBox,dx,_,rfl,Zf,B.cl,B.n_right,Wx (YG (YG (n:=0) (Zl _))),?_⟩
  refine⟨_,rfl,_,rfl,p,cBox,dx,_,rfl,Zf,B.cl,B.n_high,Wx (YG (YG (YG (n:=0) (Zl _)))),?_⟩
  exact k _ Zf fun c o e hc=>by rw[Zt hc,Zt hc,Zt hc,Zt hc];exact e
noncomputable def ResB(C:Addr)(H H':Hp)(v:V):Option Vamate.Box->Prop
 |none=>v=.non
 |some b=>∃p dx,v=.ref p/\H p=none/\H' p=some (.ins C dx (boxF b))
end
end Cp
end
section
namespace Cp
open PySem PySem.Spec PyProof.Rows L2 Ma
section
variable{P:Program}{w:World}{K:PySem.W.Frag}{mg:Str->Option Value}{base:Heap}{aSIGN aRULE cBox:Addr}
theorem QZ(xs:List V)(n:Nat):cutV xs (some (n:Int)) none=xs.drop n:=by
 unfold cutV
 rw[HT.sIx_none,HT.sIx_nat]
 by_cases h:n<=xs.length
 ·rw[Nat.min_eq_left h,Ya (by rw[Z5];exact Zl _)]
 ·have h':xs.length<=n:=by omega
  rw[Nat.min_eq_right h',List.drop_of_length_le h',List.drop_of_length_le (Zl _),List.take_nil]
theorem cut_to(xs:List V)(n:Nat):cutV xs none (some (n:Int))=xs.take n:=by
 unfold cutV
 rw[HT.sIx_none,HT.sIx_nat,List.drop_zero,Nat.sub_zero]
 by_cases h:n<=xs.length
 ·rw[Nat.min_eq_left h]
 ·have h':xs.length<=n:=by omega
  rw[Nat.min_eq_right h',Ya h',Ya (Zl _)]
noncomputable abbrev PR:Stmt:=top 49
theorem scRule:ZP ["fields","numbers","x","y"] ["fields"] (Zh PR):=⟨rfl,rfl,rfl,by decide +kernel,rfl,by decide +kernel,by decide +kernel⟩
noncomputable def ME(K:PySem.W.Frag)(C:Addr):Sp:=fun vs H Q _=>∃(a:Addr)(as:List Addr)(fss:List (List Int)),vs=[.ref a]/\SqL K H a (ZV as)/\Flds K H as fss/\as.length<=17001/\(∀f∈fss,f.length<=17000)/\
 ∀H' v,Same H H'->ResB C H H' v (TD fss)->Q v H'
theorem ok_rule{f:Addr}{fd:FuncData}(F:Fun K "rule_box" "rule_box" PR f fd)(T:TxtP K mg aSIGN aRULE cBox)(C_numbers_of:Callee P w K mg base "numbers_of" 3 ["fields"] (Qm K))
  (C_Box:ON P w K mg base "Box" cBox 1 ["self","left","low","right","high"] (OY cBox)):FnOk P w K mg base CX0 4 f fd ["fields"] (ME K cBox):=by
 refine F.ok scRule (fun vs H Q E h=>?_) (fun cdv A outer s H vs Q E hr h=>?_)
 ·obtain⟨a,as,fss,rfl,_⟩:=h
  rfl
 ·obtain⟨a,as,fss,rfl,hS,hF,hl,hfl,k⟩:=h
  have nd:=scRule.nd
  refine⟨_,(Zk (ZZ (i:=1) nd rfl (Or.inl rfl) (ZU C_numbers_of hr rfl (Zb (pv 0) Zn)))
   (Zk (Xm (PW.pt (Rz (TY (Qx (pv 1))) (UR (Yx LG (Yf Yn (by rfl) T.n_len Xz (Zb (pv 1) Zn)) ZE (YU _))))) (Zr (ZN Wk)) Yy)
   (Zk (Xm (PW.pt (Rz (Yx TH (Xt YQ (pv 1) ZE (fun _ _=>rfl)) ZE (YU _)) (UR (Yx TH (Yf (Lf rfl) (by rfl) T.n_min boot_min (Zb (XD Wb (pv 1) (XY ZE) Wc) Zn)) ZE (YU _))))) (Zr (ZN Wk)) Yy)
   (Zk (ZZ (i:=2) nd rfl (Or.inl rfl) (Xt YQ (pv 1) ZE (fun _ _=>rfl)))
   (Zk (ZZ (i:=3) nd rfl (Or.inl rfl) (Xt YQ (pv 1) ZE (fun _ _=>rfl)))
   (Zr (ZN (Qw C_Box hr rfl (Zb (pv 2) (Zb (pv 3) (Zb (Xf Vi (pv 2) (Xt YQ (pv 1) ZE (fun _ _=>rfl))) (Zb (Xf Vi (pv 3) (Xt YQ (pv 1) ZE (fun _ _=>rfl))) Zn)))))))))))),?_⟩
  refine⟨_,rfl,a,as,fss,rfl,hS,hF,hl,hfl,fun H1 v s1 hres=>?_⟩
  have no:∀H',Same H H'->TD fss=none->Q .non H':=fun H' s e=>k _ _ s (by rw[e];rfl)
  cases en:W0 fss with
  |none=>
   rw[en]at hres
   have hres:v=.non:=hres
   subst hres
   refine⟨_,rfl,_,rfl,ite2 (fun _=>iteT (no _ s1 ?_)) (fun q=>(q (decide_eq_true rfl)).elim)⟩
   unfold TD
   rw[en]
  |some ns=>
   rw[en]at hres
   obtain⟨p,rfl,hpn,hp⟩:=hres
   refine⟨_,rfl,_,rfl,ite2 (fun q=>by simp at q) (fun _=>?_)⟩
   refine⟨_,rfl,_,_,rfl,.inl (SqL.of hp),rfl,_,rfl,ite2 (fun q=>?_) (fun q=>?_)⟩
   ·refine no _ s1 ?_
    unfold TD
    rw[en]
    match ns,q with
    |[_,_,_,_,_],q=>simp at q
    |[],_=>rfl
    |[_],_=>rfl
    |[_,_],_=>rfl
    |[_,_,_],_=>rfl
    |[_,_,_,_],_=>rfl
    |_::_::_::_::_::_::_,_=>rfl
   ·obtain⟨n,x,y,w',h',rfl⟩:∃n x y w' h',ns=[n,x,y,w',h']:=by
     match ns,q with
     |[n,x,y,w',h'],_=>exact⟨n,x,y,w',h',rfl⟩
     |[],q=>simp at q
     |[_],q=>simp at q
     |[_,_],q=>simp at q
     |[_,_,_],q=>simp at q
     |[_,_,_,_],q=>simp at q
     |_::_::_::_::_::_::_,q=>simp at q;omega
    have er:TD fss=if 0<=n/\0<=w'/\0<=h' then some {left:=x,low:=y,right:=x+w',high:=y+h'}else none:=by
     unfold TD
     rw[en]
    refine⟨_,rfl,p,_,_,_,rfl,rfl,SqL.of hp,Xu (j:=0) rfl rfl,_,_,rfl,rfl,_,rfl,ite2 (fun q=>iteT ?_) (fun q=>?_)⟩
    ·have q':n<0:=by simpa using q
     exact no _ s1 (by rw[er,if_neg (by omega)])
    ·have q':¬n<0:=by simpa using q
     refine⟨_,rfl,_,rfl,p,_,rfl,SqL.of hp,fun c hc=>⟨c,[w',h'],rfl,SqL.of (by rw[Zf];exact congrArg (fun q=>some (HO.lst q)) (QZ _ 3)),by simp,fun m hm hle=>⟨_,_,rfl,rfl,_,rfl,?_⟩⟩⟩
     have s2:Same H1 (upd H1 c (.lst (cutV (ZQ [n,x,y,w',h']) (some 3) none))):=Same.new hc
     revert s2
     generalize upd H1 c (.lst (cutV (ZQ [n,x,y,w',h']) (some 3) none))=H2
     intro s2
     have hp2:=s2 _ _ hp
     have hm2:m=w'\/m=h':=by simpa using hm
     have hw:=hle w' (by simp)
     have hh:=hle h' (by simp)
     refine ite2 (fun q2=>?_) (fun q2=>?_)
     ·have q2':m<0:=by simpa using q2
      exact no _ (s1.trans s2) (by rw[er,if_neg (by omega)])
     ·have q2':¬m<0:=by simpa using q2
      rw[if_pos (by omega)]at er
      refine⟨_,rfl,p,_,_,_,rfl,rfl,SqL.of hp2,Xu (j:=1) rfl rfl,?_⟩
      refine⟨_,rfl,p,_,_,_,rfl,rfl,SqL.of hp2,Xu (j:=2) rfl rfl,?_⟩
      refine⟨_,rfl,_,rfl,_,rfl,_,rfl,p,_,_,_,rfl,rfl,SqL.of hp2,Xu (j:=3) rfl rfl,_,_,rfl,rfl,_,rfl,_,rfl,p,_,_,_,rfl,rfl,SqL.of hp2,Xu (j:=4) rfl rfl,_,_,rfl,rfl,?_⟩
      intro bx dx nx ndx hne
      refine⟨bx,dx,{left:=x,low:=y,right:=x+w',high:=y+h'},rfl,Zf,fun H' hb hk=>⟨rfl,?_⟩⟩
      have s3:Same H2 H':=Same.made nx ndx hk
      refine k _ _ ((s1.trans s2).trans s3) ?_
      rw[er]
      exact⟨bx,dx,rfl,(s1.trans s2).free nx,hb⟩
noncomputable abbrev PN:Stmt:=top 48
theorem scSign:ZP ["fields","numbers","x","y"] ["fields"] (Zh PN):=⟨rfl,rfl,rfl,by decide +kernel,rfl,by decide +kernel,by decide +kernel⟩
noncomputable def MC(K:PySem.W.Frag)(C:Addr):Sp:=fun vs H Q _=>∃(a:Addr)(as:List Addr)(fss:List (List Int)),vs=[.ref a]/\SqL K H a (ZV as)/\Flds K H as fss/\as.length<=17001/\(∀f∈fss,f.length<=17000)/\
 ∀H' v,Same H H'->ResB C H H' v (UF fss)->Q v H'
theorem sign_len{fss:List (List Int)}(h:¬fss.length=9):UF fss=none:=by
 cases fss with
 |nil=>rfl
 |cons f r=>
  unfold UF
  simp only
  by_cases q:XO f=true
  ·rw[if_pos q]
   split
   ·rename_i s n p x y w hh d e
    have:=UX e
    simp at this h
    omega
   ·rfl
  ·rw[if_neg q]
theorem eight{ns:List Int}(h:ns.length=8):∃s n p x y w h d,ns=[s,n,p,x,y,w,h,d]:=by
 match ns,h with
 |[s,n,p,x,y,w,h,d],_=>exact⟨s,n,p,x,y,w,h,d,rfl⟩
theorem ok_sign{f:Addr}{fd:FuncData}(F:Fun K "sign_box" "sign_box" PN f fd)(T:TxtP K mg aSIGN aRULE cBox)(C_is_sign_name:Callee P w K mg base "is_sign_name" 1 ["field"] (TX K))
  (C_numbers_of:Callee P w K mg base "numbers_of" 3 ["fields"] (Qm K))
  (C_Box:ON P w K mg base "Box" cBox 1 ["self","left","low","right","high"] (OY cBox)):FnOk P w K mg base CX0 4 f fd ["fields"] (MC K cBox):=by
 refine F.ok scSign (fun vs H Q E h=>?_) (fun cdv A outer s H vs Q E hr h=>?_)
 ·obtain⟨a,as,fss,rfl,_⟩:=h
  rfl
 ·obtain⟨a,as,fss,rfl,hS,hF,hl,hfl,k⟩:=h
  have nd:=scSign.nd
  have hlen:as.length=fss.length:=Zy hF
  refine⟨_,(Zk (Xm (PW.pt (Rz (Yx LG (Yf Yn (by rfl) T.n_len Xz (Zb (pv 0) Zn)) ZE (YU _)) (UR (Vh (Wj (ZU C_is_sign_name hr rfl (Zb (Xt YQ (pv 0) ZE (fun _ _=>rfl)) Zn))))))) (Zr (ZN Wk)) Yy)
   (Zk (ZZ (i:=1) nd rfl (Or.inl rfl) (ZU C_numbers_of hr rfl (Zb (XD Wb (pv 0) (XY ZE) Wc) Zn)))
   (Zk (Xm (PW.pt (Rz (TY (Qx (pv 1))) (UR (Yx Qy (Xt YQ (pv 1) ZE (fun _ _=>rfl)) (pe_g rfl T.g_GREATEST_SIGN_SIZE) (YU _))))) (Zr (ZN Wk)) Yy)
   (Zk (Xm (PW.pt (Rz (Yx TH (Yf (Lf rfl) (by rfl) T.n_min boot_min (Zb (XD Wb (pv 1) Wc (XY ZE)) Zn)) ZE (YU _)) (UR (Yx TH (Yf (Lf rfl) (by rfl) T.n_min boot_min (Zb (XD Wb (pv 1) (XY ZE) Wc) Zn)) ZE (YU _))))) (Zr (ZN Wk)) Yy)
   (Zk (ZZ (i:=2) nd rfl (Or.inl rfl) (Xt YQ (pv 1) ZE (fun _ _=>rfl)))
   (Zk (ZZ (i:=3) nd rfl (Or.inl rfl) (Xt YQ (pv 1) ZE (fun _ _=>rfl)))
   (Zr (ZN (Qw C_Box hr rfl (Zb (pv 2) (Zb (Xf VA (pv 3) (Xt YQ (pv 1) ZE (fun _ _=>rfl))) (Zb (Xf Vi (pv 2) (Xt YQ (pv 1) ZE (fun _ _=>rfl))) (Zb (Xf Vi (pv 3) (Xt YQ (pv 1) ZE (fun _ _=>rfl))) Zn))))))))))))),?_⟩
  have no:∀H',Same H H'->UF fss=none->Q .non H':=fun H' s e=>k _ _ s (by rw[e];rfl)
  refine⟨_,rfl,_,_,rfl,.inl hS,rfl,_,rfl,ite2 (fun q=>iteT (no _ (Same.refl H) (sign_len ?_))) (fun q=>?_)⟩
  ·simp at q;omega
  have h9:fss.length=9:=by simp at q;omega
  cases hF with
  |nil=>simp at h9
  |@cons b nm as' fr hb hF=>
   simp at h9 hlen
   refine⟨_,rfl,a,_,_,_,rfl,rfl,hS,Xu (j:=0) rfl rfl,b,nm,rfl,hb,hfl nm (by simp),fun H1 s1=>⟨_,rfl,ite2 (fun q=>?_) (fun q=>?_)⟩⟩
   ·have q':¬XO nm=true:=by simpa using q
    refine no _ s1 ?_
    unfold UF
    simp only
    rw[if_neg q']
   ·have q':XO nm=true:=by simpa using q
    have es:UF (nm::fr)=(match W0 fr with
      |some [s,n,p,x,y,w,h,d]=>if 0<=s/\s<=2/\0<=n/\0<=p/\0<=w/\0<=h/\0<=d then some {left:=x,low:=y-d,right:=x+w,high:=y+h}else none
      |_=>none):=by
     conv=>lhs;unfold UF
     simp only
     rw[if_pos q']
     all_goals rfl
    refine⟨_,rfl,_,rfl,a,_,rfl,s1.seq hS,fun c hc=>?_⟩
    have e1:cutV (ZV (b::as')) (some 1) none=ZV as':=Vj _
    rw[e1]
    have s2:Same H (upd H1 c (.lst (ZV as'))):=s1.trans (Same.new hc)
    have hc2:(upd H1 c (.lst (ZV as'))) c=some (.lst (ZV as')):=Zf
    revert s2 hc2
    generalize upd H1 c (.lst (ZV as'))=H2
    intro s2 hc2
    refine⟨c,as',fr,rfl,SqL.of hc2,Flds.same hF s2,by simp at hl;omega,fun f hf=>hfl f (Ze _ hf),fun H3 v s3 hres=>?_⟩
    have s3:Same H H3:=s2.trans s3
    cases en:W0 fr with
    |none=>
     rw[en]at hres es
     have hres:v=.non:=hres
     subst hres
     exact⟨_,rfl,_,rfl,ite2 (fun _=>iteT (no _ s3 es)) (fun q=>(q (decide_eq_true rfl)).elim)⟩
    |some ns=>
     rw[en]at hres es
     obtain⟨p,rfl,hpn,hp⟩:=hres
     obtain⟨sz,n,pc,x,y,w',h',d,rfl⟩:=eight (ns:=ns) (by have:=UX en;omega)
     simp only at es
     refine⟨_,rfl,_,rfl,ite2 (fun q=>by simp at q) (fun _=>?_)⟩
     refine⟨_,rfl,p,_,_,_,rfl,rfl,SqL.of hp,Xu (j:=0) rfl rfl,_,_,rfl,rfl,_,rfl,ite2 (fun q=>?_) (fun q=>?_)⟩
     ·have q2:2<sz:=by simpa using q
      exact no _ s3 (by rw[es,if_neg (by omega)])
     have q2:¬2<sz:=by simpa using q
     refine⟨_,rfl,_,rfl,p,_,rfl,SqL.of hp,fun c1 hc1=>⟨c1,[sz,n,pc],rfl,SqL.of (by rw[Zf];exact congrArg (fun q=>some (HO.lst q)) (cut_to _ 3)),by simp,fun m hm hle=>⟨_,_,rfl,rfl,_,rfl,?_⟩⟩⟩
     have s4:Same H3 (upd H3 c1 (.lst (cutV (ZQ [sz,n,pc,x,y,w',h',d]) none (some 3)))):=Same.new hc1
     revert s4
     generalize upd H3 c1 (.lst (cutV (ZQ [sz,n,pc,x,y,w',h',d]) none (some 3)))=H4
     intro s4
     have hp4:=s4 _ _ hp
     have s4:Same H H4:=s3.trans s4
     have hm1:m=sz\/m=n\/m=pc:=by simpa using hm
     have g1:=hle sz (by simp)
     have g2:=hle n (by simp)
     have g3:=hle pc (by simp)
     refine ite2 (fun q=>iteT ?_) (fun q=>?_)
     ·have q3:m<0:=by simpa using q
      exact no _ s4 (by rw[es,if_neg (by omega)])
     have q3:¬m<0:=by simpa using q
     refine⟨_,rfl,_,rfl,p,_,rfl,SqL.of hp4,fun c2 hc2=>⟨c2,[w',h',d],rfl,SqL.of (by rw[Zf];exact congrArg (fun q=>some (HO.lst q)) (QZ _ 5)),by simp,fun m2 hm2 hle2=>⟨_,_,rfl,rfl,_,rfl,?_⟩⟩⟩
     have s5:Same H4 (upd H4 c2 (.lst (cutV (ZQ [sz,n,pc,x,y,w',h',d]) (some 5) none))):=Same.new hc2
     revert s5
     generalize upd H4 c2 (.lst (cutV (ZQ [sz,n,pc,x,y,w',h',d]) (some 5) none))=H5
     intro s5
     have hp5:=s5 _ _ hp4
     have s5:Same H H5:=s4.trans s5
     have hm3:m2=w'\/m2=h'\/m2=d:=by simpa using hm2
     have g4:=hle2 w' (by simp)
     have g5:=hle2 h' (by simp)
     have g6:=hle2 d (by simp)
     refine ite2 (fun q=>?_) (fun q=>?_)
     ·have q4:m2<0:=by simpa using q
      exact no _ s5 (by rw[es,if_neg (by omega)])
     have q4:¬m2<0:=by simpa using q
     rw[if_pos (by omega)]at es
     refine⟨_,rfl,p,_,_,_,rfl,rfl,SqL.of hp5,Xu (j:=3) rfl rfl,?_⟩
     refine⟨_,rfl,p,_,_,_,rfl,rfl,SqL.of hp5,Xu (j:=4) rfl rfl,?_⟩
     refine⟨_,rfl,_,rfl,_,rfl,p,_,_,_,rfl,rfl,SqL.of hp5,Xu (j:=7) rfl rfl,_,_,rfl,rfl,_,rfl,_,rfl,p,_,_,_,rfl,rfl,SqL.of hp5,Xu (j:=5) rfl rfl,_,_,rfl,rfl,
      _,rfl,_,rfl,p,_,_,_,rfl,rfl,SqL.of hp5,Xu (j:=6) rfl rfl,_,_,rfl,rfl,?_⟩
     intro bx dx nx ndx hne
     refine⟨bx,dx,{left:=x,low:=y-d,right:=x+w',high:=y+h'},rfl,Zf,fun H' hb hk=>⟨rfl,?_⟩⟩
     have s6:Same H5 H':=Same.made nx ndx hk
     refine k _ _ (s5.trans s6) ?_
     rw[es]
     exact⟨bx,dx,rfl,s5.free nx,hb⟩
end
end Cp
end
section
namespace Cp
open PySem PySem.Spec PyProof.Rows L2 Ma
section
variable{P:Program}{w:World}{K:PySem.W.Frag}{mg:Str->Option Value}{base:Heap}{aSIGN aRULE cBox:Addr}
noncomputable abbrev SR:Stmt:=top 46
theorem scFirst:ZP ["line","numbers"] ["line"] (Zh SR):=⟨rfl,rfl,rfl,by decide +kernel,rfl,by decide +kernel,by decide +kernel⟩
noncomputable def OX(K:PySem.W.Frag):Sp:=fun vs H Q _=>∃(a:Addr)(l:List Int),vs=[.ref a]/\SqL K H a (ZQ l)/\l.length<=17000/\∀H',Same H H'->Q (.bl (Uz l)) H'
theorem UA{sep:Int}{l:List Int}(h:l.length<=17000):(cutI sep [] l).length<=17001/\∀f∈cutI sep [] l,f.length<=17000:=by
 have h1:=U4 (sep:=sep) l []
 refine⟨by omega,fun f hf=>?_⟩
 have:=T9 l [] f hf
 simp at this
 omega
theorem ok_first{f:Addr}{fd:FuncData}(F:Fun K "is_first_line" "is_first_line" SR f fd)(T:TxtP K mg aSIGN aRULE cBox)(C_split_at:Callee P w K mg base "split_at" 1 ["text","separator"] (Te K))
  (C_numbers_of:Callee P w K mg base "numbers_of" 3 ["fields"] (Qm K)):FnOk P w K mg base CX0 4 f fd ["line"] (OX K):=by
 refine F.ok scFirst (fun vs H Q E h=>?_) (fun cdv A outer s H vs Q E hr h=>?_)
 ·obtain⟨a,l,rfl,_⟩:=h
  rfl
 ·obtain⟨a,l,rfl,hS,hl,k⟩:=h
  have nd:=scFirst.nd
  refine⟨_,(Zk (ZZ (i:=1) nd rfl (Or.inl rfl) (ZU C_numbers_of hr rfl (Zb (ZU C_split_at hr rfl (Zb (pv 0) (Zb (pe_g rfl T.g_BLANK) Zn))) Zn)))
   (Zr (ZN (S9 (pe_cmp (pc_notN (pv 1))) (S9 (Vq UG (Yf Yn (by rfl) T.n_len Xz (Zb (pv 1) Zn)) ZE (YU _)) (S8 (Vq op_ge (Xt YQ (pv 1) ZE (fun _ _=>rfl)) ZE (YU _)))))))),?_⟩
  have ret:∀(b:Bool)(H':Hp),Same H H'->Uz l=b->Q (.bl b) H':=fun b H' s1 e=>by rw[<-e];exact k _ s1
  have hc:=UA (sep:=32) hl
  refine⟨_,rfl,a,l,32,rfl,hS,hl,fun H1 p as s1 hp hL=>?_⟩
  refine⟨p,as,cutI 32 [] l,rfl,SqL.of hL.at_,hL.flds,by rw[Zy hL.each];exact hc.1,hc.2,fun H2 v s2 hres=>?_⟩
  have s2:Same H H2:=s1.trans s2
  have ef:Uz l=match W0 (cutI 32 [] l)with
   |some [w,_,_]=>decide (0<=w)
   |_=>false:=rfl
  cases en:W0 (cutI 32 [] l)with
  |none=>
   rw[en]at hres ef
   have hres:v=.non:=hres
   subst hres
   refine⟨_,rfl,_,rfl,ite2 (fun q=>absurd q (by simp)) (fun _=>ret _ _ s2 ef)⟩
  |some ns=>
   rw[en]at hres ef
   obtain⟨c,rfl,hcn,hcl⟩:=hres
   refine⟨_,rfl,_,rfl,ite2 (fun _=>?_) (fun q=>absurd (by simp) q)⟩
   refine⟨_,rfl,_,_,rfl,.inl (SqL.of hcl),rfl,_,rfl,ite2 (fun q=>?_) (fun q=>?_)⟩
   ·obtain⟨x,y,z,rfl⟩:∃x y z,ns=[x,y,z]:=by
     match ns,q with
     |[x,y,z],_=>exact⟨x,y,z,rfl⟩
     |[],q=>simp at q
     |[_],q=>simp at q
     |[_,_],q=>simp at q
     |_::_::_::_::_,q=>simp at q;omega
    exact⟨_,rfl,c,_,_,_,rfl,rfl,SqL.of hcl,Xu (j:=0) rfl rfl,_,_,rfl,rfl,ret _ _ s2 ef⟩
   ·refine ret _ _ s2 (ef.trans ?_)
    match ns,q with
    |[_,_,_],q=>simp at q
    |[],_=>rfl
    |[_],_=>rfl
    |[_,_],_=>rfl
    |_::_::_::_::_,_=>rfl
noncomputable abbrev P0:Stmt:=top 47
theorem scMark:ZP ["line","fields"] ["line"] (Zh P0):=⟨rfl,rfl,rfl,by decide +kernel,rfl,by decide +kernel,by decide +kernel⟩
noncomputable def MI(K:PySem.W.Frag)(C:Addr):Sp:=fun vs H Q _=>∃(a:Addr)(l:List Int),vs=[.ref a]/\SqL K H a (ZQ l)/\l.length<=17000/\∀H' v,Same H H'->ResB C H H' v (Vv l)->Q v H'
theorem ResB.weak{C:Addr}{H H1 H':Hp}{v:V}{o:Option Vamate.Box}(s:Same H H1)(h:ResB C H1 H' v o):ResB C H H' v o:=by
 cases o with
 |none=>exact h
 |some b=>
  obtain⟨p,dx,e,n,q⟩:=h
  exact⟨p,dx,e,s.free n,q⟩
theorem ok_mark{f:Addr}{fd:FuncData}(F:Fun K "mark_box" "mark_box" P0 f fd)(T:TxtP K mg aSIGN aRULE cBox)(C_split_at:Callee P w K mg base "split_at" 1 ["text","separator"] (Te K))
  (C_sign_box:Callee P w K mg base "sign_box" 4 ["fields"] (MC K cBox)) (C_rule_box:Callee P w K mg base "rule_box" 4 ["fields"] (ME K cBox)):FnOk P w K mg base CX0 5 f fd ["line"] (MI K cBox):=by
 refine F.ok scMark (fun vs H Q E h=>?_) (fun cdv A outer s H vs Q E hr h=>?_)
 ·obtain⟨a,l,rfl,_⟩:=h
  rfl
 ·obtain⟨a,l,rfl,hS,hl,k⟩:=h
  have nd:=scMark.nd
  refine⟨_,(Zk (ZZ (i:=1) nd rfl (Or.inl rfl) (ZU C_split_at hr rfl (Zb (pv 0) (Zb (pe_g rfl T.g_BLANK) Zn))))
   (Zk (Xm (Yx (MS hr.units) (Xt YQ (pv 1) ZE (fun _ _=>rfl)) (pe_g rfl T.g_SIGN) (YU _)) (Zr (ZN (ZU C_sign_box hr rfl (Zb (XD Wb (pv 1) (XY ZE) Wc) Zn)))) Yy)
   (Zk (Xm (Yx (MS hr.units) (Xt YQ (pv 1) ZE (fun _ _=>rfl)) (pe_g rfl T.g_RULE) (YU _)) (Zr (ZN (ZU C_rule_box hr rfl (Zb (XD Wb (pv 1) (XY ZE) Wc) Zn)))) Yy)
   (Zr (ZN Wk))))),?_⟩
  have hc:=UA (sep:=32) hl
  refine⟨_,rfl,a,l,32,rfl,hS,hl,fun H1 p as s1 hp hL=>?_⟩
  have em:Vv l=match cutI 32 [] l with
   |f::r=>if f=[115]then UF r else if f=[114]then TD r else none
   |[]=>none:=rfl
  have hn:=Nl (sep:=32) l []
  revert hL em hn hc
  generalize cutI 32 [] l=fs
  intro hc hL em hn
  obtain⟨hat,heach⟩:=hL
  cases heach with
  |nil=>exact absurd rfl hn
  |@cons b fl as' fr hb hF=>
   simp only at em
   have hF':Flds K H1 as' fr:=pimp hF fun _ _ _ q=>SqL.of q
   have hlen:=Zy hF
   refine⟨_,rfl,p,_,_,_,rfl,rfl,SqL.of hat,Xu (j:=0) rfl rfl,b,aSIGN,fl,[115],rfl,rfl,SqL.of hb,T.k_SIGN _,_,rfl,ite2 (fun q=>?_) (fun q=>?_)⟩
   ·have q':fl=[115]:=by simpa using q
    rw[if_pos q']at em
    refine⟨_,rfl,_,rfl,p,_,rfl,SqL.of hat,fun c hcn=>?_⟩
    have e1:cutV (ZV (b::as')) (some 1) none=ZV as':=Vj _
    rw[e1]
    have s2:Same H1 (upd H1 c (.lst (ZV as'))):=Same.new hcn
    refine⟨c,as',fr,rfl,SqL.of Zf,Flds.same hF' s2,by have:=hc.1;simp at this;omega,fun f hf=>hc.2 f (Ze _ hf),fun H3 v s3 hres=>?_⟩
    exact k _ _ ((s1.trans s2).trans s3) (by rw[em];exact hres.weak (s1.trans s2))
   ·have q':¬fl=[115]:=by simpa using q
    rw[if_neg q']at em
    refine⟨_,rfl,p,_,_,_,rfl,rfl,SqL.of hat,Xu (j:=0) rfl rfl,b,aRULE,fl,[114],rfl,rfl,SqL.of hb,T.k_RULE _,_,rfl,ite2 (fun q=>?_) (fun q=>?_)⟩
    ·have q':fl=[114]:=by simpa using q
     rw[if_pos q']at em
     refine⟨_,rfl,_,rfl,p,_,rfl,SqL.of hat,fun c hcn=>?_⟩
     have e1:cutV (ZV (b::as')) (some 1) none=ZV as':=Vj _
     rw[e1]
     have s2:Same H1 (upd H1 c (.lst (ZV as'))):=Same.new hcn
     refine⟨c,as',fr,rfl,SqL.of Zf,Flds.same hF' s2,by have:=hc.1;simp at this;omega,fun f hf=>hc.2 f (Ze _ hf),fun H3 v s3 hres=>?_⟩
     exact k _ _ ((s1.trans s2).trans s3) (by rw[em];exact hres.weak (s1.trans s2))
    ·have q':¬fl=[114]:=by simpa using q
     rw[if_neg q']at em
     exact k _ _ s1 (by rw[em];rfl)
end
end Cp
end
section
namespace Cp
open PySem PySem.Spec PyProof.Rows L2 Ma
section
variable{P:Program}{w:World}{K:PySem.W.Frag}{mg:Str->Option Value}{base:Heap}{aSIGN aRULE cBox:Addr}
noncomputable abbrev Mt(C:Addr)(H:Hp)(q:Addr)(b:Vamate.Box):Prop:=∃dx,H q=some (.ins C dx (boxF b))
noncomputable def ResBs(C:Addr)(H H':Hp)(v:V):Option (List Vamate.Box)->Prop
 |none=>v=.non
 |some bs=>∃p ps,v=.ref p/\H p=none/\H' p=some (.lst (ZV ps))/\Paired (Mt C H') ps bs
noncomputable def EB(C D:Addr)(H':Hp)(y:V):Option Vamate.Box->Prop
 |none=>y=.non
 |some b=>∃p,y=.ref p/\p≠D/\Mt C H' p b
theorem Ol{α β:Type}{R:α->β->Prop}:∀{xs:List α}{ys:List β},ys.length=xs.length->(∀(i:Nat) y,ys[i]?=some y->∃x,xs[i]?=some x/\R x y)->Paired R xs ys
 |[],[],_,_=>.nil
 |[],_::_,h,_=>by simp at h
 |_::_,[],h,_=>by simp at h
 |x::xs,y::ys,h,r=>by
  obtain⟨x',e,q⟩:=r 0 y rfl
  have e:x=x':=by simpa using e
  subst e
  exact .cons q (Ol (by simpa using h) fun i z hz=>by
   obtain⟨x',e,q⟩:=r (i+1) z (by simpa using hz)
   exact⟨x',by simpa using e,q⟩)
theorem Oq{C D:Addr}{H':Hp}:∀{ls:List (List Int)}{ys:List V},Paired (fun l y=>EB C D H' y (Vv l)) ls ys->
  (ls.mapM Vv=none/\ys.any Sr=true)\/∃bs ps,ls.mapM Vv=some bs/\ys.any Sr=false/\ys=ZV ps/\Paired (Mt C H') ps bs
 |_,_,.nil=>.inr ⟨[],[],rfl,rfl,rfl,.nil⟩
 |l::ls,y::ys,.cons h t=>by
  rw[VX]
  cases e:Vv l with
  |none=>
   rw[e]at h
   have h:y=.non:=h
   subst h
   exact .inl ⟨rfl,rfl⟩
  |some b=>
   rw[e]at h
   obtain⟨p,rfl,_,hb⟩:=h
   rcases Oq t with⟨h1,h2⟩|⟨bs,ps,h1,h2,h3,h4⟩
   ·rw[h1]
    exact .inl ⟨rfl,by rw[Yt,h2,Bool.or_true]⟩
   ·rw[h1]
    exact .inr ⟨b::bs,p::ps,rfl,by rw[Yt,h2];rfl,by rw[h3];rfl,.cons hb h4⟩
noncomputable abbrev S3:Stmt:=top 45
theorem scBoxes:ZP ["text","lines","boxes","line"] ["text"] (Zh S3):=⟨rfl,rfl,rfl,by decide +kernel,rfl,by decide +kernel,by decide +kernel⟩
noncomputable def RU(K:PySem.W.Frag)(C:Addr):Sp:=fun vs H Q _=>∃(a:Addr)(t:List Int),vs=[.ref a]/\SqL K H a (ZQ t)/\t.length<=17000/\∀H' v,Same H H'->ResBs C H H' v (Q6 t)->Q v H'
theorem ok_boxes{f:Addr}{fd:FuncData}(F:Fun K "boxes_of" "boxes_of" S3 f fd)(T:TxtP K mg aSIGN aRULE cBox)(B:TxtB K cBox)(C_split_at:Callee P w K mg base "split_at" 1 ["text","separator"] (Te K))
  (C_is_first_line:Callee P w K mg base "is_first_line" 4 ["line"] (OX K)) (C_mark_box:Callee P w K mg base "mark_box" 5 ["line"] (MI K cBox)):FnOk P w K mg base CX0 6 f fd ["text"] (RU K cBox):=by
 refine F.ok scBoxes (fun vs H Q E h=>?_) (fun cdv A outer s H vs Q E hr h=>?_)
 ·obtain⟨a,l,rfl,_⟩:=h
  rfl
 ·obtain⟨a,t,rfl,hS,hl,k⟩:=h
  have nd:=scBoxes.nd
  refine⟨_,(Zk (ZZ (i:=1) nd rfl (Or.inl rfl) (ZU C_split_at hr rfl (Zb (pv 0) (Zb (pe_g rfl T.g_LINE_END) Zn))))
   (Zk (Xm (PW.pt (Rz (Yx Qy (Yf Yn (by rfl) T.n_len Xz (Zb (pv 1) Zn)) (Xf Vi (pe_g rfl T.g_MOST_MARKS) ZE) (YU _)) (UR (Vh (Wj (ZU C_is_first_line hr rfl (Zb (Xt YQ (pv 1) ZE (fun _ _=>rfl)) Zn))))))) (Zr (ZN Wk)) Yy)
   (Zk (Sk (i:=2) rfl nd rfl rfl (RP rfl rfl rfl rfl) (YN (XD Wb (pv 1) (XY ZE) Wc)) (own:=[("line",3)]) (Yr (by kernel_rfl)) (fun _ _ _ _ _=>(Z2 (i:=3) nd rfl (Or.inl rfl))) (fun _ _ _ _ _=>Y4) (fun _ _ _ _ _=>(ZU C_mark_box hr rfl (Zb (pv 3) Zn))))
   (Zr (ZN (Vs (Yx (Rc hr.units) Wk (pv 2) (by with_unfolding_all rfl)) Wk (pv 2))))))),?_⟩
  have hc:=UA (sep:=10) hl
  refine⟨_,rfl,a,t,10,rfl,hS,hl,fun H1 p as s1 hp hL=>?_⟩
  have em:Q6 t=match cutI 10 [] t with
   |l::r=>if r.length<=1000/\Uz l=true then r.mapM Vv else none
   |[]=>none:=rfl
  have hn:=Nl (sep:=10) t []
  revert hL em hn hc
  generalize cutI 10 [] t=fs
  intro hc hL em hn
  obtain⟨hat,heach⟩:=hL
  cases heach with
  |nil=>exact absurd rfl hn
  |@cons b fl as' fr hb hF=>
   simp only at em
   have hlen:=Zy hF
   have no:∀H',Same H H'->Q6 t=none->Q .non H':=fun H' s e=>k _ _ s (by rw[e];rfl)
   refine⟨_,rfl,_,_,rfl,.inl (SqL.of hat),_,_,rfl,rfl,_,_,rfl,rfl,_,rfl,ite2 (fun q=>iteT (no _ s1 ?_)) (fun q=>?_)⟩
   ·rw[em,if_neg]
    simp at q
    omega
   have q1:fr.length<=1000:=by simp at q;omega
   refine⟨_,rfl,p,_,_,_,rfl,rfl,SqL.of hat,Xu (j:=0) rfl rfl,b,fl,rfl,SqL.of hb,hc.2 fl (by simp),fun H2 s2=>⟨_,rfl,ite2 (fun q=>?_) (fun q=>?_)⟩⟩
   ·refine no _ (s1.trans s2) ?_
    rw[em,if_neg]
    rintro⟨_,z⟩
    rw[z]at q
    cases q
   have q2:Uz fl=true:=by simpa using q
   rw[if_pos ⟨q1,q2⟩]at em
   refine⟨_,rfl,_,rfl,p,_,rfl,SqL.of (s2 _ _ hat),fun c hcn=>?_⟩
   have e1:cutV (ZV (b::as')) (some 1) none=ZV as':=Vj _
   rw[e1]
   have s3:Same H2 (upd H2 c (.lst (ZV as'))):=Same.new hcn
   have hc3:(upd H2 c (.lst (ZV as'))) c=some (.lst (ZV as')):=Zf
   revert s3 hc3
   generalize upd H2 c (.lst (ZV as'))=H3
   intro s3 hc3
   have s3:Same H1 H3:=s2.trans s3
   have hF3:Paired (LI H3) as' fr:=pimp hF fun _ _ _ q=>s3 _ _ q
   refine⟨c,rfl,⟨_,SqL.of hc3⟩,fun D hD=>Ng (K:=K) (xs:=ZV as') (fun i y H'=>∃l,fr[i]?=some l/\EB cBox D H' y (Vv l)) (SqL.of hc3) (by rw[Za,hlen];exact Zi q1 (by decide)) hD (fun _=>rfl) ?_ ?_ (fun i x H' R hx s4 hacc hR=>?_) (fun ys H' hyl s4 hy he=>?_)⟩
   ·rintro i y H' o ⟨l,h1,h2⟩
    refine⟨l,h1,?_⟩
    cases e:Vv l with
    |none=>rw[e]at h2;exact h2
    |some b=>
     rw[e]at h2
     obtain⟨p,e,n,dx,h⟩:=h2
     exact⟨p,e,n,dx,by rw[Zt n];exact h⟩
   ·rintro i y H' H'' ⟨l,h1,h2⟩ s5
    refine⟨l,h1,?_⟩
    cases e:Vv l with
    |none=>rw[e]at h2;exact h2
    |some b=>
     rw[e]at h2
     obtain⟨p,e,n,dx,h⟩:=h2
     exact⟨p,e,n,dx,s5 _ _ h⟩
   ·obtain⟨z,hz,rfl⟩:=Xr hx
    obtain⟨l,hl',hq⟩:=Z4 hF3 hz
    refine⟨_,rfl,z,l,rfl,SqL.of (s4 _ _ hq),hc.2 l (Ze _ (Zp hl')),fun H'' v s5 hres=>hR _ _ s5 ⟨l,hl',?_⟩⟩
    cases e:Vv l with
    |none=>rw[e]at hres;exact hres
    |some b=>
     rw[e]at hres
     obtain⟨q,dx,e,n,h⟩:=hres
     obtain⟨acc,hacc⟩:=hacc
     exact⟨q,e,(fun z=>by rw[z,hacc]at n;cases n),dx,h⟩
   ·rw[Za]at hyl
    have hP:=Ol (R:=fun l y=>EB cBox D H' y (Vv l)) (by omega) he
    have s5:Same H H':=(s1.trans s3).trans s4
    refine⟨_,rfl,rfl,D,ys,rfl,SqL.of hy,?_,_,rfl,?_⟩
    ·intro v hv
     obtain⟨i,hi⟩:=Zx.mp hv
     obtain⟨l,_,h2⟩:=he i v hi
     cases e:Vv l with
     |none=>
      rw[e]at h2
      have h2:v=.non:=h2
      subst h2
      trivial
     |some b=>
      rw[e]at h2
      obtain⟨p,rfl,n,dx,h⟩:=h2
      exact .inr ⟨cBox,dx,_,h,B.eqc⟩
    ·rcases Oq hP with⟨h1,h2⟩|⟨bs,ps,h1,h2,h3,h4⟩
     ·rw[h2]
      exact iteT (no _ s5 (by rw[em,h1]))
     ·rw[h2]
      refine iteF ⟨_,rfl,k _ _ s5 ?_⟩
      rw[em,h1]
      exact⟨D,ps,rfl,(s1.trans s3).free hD,by rw[hy,h3],h4⟩
end
end Cp
end
section
namespace Cp
open PySem PySem.Spec PyProof.Rows L2 Ma
section
variable{P:Program}{w:World}{K:PySem.W.Frag}{mg:Str->Option Value}{base:Heap}{cSrc:Addr}
noncomputable def srcF(a:Addr)(i:Nat):List (Str×V):=[("numbers",.ref a),("place",.int (i:Int))]
structure TxtS(K:PySem.W.Frag)(mg:Str->Option Value)(cSrc:Addr):Prop where
 n_len:mg "len"=none
 cl:Cls K cSrc
 n_numbers:X9 K cSrc "numbers"
 n_place:X9 K cSrc "place"
structure Pa(K:PySem.W.Frag)(C:Addr)(H:Hp)(p a:Addr)(l:List Int)(i:Nat):Prop where
 at_:∃dx,H p=some (.ins C dx (srcF a i))
 seq:SqL K H a (ZQ l)
 len:l.length<=17000
 le:i<=l.length
theorem NB(a:Addr)(i j:Nat):putF "place" (.int (j:Int)) (srcF a i)=srcF a j:=by
 show(if("numbers":Str)="place" then _ else _)=_
 rw[if_neg (by decide)]
 show _::(if("place":Str)="place" then _ else _)=_
 rw[if_pos rfl]
 rfl
theorem Vw{x:Str}{v:V}{r:List (Str×V)}:((x,v)::r).lookup x=some v:=by
 rw[Xc,beq_self_eq_true]
theorem Yz{x y:Str}{v:V}{r:List (Str×V)}(h:(y==x)=false:=by decide):((x,v)::r).lookup y=r.lookup y:=by
 rw[Xc,h]
theorem Vg(a:Addr)(i:Nat):(srcF a i).lookup ("place":Str)=some (.int (i:Int)):=X0 Yz Vw
theorem Ut(a:Addr)(i:Nat):(srcF a i).lookup ("numbers":Str)=some (.ref a):=Vw
theorem RQ(a:Addr)(i:Nat){m:Str}(h1:(m==("numbers":Str))=false:=by decide)(h2:(m==("place":Str))=false:=by decide):(srcF a i).lookup m=none:=(Yz h1).trans ((Yz h2).trans rfl)
noncomputable def But(p:Addr)(H H':Hp):Prop:=∀b o,H b=some o->b≠p->H' b=some o
noncomputable abbrev PL:Stmt:=XG (top 55) 0
theorem scSrcI:ZP ["self","numbers"] ["self","numbers"] (Zh PL):=⟨rfl,rfl,rfl,by decide +kernel,rfl,by decide +kernel,by decide +kernel⟩
noncomputable def MA(K:PySem.W.Frag)(C:Addr):Sp:=fun vs H Q _=>∃(p dx a:Addr),vs=[.ref p,.ref a]/\H p=some (.ins C dx [])/\∀H':Hp,H' p=some (.ins C dx (srcF a 0))->But p H H'->Q .non H'
theorem ok_srcI{f:Addr}{fd:FuncData}(F:Fun K "__init__" "Source.__init__" PL f fd)(T:TxtS K mg cSrc):FnOk P w K mg base CX0 1 f fd ["self","numbers"] (MA K cSrc):=by
 refine F.ok scSrcI (fun vs H Q E h=>?_) (fun cdv A outer s H vs Q E hr h=>?_)
 ·obtain⟨p,dx,a,rfl,_⟩:=h
  rfl
 ·obtain⟨p,dx,a,rfl,hp,k⟩:=h
  refine⟨_,(Zk (WR (pv 0) (pv 1) rfl)
   (Zr (WR (pv 0) ZE rfl))),?_⟩
  refine⟨_,rfl,_,rfl,p,cSrc,dx,_,rfl,hp,T.cl,T.n_numbers,Wx (n:=0) (Zl _),?_⟩
  refine⟨_,rfl,p,cSrc,dx,_,rfl,Zf,T.cl,T.n_place,Wx (YG (n:=0) (Zl _)),?_⟩
  refine k _ ?_ fun b o e hb=>by rw[Zt hb,Zt hb];exact e
  rw[Zf]
  rfl
noncomputable abbrev PZ:Stmt:=XG (top 55) 1
theorem scMore:ZP ["self"] ["self"] (Zh PZ):=⟨rfl,rfl,rfl,by decide +kernel,rfl,by decide +kernel,by decide +kernel⟩
noncomputable def MH(K:PySem.W.Frag)(C:Addr):Sp:=fun vs H Q _=>∃(p a:Addr)(l:List Int)(i:Nat),vs=[.ref p]/\Pa K C H p a l i/\Q (.bl (decide (i<l.length))) H
theorem ok_more{f:Addr}{fd:FuncData}(F:Fun K "has_more" "Source.has_more" PZ f fd)(T:TxtS K mg cSrc):FnOk P w K mg base CX0 1 f fd ["self"] (MH K cSrc):=by
 refine F.ok scMore (fun vs H Q E h=>?_) (fun cdv A outer s H vs Q E hr h=>?_)
 ·obtain⟨p,a,l,i,rfl,_⟩:=h
  rfl
 ·obtain⟨p,a,l,i,rfl,⟨⟨dx,hp⟩,hS,hl,hle⟩,k⟩:=h
  have nd:=scMore.nd
  refine⟨_,(Zr (ZN (Vq TH (YT (pv 0) rfl) (Yf Yn (by rfl) T.n_len Xz (Zb (YT (pv 0) rfl) Zn)) (YU _)))),?_⟩
  refine⟨_,rfl,p,cSrc,dx,_,_,rfl,hp,T.cl,T.n_place,Vg a i,_,rfl,p,cSrc,dx,_,_,rfl,hp,T.cl,T.n_numbers,Ut a i,a,_,rfl,.inl hS,_,_,rfl,rfl,?_⟩
  have e:decide ((i:Int)<((ZQ l).length:Int))=decide (i<l.length):=by
   rw[Za]
   exact decide_eq_decide.mpr (by omega)
  show Q (.bl (decide ((i:Int)<((ZQ l).length:Int)))) H
  rw[e]
  exact k
noncomputable abbrev PD:Stmt:=XG (top 55) 2
theorem scTake:ZP ["self","number"] ["self"] (Zh PD):=⟨rfl,rfl,rfl,by decide +kernel,rfl,by decide +kernel,by decide +kernel⟩
noncomputable def WO(K:PySem.W.Frag)(C:Addr):Sp:=fun vs H Q _=>∃(p a:Addr)(l:List Int)(i:Nat)(n:Int),vs=[.ref p]/\Pa K C H p a l i/\l[i]?=some n/\∀H':Hp,Pa K C H' p a l (i+1)->But p H H'->Q (.int n) H'
theorem LA{H H':Hp}{p a C dx:Addr}{fs:List (Str×V)}{xs:List V}(hp:H p=some (.ins C dx fs))(b:But p H H')(h:SqL K H a xs):SqL K H' a xs:=by
 rcases h with(h|⟨o,h⟩)|h
 ·exact .inl (.inl (b _ _ h (We h hp (by intro q;cases q))))
 ·exact .inl (.inr ⟨o,b _ _ h (We h hp (by intro q;cases q))⟩)
 ·exact .inr h
theorem ok_take{f:Addr}{fd:FuncData}(F:Fun K "take_number" "Source.take_number" PD f fd)(T:TxtS K mg cSrc):FnOk P w K mg base CX0 1 f fd ["self"] (WO K cSrc):=by
 refine F.ok scTake (fun vs H Q E h=>?_) (fun cdv A outer s H vs Q E hr h=>?_)
 ·obtain⟨p,a,l,i,n,rfl,_⟩:=h
  rfl
 ·obtain⟨p,a,l,i,n,rfl,⟨⟨dx,hp⟩,hS,hl,hle⟩,hn,k⟩:=h
  have nd:=scTake.nd
  have hi:i<l.length:=(Zd.mp hn).1
  refine⟨_,(Zk (ZZ (i:=1) nd rfl (Or.inl rfl) (Xt YQ (YT (pv 0) rfl) (YT (pv 0) rfl) (fun _ _=>rfl)))
   (Zk (Oe (pv 0) ZE in_add)
   (Zr (ZN (pv 1))))),?_⟩
  refine⟨_,rfl,p,cSrc,dx,_,_,rfl,hp,T.cl,T.n_numbers,Ut a i,_,rfl,p,cSrc,dx,_,_,rfl,hp,T.cl,T.n_place,Vg a i,a,_,_,_,rfl,rfl,hS,Xu (j:=i) (v:=.int n) rfl (by rw[ZA,hn];rfl),?_⟩
  refine⟨_,rfl,p,cSrc,dx,_,_,rfl,hp,T.cl,T.n_place,Vg a i,_,_,rfl,rfl,dx,_,hp,Wx (n:=2) (Zl _),?_⟩
  refine⟨_,rfl,?_⟩
  have e:putF "place" (V.int ((i:Int)+1)) (srcF a i)=srcF a (i+1):=NB a i (i+1)
  rw[e]
  have bt:But p H (upd H p (.ins cSrc dx (srcF a (i+1)))):=fun b o e hb=>by rw[Zt hb];exact e
  exact k _ ⟨⟨dx,Zf⟩,LA hp bt hS,hl,hi⟩ bt
noncomputable abbrev sRow:Stmt:=XG (top 55) 3
theorem scRow:ZP ["self","many","row"] ["self"] (Zh sRow):=⟨rfl,rfl,rfl,by decide +kernel,rfl,by decide +kernel,by decide +kernel⟩
noncomputable def Qk(K:PySem.W.Frag)(C:Addr):Sp:=fun vs H Q _=>∃(p a:Addr)(l:List Int)(i:Nat)(m:Int),vs=[.ref p]/\Pa K C H p a l i/\l[i]?=some m/\0<=m/\i+1+m.toNat<=l.length/\
 ∀(H':Hp)(q:Addr),Pa K C H' p a l (i+1+m.toNat)->But p H H'->H q=none->LI H' q ((l.drop (i+1)).take m.toNat)->Q (.ref q) H'
theorem cut_mid(xs:List V)(i j:Nat)(h:i<=j)(hj:j<=xs.length):cutV xs (some (i:Int)) (some (j:Int))=(xs.drop i).take (j-i):=by
 unfold cutV
 rw[HT.sIx_nat,HT.sIx_nat,Nat.min_eq_left hj,Nat.min_eq_left (Zi h hj)]
theorem ok_row{f:Addr}{fd:FuncData}(F:Fun K "take_row" "Source.take_row" sRow f fd)(T:TxtS K mg cSrc)(M_Source_take_number:Y5 P w K mg base cSrc "take_number" 1 ["self"] (WO K cSrc)):
  FnOk P w K mg base CX0 2 f fd ["self"] (Qk K cSrc):=by
 refine F.ok scRow (fun vs H Q E h=>?_) (fun cdv A outer s H vs Q E hr h=>?_)
 ·obtain⟨p,a,l,i,n,rfl,_⟩:=h
  rfl
 ·obtain⟨p,a,l,i,m,rfl,hA,hn,hm,hml,k⟩:=h
  have nd:=scRow.nd
  obtain⟨⟨dx,hp⟩,_⟩:=id hA
  refine⟨_,(Zk (ZZ (i:=1) nd rfl (Or.inl rfl) (Yu (pv 0) M_Source_take_number hr))
   (Zk (ZZ (i:=2) nd rfl (Or.inl rfl) (XD Wb (YT (pv 0) rfl) (XY (YT (pv 0) rfl)) (XY (Xf Vi (YT (pv 0) rfl) (pv 1)))))
   (Zk (Oe (pv 0) (pv 1) in_add)
   (Zr (ZN (pv 2)))))),?_⟩
  refine⟨_,rfl,p,dx,_,rfl,hp,RQ a i,p,a,l,i,m,rfl,hA,hn,fun H1 hA1 b1=>?_⟩
  obtain⟨⟨dx1,hp1⟩,hS1,hl,hle⟩:=id hA1
  refine⟨_,rfl,p,cSrc,dx1,_,_,rfl,hp1,T.cl,T.n_numbers,Ut a (i+1),_,rfl,p,cSrc,dx1,_,_,rfl,hp1,T.cl,T.n_place,Vg a (i+1),_,rfl,
   _,rfl,p,cSrc,dx1,_,_,rfl,hp1,T.cl,T.n_place,Vg a (i+1),_,rfl,_,_,rfl,rfl,_,rfl,a,_,rfl,hS1,fun q hq=>?_⟩
  have hqp:p≠q:=ZD hp1 hq
  refine⟨_,rfl,p,cSrc,dx1,_,_,rfl,by rw[Zt hqp];exact hp1,T.cl,T.n_place,Vg a (i+1),_,rfl,_,_,rfl,rfl,dx1,_,by rw[Zt hqp];exact hp1,Wx (n:=2) (Zl _),?_⟩
  refine⟨_,rfl,?_⟩
  have e:putF "place" (V.int (((i+1:Nat):Int)+m)) (srcF a (i+1))=srcF a (i+1+m.toNat):=by
   rw[<-NB a (i+1) (i+1+m.toNat)]
   congr 2
   omega
  rw[e]
  have hqn:H q=none:=by
   cases z:H q with
   |none=>rfl
   |some o=>
    have:=b1 q o z (Yq hqp)
    rw[hq]at this;cases this
  have bt:But p H1 (upd (upd H1 q (.lst (cutV (ZQ l) (some ((i+1:Nat):Int)) (some (((i+1:Nat):Int)+m))))) p (.ins cSrc dx1 (srcF a (i+1+m.toNat)))):=fun b o e hb=>by rw[Zt hb,Zt (ZD e hq)];exact e
  refine k _ q ⟨⟨dx1,Zf⟩,LA hp1 bt hS1,hl,hml⟩ (fun b o e hb=>bt b o (b1 b o e hb) hb) hqn ?_
  show upd _ p _ q=_
  rw[Zt (Yq hqp),Zf]
  have e2:(((i+1:Nat):Int)+m)=((i+1+m.toNat:Nat):Int):=by omega
  rw[e2,cut_mid _ _ _ (by omega) (by rw[Za];exact hml)]
  have e3:i+1+m.toNat-(i+1)=m.toNat:=by omega
  rw[e3,ZQ,ZQ,<-WM,<-List.map_take]
end
end Cp
end
section
namespace Cp
open PySem PySem.Spec PyProof.Rows L2 Ma
section
variable{P:Program}{w:World}{K:PySem.W.Frag}{mg:Str->Option Value}{base:Heap}
noncomputable def b2i(b:Bool):Int:=if b=true then 1 else 0
noncomputable def rowP(n:Nat)(p:Nat->Bool):List Int:=(List.range n).map fun i=>b2i (p i)
theorem Yh(n:Nat)(p:Nat->Bool):(rowP n p).length=n:=by simp[rowP]
theorem X6{n:Nat}{p:Nat->Bool}{i:Nat}(h:i<n):(rowP n p)[i]?=some (b2i (p i)):=by
 unfold rowP
 rw[ZA,List.getElem?_range h]
 rfl
theorem VS{n:Nat}{p q:Nat->Bool}(h:∀i,i<n->p i=q i):rowP n p=rowP n q:=by
 unfold rowP
 refine Xh fun i hi=>?_
 rw[h i (Ye.mp hi)]
structure XM(H:Hp)(R:Addr)(as:List Addr)(n m:Nat)(p:Nat->Nat->Bool):Prop where
 at_:H R=some (.lst (ZV as))
 len:as.length=m
 nd:as.Nodup
 out:R∉as
 row:∀(j:Nat) a,as[j]?=some a->H a=some (.lst (ZQ (rowP n fun i=>p i j)))
theorem XM.same{H H':Hp}{R:Addr}{as:List Addr}{n m:Nat}{p:Nat->Nat->Bool}(h:XM H R as n m p)(s:Same H H'):XM H' R as n m p:=
 ⟨s _ _ h.at_,h.len,h.nd,h.out,fun j a e=>s _ _ (h.row j a e)⟩
structure TxtG(mg:Str->Option Value):Prop where
 n_len:mg "len"=none
 n_all:mg "all"=none
 n_reversed:mg "reversed"=none
 g_LINE_END:GV mg "LINE_END" (.int 10)
 g_PAINTED_BYTE:GV mg "PAINTED_BYTE" (.int 35)
 g_CLEAR_BYTE:GV mg "CLEAR_BYTE" (.int 46)
noncomputable def Nz(n m:Nat)(p:Nat->Nat->Bool):List Int:=List.intercalate [10] ((List.range m).reverse.map fun j=>rowI n fun i=>p i j)
theorem Pd{m i:Nat}(h:i<m):(List.range m).reverse[i]?=some (m-1-i):=by
 rw[XN (by simpa using h),YF,List.getElem?_range (by omega)]
theorem Sw{n:Nat}:∀(l:List (List Int))(t:List Int),(∀r∈l,r.length=n)->(l.foldl Xs t).length<=t.length+l.length*(n+1)
 |[],t,_=>by simp
 |r::l,t,h=>by
  have ih:=Sw l (Xs t r) fun x hx=>h x (Ze _ hx)
  have h1:(Xs t r).length<=t.length+(n+1):=by
   unfold Xs
   rw[Zj,h r Zm]
   by_cases q:0<t.length
   ·rw[if_pos q,Zj];simp;omega
   ·rw[if_neg q];omega
  rw[Y7,Zo,Nat.succ_mul]
  omega
noncomputable abbrev PB:Stmt:=top 15
theorem scText:ZP ["rows","text","row","cell"] ["rows"] (Zh PB):=⟨rfl,rfl,rfl,by decide +kernel,rfl,by decide +kernel,by decide +kernel⟩
noncomputable def My(K:PySem.W.Frag):Sp:=fun vs H Q _=>∃(R:Addr)(as:List Addr)(n m:Nat)(p:Nat->Nat->Bool),vs=[.ref R]/\XM H R as n m p/\1<=n/\n<=40/\m<=40/\∀(H':Hp)(q:Addr),Same H H'->H q=none->LI H' q (Nz n m p)->Q (.ref q) H'
theorem ok_text{f:Addr}{fd:FuncData}(F:Fun K "text_of" "text_of" PB f fd)(T:TxtG mg):FnOk P w K mg base CX0 1 f fd ["rows"] (My K):=by
 refine F.ok scText (fun vs H Q E h=>?_) (fun cdv A outer s H vs Q E hr h=>?_)
 ·obtain⟨R,as,n,m,p,rfl,_⟩:=h
  rfl
 ·obtain⟨R,as,n,m,p,rfl,hR,hn1,hn,hm,k⟩:=h
  have nd:=scText.nd
  refine⟨_,(Zk (ZZ (i:=1) nd rfl (Or.inl rfl) (Yp Zn))
   (Zk (VU YH rfl (RB (by rfl) T.n_reversed (Zb (pv 0) Zn)) (Z2 (i:=2) nd rfl (Or.inl rfl))
   (Zk (Xm (Yx Qy (Yf Yn (by rfl) T.n_len Xz (Zb (pv 1) Zn)) ZE (YU _)) (Zr (Xx (Um Z9 YK YL WJ (pv 1) (Zb (pe_g rfl T.g_LINE_END) Zn)))) Yy)
   (Zr (Xx (Um Z9 XS XT Uo (pv 1) (Zb (X1 rfl nd (YN (pv 2)) (own:=[("cell",3)]) (Yr (by kernel_rfl)) (fun _ _ _ _ _=>(Z2 (i:=3) nd rfl (Or.inl rfl))) (fun _ _ _ _ _=>Y4) (fun _ _ _ _ _=>(Vs (Yx UG (pv 3) ZE (YU _)) (pe_g rfl T.g_PAINTED_BYTE) (pe_g rfl T.g_CLEAR_BYTE)))) Zn))))))
   (Zr (ZN (pv 1))))),?_⟩
  refine⟨ZG _,fun t ht=>?_⟩
  have s0:Same H (upd H t (.lst [])):=Same.new ht
  have hlen:=hR.len
  have er:∀(rows:List (List Int)),rows=((List.range m).reverse.map fun j=>rowI n fun i=>p i j)->∀i,i<m->rows[i]?=some (rowI n fun k=>p k (m-1-i)):=by
   rintro rows rfl i hi
   rw[ZA,Pd hi]
   rfl
  generalize hrows:((List.range m).reverse.map fun j=>rowI n fun i=>p i j)=rows at er
  have er:=er rows rfl
  have hrl:rows.length=m:=by rw[<-hrows];simp
  have hrn:∀r∈rows,r.length=n:=by
   rw[<-hrows]
   intro r hr
   obtain⟨j,_,rfl⟩:=ZS.mp hr
   simp[rowI]
  refine⟨_,rfl,R,_,rfl,SqL.of (s0 _ _ hR.at_),for_rev (K:=K) (a:=R) (xs:=ZV as) (fun i σ H'=>∃v,σ=[some (.ref R),some (.ref t),v,none]/\Same H H'/\LI H' t ((rows.take i).foldl Xs []))
   ⟨none,rfl,s0,Zf⟩ (fun i σ H' _ ⟨_,_,s1,_⟩=>SqL.of (s1 _ _ hR.at_)) ?_ ?_⟩
  ·rintro i y σ H' hi ⟨v,rfl,s1,hT⟩
   have him:i<m:=by
    have:=(Zd.mp hi).1
    simp at this
    omega
   obtain⟨a,ha,rfl⟩:∃a,as[m-1-i]?=some a/\y=.ref a:=by
    rw[XN (by simp;omega)]at hi
    obtain⟨a,h1,h2⟩:=Xr hi
    refine⟨a,?_,h2⟩
    rw[Za,hlen]at h1
    exact h1
   have hrow:=hR.row _ _ ha
   have hlt:((rows.take i).foldl Xs []).length<=i*(n+1):=by
    have h1:=Sw (n:=n) (rows.take i) [] fun r hr=>hrn r (XX hr)
    have h2:(rows.take i).length=i:=by rw[Yj];omega
    rw[h2]at h1
    simpa using h1
   have hb:i*(n+1)<=40*41:=YE (by omega) (by omega)
   have ef:(rows.take (i+1)).foldl Xs []=Xs ((rows.take i).foldl Xs []) (rowI n fun k=>p k (m-1-i)):=by
    rw[take_snoc (er i him),Vb]
    rfl
   revert hT hlt ef
   generalize (rows.take i).foldl Xs []=tx0
   intro hT hlt ef
   have ext:∀(H2:Hp)(D:Ends),Same H H2->LI H2 t (if 0<tx0.length then tx0++[10]else tx0)->(∀H3,Same H H3->LI H3 t (Xs tx0 (rowI n fun k=>p k (m-1-i)))->D.nx [some (.ref R),some (.ref t),some (.ref a),none] H3)->
     tDrop (tBM K "list" LB (tVar 1) (Lu (tLc (iList K (tVar 2)) (VD 3) tYes (tIf (tTest (tOp rEq (tVar 3) (tC (.int 1)))) (tC (.int 35)) (tC (.int 46))) [3]) tNil)) D [some (.ref R),some (.ref t),some (.ref a),none] H2:=by
    intro H2 D s2 hT2 fin
    refine⟨_,rfl,.inl ⟨rfl,_,SqL.of hT2⟩,_,rfl,a,rfl,⟨_,SqL.of (s2 _ _ hrow)⟩,fun d hd=>QG (K:=K) (xs:=ZQ (rowP n fun k=>p k (m-1-i))) (fun v=>if v=.int 1 then .int 35 else .int 46) (SqL.of (s2 _ _ hrow)) (by rw[Za,Yh];exact Zi hn (by decide)) hd (fun _=>rfl) (fun i x H' R hx _ hR=>?_) ?_⟩
    ·obtain⟨z,hz,rfl⟩:=int_at hx
     refine⟨_,rfl,rfl,_,rfl,ite2 (fun e=>?_) (fun e=>?_)⟩
     ·rw[if_pos (by simpa using e)]at hR;exact hR
     ·rw[if_neg (by simpa using e)]at hR;exact hR
    ·have hdt:t≠d:=ZD hT2 hd
     have e1:(ZQ (rowP n fun k=>p k (m-1-i))).map (fun v=>if v=V.int 1 then V.int 35 else .int 46)=ZQ (rowI n fun k=>p k (m-1-i)):=by
      unfold rowP rowI ZQ
      rw[Yg,Yg,Yg]
      refine Xh fun j _=>?_
      show(if V.int (b2i (p j (m-1-i)))=V.int 1 then V.int 35 else .int 46)=V.int (if p j (m-1-i)=true then 35 else 46)
      unfold b2i
      cases p j (m-1-i)<;>simp
     rw[e1]
     refine⟨t,d,_,_,rfl,rfl,by rw[Zt hdt];exact hT2,Zf,?_,?_⟩
     ·rw[Za,Za]
      have h1:(rowI n fun k=>p k (m-1-i)).length=n:=by simp[rowI]
      rw[h1]
      have h2:(if 0<tx0.length then tx0++[10]else tx0).length<=tx0.length+1:=by
       by_cases q:0<tx0.length
       ·rw[if_pos q,Zj];exact Zl _
       ·rw[if_neg q];omega
      exact Zi (show _<=2000 by omega) (by decide)
     ·refine fin _ ((s2.trans (Same.new hd)).upd ht) ?_
      show upd _ t _ t=_
      rw[Zf]
      unfold Xs
      rw[ZQ,ZQ,ZQ,ZJ]
   refine⟨_,rfl,_,_,rfl,.inl (SqL.of hT),_,_,rfl,rfl,_,rfl,ite2 (fun e=>?_) (fun e=>?_)⟩
   ·have e':0<tx0.length:=by rw[Za]at e;have:=of_decide_eq_true e;omega
    refine⟨_,rfl,.inl ⟨rfl,_,SqL.of hT⟩,t,_,_,rfl,rfl,hT,?_,?_⟩
    ·rw[Za]
     exact Z3 (show tx0.length<=2000 by omega) (by decide)
    ·refine ext _ _ (s1.upd ht) ?_ fun H3 s3 h3=>⟨_,rfl,s3,by rw[ef];exact h3⟩
     rw[if_pos e']
     show upd _ t _ t=_
     rw[Zf,QM]
   ·have e':¬0<tx0.length:=by rw[Za]at e;intro q;exact e (decide_eq_true (by omega))
    refine ext _ _ s1 ?_ fun H3 s3 h3=>⟨_,rfl,s3,by rw[ef];exact h3⟩
    rw[if_neg e']
    exact hT
  ·rintro σ H' ⟨v,rfl,s1,hT⟩
   refine⟨_,rfl,k H' t s1 ht ?_⟩
   have e1:(ZV as).length=rows.length:=by rw[Za,hlen,hrl]
   rw[e1,YM]at hT
   have e2:=Pn rows [] (by
    intro r hr
    have:=hrn r (by simpa using hr)
    intro e
    rw[e]at this
    simp at this
    omega)
   have e3:rows.foldl Xs []=List.intercalate [10] rows:=e2
   unfold Nz
   rw[hrows,<-e3]
   exact hT
end
end Cp
end
section
namespace Cp
open PySem PySem.Spec PyProof.Rows L2 Ma
section
variable{P:Program}{w:World}{K:PySem.W.Frag}{mg:Str->Option Value}{base:Heap}
theorem UB{b:Bool}(h:(!b)=true):b=false:=by cases b<;>simp_all
theorem UC{b:Bool}(h:¬(!b)=true):b=true:=by cases b<;>simp_all
noncomputable def cellOf(b:Int):Int:=if b=35 then 1 else 0
noncomputable abbrev SL:Stmt:=top 17
theorem scRowOf:ZP ["line","width","byte"] ["line","width"] (Zh SL):=⟨rfl,rfl,rfl,by decide +kernel,rfl,by decide +kernel,by decide +kernel⟩
noncomputable def OT(K:PySem.W.Frag):Sp:=fun vs H Q _=>∃(a:Addr)(l:List Int)(n:Nat),vs=[.ref a,.int (n:Int)]/\SqL K H a (ZQ l)/\l.length<=17000/\
 ∀H' v,Same H H'->ResL H H' v (if Xq n l=true then some (l.map cellOf)else none)->Q v H'
theorem ok_rowOf{f:Addr}{fd:FuncData}(F:Fun K "row_of" "row_of" SL f fd)(T:TxtG mg):FnOk P w K mg base CX0 1 f fd ["line","width"] (OT K):=by
 refine F.ok scRowOf (fun vs H Q E h=>?_) (fun cdv A outer s H vs Q E hr h=>?_)
 ·obtain⟨a,l,n,rfl,_⟩:=h
  rfl
 ·obtain⟨a,l,n,rfl,hS,hl,k⟩:=h
  have nd:=scRowOf.nd
  refine⟨_,(Zk (Xm (PW.pt (Rz (Yx LG (Yf Yn (by rfl) T.n_len Xz (Zb (pv 0) Zn)) (pv 1) (YU _)) (UR (Vh (Wj (Yf (Lg rfl) (by rfl) T.n_all boot_all (Zb (X1 rfl nd (YN (pv 0)) (own:=[("byte",2)]) (Yr (by kernel_rfl)) (fun _ _ _ _ _=>(Z2 (i:=2) nd rfl (Or.inl rfl))) (fun _ _ _ _ _=>Y4) (fun _ _ _ _ _=>(Vq (op_inK (K:=K) rfl) (pv 2) (Ue (Zb (pe_g rfl T.g_PAINTED_BYTE) (Zb (pe_g rfl T.g_CLEAR_BYTE) Zn))) (by with_unfolding_all rfl)))) Zn))))))) (Zr (ZN Wk)) Yy)
   (Zr (ZN (X1 rfl nd (YN (pv 0)) (own:=[("byte",2)]) (Yr (by kernel_rfl)) (fun _ _ _ _ _=>(Z2 (i:=2) nd rfl (Or.inl rfl))) (fun _ _ _ _ _=>Y4) (fun _ _ _ _ _=>(Vs (Yx UG (pv 2) (pe_g rfl T.g_PAINTED_BYTE) (YU _)) ZE ZE)))))),?_⟩
  have no:∀H',Same H H'->Xq n l=false->Q .non H':=fun H' s e=>k _ _ s (by rw[e];rfl)
  have hz:(ZQ l).length<=sizeLine:=by rw[Za];exact Zi hl (by decide)
  refine⟨_,rfl,_,_,rfl,.inl hS,_,rfl,rfl,_,rfl,ite2 (fun q=>iteT (no _ (Same.refl H) ?_)) (fun q=>?_)⟩
  ·have q':¬l.length=n:=by simp at q;omega
   unfold Xq
   rw[decide_eq_false q']
   rfl
  have q1:l.length=n:=by simp at q;omega
  refine⟨_,rfl,a,rfl,⟨_,hS⟩,fun D hD=>Ng (K:=K) (xs:=ZQ l) (fun i y _=>∃b,l[i]?=some b/\y=.bl (decide (b=35)||decide (b=46))) hS hz hD (fun _=>rfl)
   (fun _ _ _ _ h=>h) (fun _ _ _ _ h _=>h) (fun i x H' R hx s1 _ hR=>?_) (fun ys H' hyl s1 hy he=>?_)⟩
  ·obtain⟨z,hz,rfl⟩:=int_at hx
   refine⟨_,rfl,(by decide),fun t ht=>⟨t,[.int 35,.int 46],rfl,.inr (SqT.of Zf),rfl,rfl,hR _ _ (Same.new ht) ⟨z,hz,?_⟩⟩⟩
   show V.bl (inV (.int z) [.int 35,.int 46])=_
   unfold inV eqV
   simp only[Yt,List.any_nil,Bool.or_false]
   congr 1
   have e1:((35:Int)==z)=decide (z=35):=by rw[Yd];simp;exact eq_comm
   have e2:((46:Int)==z)=decide (z=46):=by rw[Yd];simp;exact eq_comm
   rw[e1,e2]
  ·have ey:ys=l.map fun b=>V.bl (decide (b=35)||decide (b=46)):=RF (by rw[hyl,Za]) he
   refine⟨D,l.map fun b=>decide (b=35)||decide (b=46),rfl,SqL.of (by rw[hy,ey,Yg];rfl),_,rfl,ite2 (fun q=>no _ s1 ?_) (fun q=>?_)⟩
   ·have q':=UB q
    unfold Xq
    rw[List.all_map]at q'
    have q2:l.all (fun b=>decide (b=35)||decide (b=46))=false:=q'
    rw[q2,X4]
   ·have q':=UC q
    have hok:Xq n l=true:=by
     unfold Xq
     rw[List.all_map]at q'
     have q2:l.all (fun b=>decide (b=35)||decide (b=46))=true:=q'
     rw[q2,decide_eq_true q1]
     rfl
    rw[if_pos hok]at k
    refine⟨_,rfl,a,rfl,⟨_,s1.seq hS⟩,fun d hd=>QG (K:=K) (xs:=ZQ l) (fun v=>if v=.int 35 then .int 1 else .int 0) (s1.seq hS) hz hd (fun _=>rfl) (fun i x H' R hx _ hR=>?_) ?_⟩
    ·obtain⟨z,hz,rfl⟩:=int_at hx
     refine⟨_,rfl,rfl,_,rfl,ite2 (fun e=>?_) (fun e=>?_)⟩
     ·rw[if_pos (by simpa using e)]at hR;exact hR
     ·rw[if_neg (by simpa using e)]at hR;exact hR
    ·refine k _ _ (s1.trans (Same.new hd)) ⟨d,rfl,s1.free hd,?_⟩
     show upd _ d _ d=_
     rw[Zf]
     congr 2
     unfold ZQ
     rw[Yg,Yg]
     refine Xh fun b _=>?_
     show(if V.int b=V.int 35 then V.int 1 else .int 0)=V.int (cellOf b)
     unfold cellOf
     by_cases q:b=35
     ·rw[if_pos q,if_pos (by rw[q])]
     ·rw[if_neg q,if_neg (by simpa using q)]
noncomputable def ResRows(H H':Hp)(v:V)(n m:Nat):Option (Nat->Nat->Bool)->Prop
 |none=>v=.non
 |some p=>∃R as,v=.ref R/\H R=none/\(∀a∈as,H a=none)/\XM H' R as n m p
structure RowsI(H1:Hp)(D:Addr)(n:Nat)(ls:List (List Int))(ys:List V)(H:Hp):Prop where
 same:Same H1 H
 at_:H D=some (.lst ys)
 item:∀(j:Nat) y,ys[j]?=some y->∃l,ls[j]?=some l/\(if Xq n l=true then∃p,y=.ref p/\p≠D/\H1 p=none/\LI H p (l.map cellOf)else y=.non)
 inj:∀(i j:Nat) p,ys[i]?=some (.ref p)->ys[j]?=some (.ref p)->i=j
theorem Sg{α:Type}{l:List α}{a z:α}{j:Nat}(h:(l++[a])[j]?=some z):l[j]?=some z\/(j=l.length/\z=a):=by
 by_cases q:j<l.length
 ·rw[Xk q]at h;exact .inl h
 ·rw[XI (by omega)]at h
  rcases Nat.eq_zero_or_pos (j-l.length)with e|e
  ·rw[e]at h
   exact .inr ⟨by omega,by simpa using h.symm⟩
  ·rw[Z7 (by simp;omega)]at h;cases h
theorem RowsI.snoc{H1 H H':Hp}{D:Addr}{n:Nat}{ls:List (List Int)}{ys:List V}{l:List Int}{y:V}(I:RowsI H1 D n ls ys H)(hD:H1 D=none)(hl:ls[ys.length]?=some l)(s:Same H H')(hr:ResL H H' y (if Xq n l=true then some (l.map cellOf)else none)):
  RowsI H1 D n ls (ys++[y]) (upd H' D (.lst (ys++[y]))):=by
 refine⟨Xg hD (I.same.trans s),Zf,fun j z hj=>?_,fun i j p hi hj=>?_⟩
 ·rcases Sg hj with hj|⟨rfl,rfl⟩
  ·obtain⟨l',h1,h2⟩:=I.item j z hj
   refine⟨l',h1,?_⟩
   by_cases q:Xq n l'=true
   ·rw[if_pos q]at h2⊢
    obtain⟨p,e,np,n1,h⟩:=h2
    exact⟨p,e,np,n1,by show upd _ D _ p=_;rw[Zt np];exact s _ _ h⟩
   ·rw[if_neg q]at h2⊢
    exact h2
  ·refine⟨l,hl,?_⟩
   by_cases q:Xq n l=true
   ·rw[if_pos q]at hr⊢
    obtain⟨p,e,np,h⟩:=hr
    have pD:p≠D:=fun z=>by rw[z,I.at_]at np;cases np
    exact⟨p,e,pD,I.same.free np,by show upd _ D _ p=_;rw[Zt pD];exact h⟩
   ·rw[if_neg q]at hr⊢
    exact hr
 ·have old:∀(j:Nat),ys[j]?=some (.ref p)->∃o,H p=some o:=fun j hj=>by
   obtain⟨l',_,h2⟩:=I.item j _ hj
   by_cases q:Xq n l'=true
   ·rw[if_pos q]at h2
    obtain⟨p',e,_,_,h⟩:=h2
    cases e
    exact⟨_,h⟩
   ·rw[if_neg q]at h2;cases h2
  have new:V.ref p=y->H p=none:=fun e=>by
   by_cases q:Xq n l=true
   ·rw[if_pos q]at hr
    obtain⟨p',e',np,_⟩:=hr
    rw[<-e]at e'
    cases e'
    exact np
   ·rw[if_neg q]at hr
    have hr:y=.non:=hr
    rw[hr]at e;cases e
  rcases Sg hi with hi|⟨ei,e⟩<;>rcases Sg hj with hj|⟨ej,e'⟩
  ·exact I.inj i j p hi hj
  ·obtain⟨o,ho⟩:=old i hi
   rw[new e']at ho;cases ho
  ·obtain⟨o,ho⟩:=old j hj
   rw[new e]at ho;cases ho
  ·omega
theorem all_ok{n:Nat}{H1 H:Hp}{D:Addr}:∀{ls:List (List Int)}{ys:List V},ys.length=ls.length->(∀(j:Nat) y,ys[j]?=some y->∃l,ls[j]?=some l/\(if Xq n l=true then∃p,y=.ref p/\p≠D/\H1 p=none/\LI H p (l.map cellOf)else y=.non))->
  (ls.all (Xq n)=false/\ys.any Sr=true)\/(ls.all (Xq n)=true/\ys.any Sr=false/\∃as,ys=ZV as/\as.length=ls.length/\(∀a∈as,a≠D/\H1 a=none)/\∀(j:Nat) a,as[j]?=some a->∃l,ls[j]?=some l/\LI H a (l.map cellOf))
 |[],[],_,_=>.inr ⟨rfl,rfl,[],rfl,rfl,by simp,by simp⟩
 |[],_::_,h,_=>by simp at h
 |_::_,[],h,_=>by simp at h
 |l::ls,y::ys,h,r=>by
  obtain⟨l',e,h0⟩:=r 0 y rfl
  have e:l=l':=by simpa using e
  subst e
  have ih:=all_ok (ls:=ls) (ys:=ys) (by simpa using h) fun j z hz=>by
   obtain⟨l',e,h1⟩:=r (j+1) z (by simpa using hz)
   exact⟨l',by simpa using e,h1⟩
  by_cases q:Xq n l=true
  ·rw[if_pos q]at h0
   obtain⟨p,rfl,pD,pn,hp⟩:=h0
   rcases ih with⟨h1,h2⟩|⟨h1,h2,as,h3,h4,h5,h6⟩
   ·exact .inl ⟨by rw[XZ,h1,X4],by rw[Yt,h2,Bool.or_true]⟩
   ·refine .inr ⟨by rw[XZ,h1,q];rfl,by rw[Yt,h2];rfl,p::as,by rw[h3];rfl,by rw[Zo,h4];rfl,?_,?_⟩
    ·intro a ha
     rcases Zw.mp ha with rfl|ha
     ·exact⟨pD,pn⟩
     ·exact h5 a ha
    ·intro j a ha
     cases j with
     |zero=>simp at ha;subst ha;exact⟨l,rfl,hp⟩
     |succ j=>exact h6 j a (by simpa using ha)
  ·rw[if_neg q]at h0
   subst h0
   refine .inl ⟨?_,rfl⟩
   have q':Xq n l=false:=by simpa using q
   rw[XZ,q']
   rfl
theorem KP{l:List Int}{n:Nat}(h:Xq n l=true):l.map cellOf=rowP n fun i=>decide (l.getD i 46=35):=by
 unfold Xq at h
 rw[Zv,decide_eq_true_eq]at h
 refine Ve fun i=>?_
 by_cases hi:i<n
 ·rw[X6 hi,ZA,Z8,Zu (by omega)]
  show some (cellOf _)=some (b2i (decide (_=(35:Int))))
  unfold cellOf b2i
  simp
 ·rw[Z7 (by simp;omega),Z7 (by rw[Yh];omega)]
theorem Ku{α:Type}{l:List α}(h:∀(i j:Nat) x,l[i]?=some x->l[j]?=some x->i=j):l.Nodup:=by
 refine Xl.mpr fun i j hi hj hij e=>?_
 have:=h i j l[i] (Zu hi) (by rw[Zu hj,e])
 omega
noncomputable abbrev Th:Stmt:=top 16
theorem scRowsOf:ZP ["text","width","height","lines","rows","line"] ["text","width","height"] (Zh Th):=⟨rfl,rfl,rfl,by decide +kernel,rfl,by decide +kernel,by decide +kernel⟩
noncomputable def Qj(K:PySem.W.Frag):Sp:=fun vs H Q _=>∃(a:Addr)(t:List Int)(n m:Nat),vs=[.ref a,.int (n:Int),.int (m:Int)]/\SqL K H a (ZQ t)/\t.length<=17000/\
 ∀H' v,Same H H'->ResRows H H' v n m (if VT n m (cutI 10 [] t)=true then some (U7 (cutI 10 [] t))else none)->Q v H'
theorem Kq{f:Addr}{fd:FuncData}(F:Fun K "rows_of" "rows_of" Th f fd)(T:TxtG mg)(C_split_at:Callee P w K mg base "split_at" 1 ["text","separator"] (Te K))(C_row_of:Callee P w K mg base "row_of" 1 ["line","width"] (OT K)):
  FnOk P w K mg base CX0 2 f fd ["text","width","height"] (Qj K):=by
 refine F.ok scRowsOf (fun vs H Q E h=>?_) (fun cdv A outer s H vs Q E hr h=>?_)
 ·obtain⟨a,t,n,m,rfl,_⟩:=h
  rfl
 ·obtain⟨a,t,n,m,rfl,hS,hl,k⟩:=h
  have nd:=scRowsOf.nd
  refine⟨_,(Zk (ZZ (i:=3) nd rfl (Or.inl rfl) (ZU C_split_at hr rfl (Zb (pv 0) (Zb (pe_g rfl T.g_LINE_END) Zn))))
   (Zk (Xm (Yx LG (Yf Yn (by rfl) T.n_len Xz (Zb (pv 3) Zn)) (pv 2) (YU _)) (Zr (ZN Wk)) Yy)
   (Zk (Sk (i:=4) rfl nd rfl rfl (RP rfl rfl rfl rfl) (RB (by rfl) T.n_reversed (Zb (pv 3) Zn)) (own:=[("line",5)]) (Yr (by kernel_rfl)) (fun _ _ _ _ _=>(Z2 (i:=5) nd rfl (Or.inl rfl))) (fun _ _ _ _ _=>Y4) (fun _ _ _ _ _=>(ZU C_row_of hr rfl (Zb (pv 5) (Zb (pv 1) Zn)))))
   (Zr (ZN (Vs (Yx (Rc hr.units) Wk (pv 4) (by with_unfolding_all rfl)) Wk (pv 4))))))),?_⟩
  have hc:=UA (sep:=10) hl
  refine⟨_,rfl,a,t,10,rfl,hS,hl,fun H1 p as s1 hp hL=>?_⟩
  revert hL k hc
  generalize cutI 10 [] t=ls
  intro k hc hL
  have hlen:as.length=ls.length:=Zy hL.each
  have no:∀H',Same H H'->VT n m ls=false->Q .non H':=fun H' s e=>k _ _ s (by rw[e];rfl)
  refine⟨_,rfl,_,_,rfl,.inl (SqL.of hL.at_),_,rfl,rfl,_,rfl,ite2 (fun q=>no _ s1 ?_) (fun q=>?_)⟩
  ·have q':¬ls.length=m:=by simp at q;omega
   unfold VT
   rw[decide_eq_false q']
   rfl
  have q1:ls.length=m:=by simp at q;omega
  have hrev:(ZV as).reverse=ZV as.reverse:=by unfold ZV;rw[List.map_reverse]
  refine⟨_,rfl,p,_,rfl,SqL.of hL.at_,fun D hD=>lc_genR (K:=K) (xs:=ZV as) (fun ys H'=>RowsI H1 D n ls.reverse ys H') ⟨Xg hD (Same.refl _),Zf,by simp,by simp⟩ (fun ys H' I=>SqL.of (I.same _ _ hL.at_))
   (by rw[Za,hlen];exact Zi hc.1 (by decide)) (fun _=>rfl) (fun ys H' I=>I.at_) (fun ys x H' R hx I hR=>?_) (fun ys H' hyl I=>?_)⟩
  ·have hlt:ys.length<as.length:=by
    have:=(Zd.mp hx).1
    simpa using this
   rw[XN (by simpa using hlt),Za]at hx
   obtain⟨z,hz,rfl⟩:=Xr hx
   obtain⟨l,hl',hq⟩:=Z4 hL.each hz
   have hlr:ls.reverse[ys.length]?=some l:=by
    rw[XN (by omega),<-hlen]
    exact hl'
   exact⟨_,rfl,_,rfl,z,l,n,rfl,SqL.of (I.same _ _ hq),hc.2 l (Zp hl'),fun H'' v s2 hres=>hR v H'' (s2 _ _ I.at_) (I.snoc hD hlr s2 hres)⟩
  ·rw[Za]at hyl
   have s2:Same H H':=s1.trans I.same
   have hA:=all_ok (by rw[V3];omega) I.item
   refine⟨_,rfl,rfl,D,ys,rfl,SqL.of I.at_,?_,_,rfl,?_⟩
   ·intro v hv
    obtain⟨i,hi⟩:=Zx.mp hv
    obtain⟨l,_,h2⟩:=I.item i v hi
    by_cases q:Xq n l=true
    ·rw[if_pos q]at h2
     obtain⟨p,rfl,_,_,h⟩:=h2
     exact .inl ⟨_,SqL.of h⟩
    ·rw[if_neg q]at h2
     subst h2
     trivial
   ·have er:VT n m ls=ls.reverse.all (Xq n):=by
     unfold VT
     rw[decide_eq_true q1,List.all_reverse]
     rfl
    rcases hA with⟨h1,h2⟩|⟨h1,h2,as',h3,h4,h5,h6⟩
    ·rw[h2]
     exact iteT (no _ s2 (by rw[er,h1]))
    ·rw[h2]
     refine iteF ⟨_,rfl,k _ _ s2 ?_⟩
     rw[er,h1,if_pos rfl]
     refine⟨D,as',rfl,s1.free hD,fun a ha=>s1.free (h5 a ha).2,⟨by rw[I.at_,h3],by rw[h4,V3,q1],?_,fun q=>(h5 D q).1 rfl,?_⟩⟩
     ·refine Ku fun i j x hi hj=>I.inj i j x ?_ ?_
      ·rw[h3,ZA,hi];rfl
      ·rw[h3,ZA,hj];rfl
     ·intro j a ha
      obtain⟨l,hl',hq⟩:=h6 j a ha
      have hok:=Xd.mp h1 l (Zp hl')
      rw[hq,KP hok]
      congr 3
      refine VS fun i _=>?_
      unfold U7
      rw[Z8 (l:=ls.reverse),hl']
      rfl
end
end Cp
end
section
namespace Cp
open PySem PySem.Spec PyProof.Rows L2 Ma
section
variable{P:Program}{w:World}{K:PySem.W.Frag}{mg:Str->Option Value}{base:Heap}{cGrid:Addr}
noncomputable def Vx(G:Vamato.Grid)(R:Addr):List (Str×V):=[("left",.int G.left),("low",.int G.low),("width",.int (G.width:Int)),("height",.int (G.height:Int)),("size",.int G.size),("rows",.ref R)]
structure GOk(G:Vamato.Grid):Prop where
 w1:1<=G.width
 w2:G.width<=40
 h1:1<=G.height
 h2:G.height<=40
 s1:1<=G.size
 s2:G.size<=100000
 l1: -1000000000<=G.left
 l2:G.left<=1000000000
 b1: -1000000000<=G.low
 b2:G.low<=1000000000
 told:Told G
structure Ys(C:Addr)(H:Hp)(g:Addr)(G:Vamato.Grid)(R:Addr)(as:List Addr):Prop where
 at_:∃dx,H g=some (.ins C dx (Vx G R))
 rows:XM H R as G.width G.height G.painted
 ok:GOk G
structure TxtC(K:PySem.W.Frag)(mg:Str->Option Value)(cGrid:Addr):Prop where
 n_len:mg "len"=none
 n_range:mg "range"=none
 n_enumerate:mg "enumerate"=none
 n_max:mg "max"=none
 n_min:mg "min"=none
 n_list:mg "list"=none
 cl:Cls K cGrid
 a_left:X9 K cGrid "left"
 a_low:X9 K cGrid "low"
 a_width:X9 K cGrid "width"
 a_height:X9 K cGrid "height"
 a_size:X9 K cGrid "size"
 a_rows:X9 K cGrid "rows"
 n_sum:mg "sum"=none
 g_CLEAR:GV mg "CLEAR" (.int 0)
section
variable(G:Vamato.Grid)(R:Addr)
theorem gF_left:(Vx G R).lookup ("left":Str)=some (.int G.left):=Vw
theorem gF_low:(Vx G R).lookup ("low":Str)=some (.int G.low):=X0 Yz Vw
theorem Sv:(Vx G R).lookup ("width":Str)=some (.int (G.width:Int)):=X0 Yz (X0 Yz Vw)
theorem Ts:(Vx G R).lookup ("height":Str)=some (.int (G.height:Int)):=X0 Yz (X0 Yz (X0 Yz Vw))
theorem LR:(Vx G R).lookup ("size":Str)=some (.int G.size):=X0 Yz (X0 Yz (X0 Yz (X0 Yz Vw)))
theorem Wr:(Vx G R).lookup ("rows":Str)=some (.ref R):=X0 Yz (X0 Yz (X0 Yz (X0 Yz (X0 Yz Vw))))
theorem Wl{m:Str}(h1:(m==("left":Str))=false:=by decide)(h2:(m==("low":Str))=false:=by decide)(h3:(m==("width":Str))=false:=by decide)(h4:(m==("height":Str))=false:=by decide)
  (h5:(m==("size":Str))=false:=by decide) (h6:(m==("rows":Str))=false:=by decide):(Vx G R).lookup m=none:=
 (Yz h1).trans ((Yz h2).trans ((Yz h3).trans ((Yz h4).trans ((Yz h5).trans ((Yz h6).trans rfl)))))
end
theorem Ww(x y:V):[x,y].length<=sizeLine:=(by show 2<=sizeLine;decide)
noncomputable abbrev P3:Stmt:=XG (top 5) 3
theorem scHasR:ZP ["self","j"] ["self","j"] (Zh P3):=⟨rfl,rfl,rfl,by decide +kernel,rfl,by decide +kernel,by decide +kernel⟩
noncomputable def RG(G:Vamato.Grid)(j:Int):Bool:=decide (0<=j)&&decide (j<(G.height:Int))
noncomputable def OW(C:Addr):Sp:=fun vs H Q _=>∃(g:Addr)(G:Vamato.Grid)(R:Addr)(as:List Addr)(j:Int),vs=[.ref g,.int j]/\Ys C H g G R as/\Q (.bl (RG G j)) H
theorem ok_hasR{f:Addr}{fd:FuncData}(F:Fun K "has_row" "Grid.has_row" P3 f fd)(T:TxtC K mg cGrid):FnOk P w K mg base CX0 1 f fd ["self","j"] (OW cGrid):=by
 refine F.ok scHasR (fun vs H Q E h=>?_) (fun cdv A outer s H vs Q E hr h=>?_)
 ·obtain⟨g,G,R,as,j,rfl,_⟩:=h
  rfl
 ·obtain⟨g,G,R,as,j,rfl,hG,k⟩:=h
  have nd:=scHasR.nd
  obtain⟨dx,hg⟩:=hG.at_
  have ret:∀b,RG G j=b->Q (.bl b) H:=fun b e=>by rw[<-e];exact k
  refine⟨_,(Zr (ZN (Vt X7 TH ZE (pv 1) (YT (pv 0) rfl)))),?_⟩
  refine⟨_,rfl,_,_,rfl,rfl,_,rfl,ite2 (fun e3=>?_) (fun e3=>ret _ ?_)⟩
  ·have e3':0<=j:=of_decide_eq_true e3
   refine⟨_,rfl,g,cGrid,dx,_,_,rfl,hg,T.cl,T.a_height,Ts G R,_,_,rfl,rfl,ret _ ?_⟩
   unfold RG
   simp[e3']
  ·have e3':¬0<=j:=by simpa using e3
   unfold RG
   simp[e3']
noncomputable abbrev sHas:Stmt:=XG (top 5) 2
theorem scHas:ZP ["self","i","j"] ["self","i","j"] (Zh sHas):=⟨rfl,rfl,rfl,by decide +kernel,rfl,by decide +kernel,by decide +kernel⟩
noncomputable def Pw(C:Addr):Sp:=fun vs H Q _=>∃(g:Addr)(G:Vamato.Grid)(R:Addr)(as:List Addr)(i j:Int),vs=[.ref g,.int i,.int j]/\Ys C H g G R as/\Q (.bl (Vamato.isCell G i j)) H
theorem ok_has{f:Addr}{fd:FuncData}(F:Fun K "has_cell" "Grid.has_cell" sHas f fd)(T:TxtC K mg cGrid)(M_Grid_has_row:Y5 P w K mg base cGrid "has_row" 1 ["self","j"] (OW cGrid)):FnOk P w K mg base CX0 2 f fd ["self","i","j"] (Pw cGrid):=by
 refine F.ok scHas (fun vs H Q E h=>?_) (fun cdv A outer s H vs Q E hr h=>?_)
 ·obtain⟨g,G,R,as,i,j,rfl,_⟩:=h
  rfl
 ·obtain⟨g,G,R,as,i,j,rfl,hG,k⟩:=h
  have nd:=scHas.nd
  obtain⟨dx,hg⟩:=hG.at_
  have ret:∀b,Vamato.isCell G i j=b->Q (.bl b) H:=fun b e=>by rw[<-e];exact k
  refine⟨_,(Zr (ZN (S9 (Vt X7 TH ZE (pv 1) (YT (pv 0) rfl)) (S8 (YW (pv 0) M_Grid_has_row hr (Zb (pv 2) Zn)))))),?_⟩
  refine⟨_,rfl,_,_,rfl,rfl,_,rfl,ite2 (fun e1=>?_) (fun e1=>?_)⟩
  ·have e1':0<=i:=of_decide_eq_true e1
   refine⟨_,rfl,g,cGrid,dx,_,_,rfl,hg,T.cl,T.a_width,Sv G R,_,_,rfl,rfl,_,rfl,ite2 (fun e2=>?_) (fun e2=>ret _ ?_)⟩
   ·have e2':i<(G.width:Int):=of_decide_eq_true e2
    refine⟨_,rfl,g,dx,_,rfl,hg,Wl G R,_,rfl,g,G,R,as,j,rfl,hG,ret _ ?_⟩
    unfold Vamato.isCell RG
    simp[e1',e2']
   ·have e2':¬i<(G.width:Int):=by simpa using e2
    unfold Vamato.isCell
    simp[e2']
  ·refine⟨_,rfl,iteF (ret _ ?_)⟩
   have e1':¬0<=i:=by simpa using e1
   unfold Vamato.isCell
   simp[e1']
theorem inV2(z a b:Int):inV (.int z) [.int a,.int b]=(decide (z=a)||decide (z=b)):=by
 unfold inV eqV
 simp only[Yt,List.any_nil,Bool.or_false]
 have e1:(a==z)=decide (z=a):=by rw[Yd];simp;exact eq_comm
 have e2:(b==z)=decide (z=b):=by rw[Yd];simp;exact eq_comm
 rw[e1,e2]
noncomputable abbrev Oa:Stmt:=XG (top 5) 4
theorem scBord:ZP ["self","i","j"] ["self","i","j"] (Zh Oa):=⟨rfl,rfl,rfl,by decide +kernel,rfl,by decide +kernel,by decide +kernel⟩
noncomputable def Mm(G:Vamato.Grid)(i j:Int):Bool:=(decide (i=0)||decide (i=(G.width:Int)-1))||(decide (j=0)||decide (j=(G.height:Int)-1))
noncomputable def MM(C:Addr):Sp:=fun vs H Q _=>∃(g:Addr)(G:Vamato.Grid)(R:Addr)(as:List Addr)(i j:Int),vs=[.ref g,.int i,.int j]/\Ys C H g G R as/\∀H',Same H H'->Q (.bl (Mm G i j)) H'
theorem ok_bord{f:Addr}{fd:FuncData}(F:Fun K "is_at_border" "Grid.is_at_border" Oa f fd)(T:TxtC K mg cGrid):FnOk P w K mg base CX0 1 f fd ["self","i","j"] (MM cGrid):=by
 refine F.ok scBord (fun vs H Q E h=>?_) (fun cdv A outer s H vs Q E hr h=>?_)
 ·obtain⟨g,G,R,as,i,j,rfl,_⟩:=h
  rfl
 ·obtain⟨g,G,R,as,i,j,rfl,hG,k⟩:=h
  have nd:=scBord.nd
  obtain⟨dx,hg⟩:=hG.at_
  refine⟨_,(Zr (ZN (pe_or (Vq Rb (pv 1) (Ue (Zb ZE (Zb (Xf VA (YT (pv 0) rfl) ZE) Zn))) (by with_unfolding_all rfl)) (S8 (Vq Rb (pv 2) (Ue (Zb ZE (Zb (Xf VA (YT (pv 0) rfl) ZE) Zn))) (by with_unfolding_all rfl)))))),?_⟩
  refine⟨_,rfl,_,rfl,g,cGrid,dx,_,_,rfl,hg,T.cl,T.a_width,Sv G R,_,_,rfl,rfl,Ww _ _,fun t ht=>⟨t,[.int 0,.int ((G.width:Int)-1)],rfl,.inr (SqT.of Zf),rfl,rfl,_,rfl,?_⟩⟩
  have e1:(if false=true then !inV (.int i) [.int 0,.int ((G.width:Int)-1)]else inV (.int i) [.int 0,.int ((G.width:Int)-1)])=(decide (i=0)||decide (i=(G.width:Int)-1)):=by
   rw[if_neg (by simp),inV2]
  have s1:Same H (L2.upd H t (.tup [.int 0,.int ((G.width:Int)-1)])):=Same.new ht
  generalize L2.upd H t (.tup [.int 0,.int ((G.width:Int)-1)])=H1 at s1⊢
  refine ite2 (fun e=>?_) (fun e=>?_)
  ·rw[e1]at e
   have:=k H1 s1
   unfold Mm at this
   rw[e]at this
   exact this
  ·rw[e1]at e
   have e':(decide (i=0)||decide (i=(G.width:Int)-1))=false:=by simpa using e
   refine⟨_,rfl,_,rfl,g,cGrid,dx,_,_,rfl,s1 _ _ hg,T.cl,T.a_height,Ts G R,_,_,rfl,rfl,Ww _ _,fun t2 ht2=>⟨t2,[.int 0,.int ((G.height:Int)-1)],rfl,.inr (SqT.of Zf),rfl,rfl,?_⟩⟩
   have:=k _ (s1.trans (Same.new (o:=.tup [.int 0,.int ((G.height:Int)-1)]) ht2))
   unfold Mm at this
   rw[e',Bool.false_or,<-inV2]at this
   exact this
theorem rowV_set{n i:Nat}{q:Nat->Bool}{v:Bool}:(ZQ (rowP n q)).set i (.int (b2i v))=ZQ (rowP n fun k=>if k=i then v else q k):=by
 refine Ve fun k=>?_
 by_cases hk:k<n
 ·rw[ZA,X6 hk]
  by_cases e:i=k
  ·subst e
   rw[W8 (by rw[Za,Yh];exact hk),if_pos rfl]
   rfl
  ·rw[VE e,ZA,X6 hk,if_neg (Yq e)]
 ·rw[Z7 (by rw[List.length_set,Za,Yh];omega),Z7 (by rw[Za,Yh];omega)]
theorem XM.set{H:Hp}{R c:Addr}{as:List Addr}{n m i j:Nat}{p:Nat->Nat->Bool}{v:Bool}(h:XM H R as n m p)(hc:as[j]?=some c):
  XM (L2.upd H c (.lst ((ZQ (rowP n fun k=>p k j)).set i (.int (b2i v))))) R as n m (updP p i j v):=by
 have hRc:R≠c:=fun e=>h.out (e▸Zp hc)
 refine⟨by rw[Zt hRc];exact h.at_,h.len,h.nd,h.out,fun j' a ha=>?_⟩
 by_cases e:j'=j
 ·subst e
  have:c=a:=ZC (hc.symm.trans ha)
  subst this
  rw[Zf,rowV_set]
  congr 3
  refine VS fun k _=>?_
  unfold updP
  by_cases q:k=i
  ·rw[if_pos q,if_pos ⟨q,rfl⟩]
  ·rw[if_neg q,if_neg (fun z=>q z.1)]
 ·have hac:a≠c:=fun z=>e (nd_ix h.nd ha (z▸hc))
  rw[Zt hac,h.row j' a ha]
  congr 3
  refine VS fun k _=>?_
  unfold updP
  rw[if_neg (fun z=>e z.2)]
noncomputable def setG(G:Vamato.Grid)(i j:Nat)(v:Bool):Vamato.Grid:=G.with (updP G.painted i j v)
theorem GOk.with{G:Vamato.Grid}(h:GOk G)(f:Nat->Nat->Bool):GOk (G.with f):=⟨h.w1,h.w2,h.h1,h.h2,h.s1,h.s2,h.l1,h.l2,h.b1,h.b2,VN G f⟩
theorem XM.congr{H:Hp}{R:Addr}{as:List Addr}{n m:Nat}{p q:Nat->Nat->Bool}(h:XM H R as n m p)(e:∀i j,i<n->j<m->p i j=q i j):XM H R as n m q:=
 ⟨h.at_,h.len,h.nd,h.out,fun j a ha=>by
  rw[h.row j a ha]
  have hj:j<m:=by rw[<-h.len];exact(Zd.mp ha).1
  congr 3
  exact VS fun i hi=>e i j hi hj⟩
theorem Ys.re{C:Addr}{H H':Hp}{g R R':Addr}{G:Vamato.Grid}{as as':List Addr}(h:Ys C H g G R as){f:Nat->Nat->Bool}(hg:∃dx,H' g=some (.ins C dx (Vx G R')))(hr:XM H' R' as' G.width G.height f):Ys C H' g (G.with f) R' as':=
 ⟨hg,hr.congr fun i j hi hj=>by
  show f i j=(G.with f).painted i j
  rw[Wp]
  have h1:decide (i<G.width)=true:=decide_eq_true hi
  have h2:decide (j<G.height)=true:=decide_eq_true hj
  rw[h1,h2]
  rfl,h.ok.with f⟩
noncomputable def Xi(as:List Addr)(H H':Hp):Prop:=∀b o,H b=some o->b∉as->H' b=some o
theorem b2i_inj{a b:Bool}:b2i a=b2i b↔a=b:=by cases a<;>cases b<;>simp[b2i]
noncomputable abbrev Pz:Stmt:=XG (top 5) 5
theorem scTurn:ZP ["self","i","j","way","changed"] ["self","i","j","way"] (Zh Pz):=⟨rfl,rfl,rfl,by decide +kernel,rfl,by decide +kernel,by decide +kernel⟩
noncomputable def Qg(C:Addr):Sp:=fun vs H Q _=>∃(g:Addr)(G:Vamato.Grid)(R:Addr)(as:List Addr)(i j:Nat)(v:Bool),vs=[.ref g,.int (i:Int),.int (j:Int),.int (b2i v)]/\Ys C H g G R as/\i<G.width/\j<G.height/\
 ∀H',Ys C H' g (setG G i j v) R as->Xi as H H'->Q (.int (if G.painted i j=v then 0 else 1)) H'
theorem ok_turn{f:Addr}{fd:FuncData}(F:Fun K "turn" "Grid.turn" Pz f fd)(T:TxtC K mg cGrid):FnOk P w K mg base CX0 1 f fd ["self","i","j","way"] (Qg cGrid):=by
 refine F.ok scTurn (fun vs H Q E h=>?_) (fun cdv A outer s H vs Q E hr h=>?_)
 ·obtain⟨g,G,R,as,i,j,v,rfl,_⟩:=h
  rfl
 ·obtain⟨g,G,R,as,i,j,v,rfl,hG,hi,hj,k⟩:=h
  have nd:=scTurn.nd
  obtain⟨dx,hg⟩:=hG.at_
  obtain⟨c,hc⟩:∃c,as[j]?=some c:=⟨_,Zu (by rw[hG.rows.len];exact hj)⟩
  have hrow:=hG.rows.row j c hc
  have hgc:g≠c:=We hg hrow (by intro q;cases q)
  refine⟨_,(Zk (ZZ (i:=4) nd rfl (Or.inl rfl) (Vs (Yx UG (Xt YQ (Xt YQ (YT (pv 0) rfl) (pv 2) (fun _ _=>rfl)) (pv 1) (fun _ _=>rfl)) (pv 3) (YU _)) ZE ZE))
   (Zk (ps_asg (pv 3) (pg_sub (Xt YQ (YT (pv 0) rfl) (pv 2) (fun _ _=>rfl)) (pv 1) set_list))
   (Zr (ZN (pv 4))))),?_⟩
  refine⟨_,rfl,g,cGrid,dx,_,_,rfl,hg,T.cl,T.a_rows,Wr G R,_,rfl,R,_,_,_,rfl,rfl,SqL.of hG.rows.at_,Xu (j:=j) (v:=.ref c) rfl (by rw[ZA,hc];rfl),_,rfl,c,_,_,_,rfl,rfl,SqL.of hrow,
   Xu (j:=i) (v:=.int (b2i (G.painted i j))) rfl (by rw[ZA,X6 hi];rfl),_,rfl,rfl,_,rfl,?_⟩
  have fin:∀(z:Int),z=(if G.painted i j=v then 0 else 1)->(tSeq (tAsg (tVar 3) (gSub (tOp (rIxL K) (tFld K (tVar 0) "rows") (tVar 2)) (tVar 1) rSetL)) (tRet (tVar 4))) {nx:=fun _ H'=>Q .non H',rt:=Q} [some (.ref g),some (.int (i:Int)),some (.int (j:Int)),some (.int (b2i v)),some (.int z)] H:=by
   rintro z rfl
   refine⟨_,rfl,_,rfl,g,cGrid,dx,_,_,rfl,hg,T.cl,T.a_rows,Wr G R,_,rfl,R,_,_,_,rfl,rfl,SqL.of hG.rows.at_,Xu (j:=j) (v:=.ref c) rfl (by rw[ZA,hc];rfl),_,rfl,c,_,_,i,rfl,rfl,hrow,?_,?_⟩
   ·unfold ixN
    rw[if_pos (by omega),if_pos (by rw[Za,Yh];omega)]
    rfl
   ·refine⟨_,rfl,k _ (hG.re ⟨dx,by rw[Zt hgc];exact hg⟩ (hG.rows.set hc)) fun b o e hb=>?_⟩
    rw[Zt (show b≠c from fun z=>hb (z▸Zp hc))]
    exact e
  refine ite2 (fun e=>fin 0 ?_) (fun e=>fin 1 ?_)
  ·have e':G.painted i j=v:=b2i_inj.mp (by simpa using e)
   rw[if_pos e']
  ·have e':¬G.painted i j=v:=fun q=>e (by rw[q];exact decide_eq_true rfl)
   rw[if_neg e']
end
end Cp
end
section
namespace Cp
open PySem PySem.Spec PyProof.Rows L2 Ma
section
variable{P:Program}{w:World}{K:PySem.W.Frag}{mg:Str->Option Value}{base:Heap}{cGrid:Addr}
theorem QX{a s B:Int}(hs:1<=s)(hB:0<=B)(h1: -B<=a)(h2:a<=B): -B<=a/s/\a/s<=B:=by
 have hm:B*1<=B*s:=Int.mul_le_mul_of_nonneg_left hs hB
 refine⟨Int.le_ediv_of_mul_le (by omega) ?_,Int.ediv_le_of_le_mul (by omega) ?_⟩
 ·rw[Int.neg_mul];omega
 ·omega
theorem max_if(i j:Int):(if j>i then j else i)=max i j:=by
 by_cases h:j>i
 ·rw[if_pos h];omega
 ·rw[if_neg h];omega
theorem min_if(i j:Int):(if j<i then j else i)=min i j:=by
 by_cases h:j<i
 ·rw[if_pos h];omega
 ·rw[if_neg h];omega
noncomputable def Mid(z:Int):Prop:= -4000000000<=z/\z<=4000000000
noncomputable abbrev PV:Stmt:=top 7
theorem scOver:ZP ["start","end","origin","size","many","first","last"] ["start","end","origin","size","many"] (Zh PV):=⟨rfl,rfl,rfl,by decide +kernel,rfl,by decide +kernel,by decide +kernel⟩
noncomputable def MF:Sp:=fun vs H Q _=>∃(s e o z:Int)(m:Nat),vs=[.int s,.int e,.int o,.int z,.int (m:Int)]/\Mid s/\Mid e/\Mid o/\1<=z/\z<=100000/\m<=40/\∀(H':Hp)(q:Addr),Same H H'->H q=none->LI H' q (Vu s e o z m)->Q (.ref q) H'
theorem ok_over{f:Addr}{fd:FuncData}(F:Fun K "overlapped" "overlapped" PV f fd)(T:TxtC K mg cGrid):FnOk P w K mg base CX0 1 f fd ["start","end","origin","size","many"] MF:=by
 refine F.ok scOver (fun vs H Q E h=>?_) (fun cdv A outer s H vs Q E hr h=>?_)
 ·obtain⟨s,e,o,z,m,rfl,_⟩:=h
  rfl
 ·obtain⟨st,en,og,sz,m,rfl,h1,h2,h3,h4,h4',h5,k⟩:=h
  have nd:=scOver.nd
  unfold Mid at h1 h2 h3
  refine⟨_,(Zk (Xm (Yx X7 (pv 1) (pv 0) (YU _)) (Zr (ZN (Yp Zn))) Yy)
   (Zk (ZZ (i:=5) nd rfl (Or.inl rfl) (Yf (KU rfl) (by rfl) T.n_max boot_max (Zb (Xf LH (Xf VA (pv 0) (pv 2)) (pv 3)) (Zb ZE Zn))))
   (Zk (ZZ (i:=6) nd rfl (Or.inl rfl) (Yf (KS rfl) (by rfl) T.n_min boot_min (Zb (Xf LH (Xf VA (Xf VA (pv 1) ZE) (pv 2)) (pv 3)) (Zb (Xf VA (pv 4) ZE) Zn))))
   (Zr (ZN (O6 (by rfl) T.n_list (by rfl) T.n_range (Zb (pv 5) (Zb (Xf Vi (pv 6) ZE) Zn)) rfl)))))),?_⟩
  refine⟨_,rfl,_,rfl,_,_,rfl,rfl,_,rfl,ite2 (fun q=>?_) (fun q=>?_)⟩
  ·have q':en<=st:=of_decide_eq_true q
   refine⟨ZG _,fun p hp=>k _ p (Same.new hp) hp ?_⟩
   unfold Vu
   rw[if_pos q']
   exact Zf
  ·have q':¬en<=st:=by simpa using q
   have d1:=QX (a:=st-og) (s:=sz) (B:=8000000001) h4 (by omega) (by omega) (by omega)
   have d2:=QX (a:=en-1-og) (s:=sz) (B:=8000000001) h4 (by omega) (by omega) (by omega)
   refine⟨_,rfl,_,rfl,_,_,rfl,rfl,_,rfl,_,_,rfl,rfl,⟨by omega,by omega⟩,_,_,rfl,?_⟩
   refine⟨_,rfl,_,_,rfl,rfl,_,rfl,_,_,rfl,rfl,_,rfl,_,_,rfl,rfl,⟨by omega,by omega⟩,_,rfl,_,_,rfl,rfl,_,_,rfl,?_⟩
   have e1:=max_if ((st-og)/sz) 0
   have e2:=min_if ((en-1-og)/sz) ((m:Int)-1)
   refine⟨_,rfl,_,rfl,_,_,rfl,rfl,_,_,rfl,⟨by rw[e1];omega,by rw[e1];omega,by rw[e2];omega,by rw[e2];omega⟩,by rw[e1,e2];omega,fun l hl=>k _ l (Same.new hl) hl ?_⟩
   unfold Vu
   rw[if_neg q',<-e1,<-e2]
   show upd _ l _ l=_
   rw[Zf]
   unfold Qs ZQ
   rw[Yg]
   rfl
structure Uc(H1:Hp)(D:Addr)(c:Nat->List Int)(as:List Addr)(H:Hp):Prop where
 same:Same H1 H
 at_:H D=some (.lst (ZV as))
 nd:as.Nodup
 new:∀a∈as,H1 a=none/\a≠D
 row:∀(j:Nat) a,as[j]?=some a->LI H a (c j)
theorem Uc.start{H1:Hp}{D:Addr}{c:Nat->List Int}(hD:H1 D=none):Uc H1 D c [] (upd H1 D (.lst [])):=⟨Same.new hD,Zf,Wv,by simp,by simp⟩
theorem Uc.snoc{H1 H H':Hp}{D p:Addr}{c:Nat->List Int}{as:List Addr}(I:Uc H1 D c as H)(hD:H1 D=none)(s:Same H H')(hp:H p=none)(hr:LI H' p (c as.length)):Uc H1 D c (as++[p]) (upd H' D (.lst (ZV (as++[p])))):=by
 have pD:p≠D:=fun z=>by rw[z,I.at_]at hp;cases hp
 have pn:p∉as:=fun z=>by
  obtain⟨j,hj⟩:=Zx.mp z
  have h3:H p=some _:=I.row j p hj
  rw[hp]at h3;cases h3
 refine⟨Xg hD (I.same.trans s),Zf,Nc I.nd pn,fun a ha=>?_,fun j a ha=>?_⟩
 ·rcases Zs.mp ha with ha|ha
  ·exact I.new a ha
  ·have:a=p:=by simpa using ha
   subst this
   exact⟨I.same.free hp,pD⟩
 ·rcases Sg ha with ha|⟨rfl,rfl⟩
  ·show upd _ D _ a=_
   rw[Zt (I.new a (Zp ha)).2]
   exact s _ _ (I.row j a ha)
  ·show upd _ D _ a=_
   rw[Zt pD]
   exact hr
theorem Uc.rows{H1 H:Hp}{D:Addr}{n m:Nat}{p:Nat->Nat->Bool}{as:List Addr}(I:Uc H1 D (fun j=>rowP n fun i=>p i j) as H)(hl:as.length=m):XM H D as n m p:=
 ⟨I.at_,hl,I.nd,fun z=>(I.new D z).2 rfl,I.row⟩
noncomputable abbrev P1:Stmt:=top 8
theorem scInv1:ZP ["row","cell"] ["row"] (Zh P1):=⟨rfl,rfl,rfl,by decide +kernel,rfl,by decide +kernel,by decide +kernel⟩
noncomputable def MJ(K:PySem.W.Frag):Sp:=fun vs H Q _=>∃(a:Addr)(l:List Int),vs=[.ref a]/\SqL K H a (ZQ l)/\l.length<=17000/\∀(H':Hp)(q:Addr),Same H H'->H q=none->LI H' q (l.map fun z=>1-z)->Q (.ref q) H'
theorem ok_inv1{f:Addr}{fd:FuncData}(F:Fun K "inverted" "inverted" P1 f fd):FnOk P w K mg base CX0 1 f fd ["row"] (MJ K):=by
 refine F.ok scInv1 (fun vs H Q E h=>?_) (fun cdv A outer s H vs Q E hr h=>?_)
 ·obtain⟨a,l,rfl,_⟩:=h
  rfl
 ·obtain⟨a,l,rfl,hS,hl,k⟩:=h
  have nd:=scInv1.nd
  refine⟨_,(Zr (ZN (X1 rfl nd (YN (pv 0)) (own:=[("cell",1)]) (Yr (by kernel_rfl)) (fun _ _ _ _ _=>(Z2 (i:=1) nd rfl (Or.inl rfl))) (fun _ _ _ _ _=>Y4) (fun _ _ _ _ _=>(Xf VA ZE (pv 1)))))),?_⟩
  refine⟨_,rfl,a,rfl,⟨_,hS⟩,fun d hd=>QG (K:=K) (xs:=ZQ l) (fun v=>match v with| .int z=>.int (1-z)|_=>.non) hS (by rw[Za];exact Zi hl (by decide)) hd (fun _=>rfl) (fun i x H' R hx _ hR=>?_) ?_⟩
  ·obtain⟨z,hz,rfl⟩:=int_at hx
   exact⟨_,rfl,_,_,rfl,rfl,hR⟩
  ·refine k _ d (Same.new hd) hd ?_
   show upd _ d _ d=_
   rw[Zf]
   unfold ZQ
   rw[Yg,Yg]
   rfl
theorem row_inv(n:Nat)(p:Nat->Bool):(rowP n p).map (fun z=>1-z)=rowP n fun i=>!p i:=by
 unfold rowP
 rw[Yg]
 refine Xh fun i _=>?_
 show 1-b2i (p i)=b2i (!p i)
 cases p i<;>rfl
structure Moved(g R:Addr)(as:List Addr)(R':Addr)(as':List Addr)(H H':Hp):Prop where
 keep:∀b o,H b=some o->b≠g->b≠R->b∉as->H' b=some o
 newR:R'=R\/H R'=none
 news:∀a∈as',a∈as\/H a=none
theorem Oz(G:Vamato.Grid)(R R':Addr):putF "rows" (.ref R') (Vx G R)=Vx G R':=by
 unfold Vx
 simp only[putF]
 rw[if_neg (by decide),if_neg (by decide),if_neg (by decide),if_neg (by decide),if_neg (by decide),if_pos trivial]
noncomputable abbrev Ti:Stmt:=XG (top 5) 8
theorem scInvert:ZP ["self","row"] ["self"] (Zh Ti):=⟨rfl,rfl,rfl,by decide +kernel,rfl,by decide +kernel,by decide +kernel⟩
noncomputable def Qn(C:Addr):Sp:=fun vs H Q _=>∃(g:Addr)(G:Vamato.Grid)(R:Addr)(as:List Addr),vs=[.ref g]/\Ys C H g G R as/\∀H' R' as',Ys C H' g (Vamato.inverted G) R' as'->Moved g R as R' as' H H'->Q .non H'
theorem Kr{f:Addr}{fd:FuncData}(F:Fun K "invert" "Grid.invert" Ti f fd)(T:TxtC K mg cGrid)(C_inverted:Callee P w K mg base "inverted" 1 ["row"] (MJ K)):FnOk P w K mg base CX0 2 f fd ["self"] (Qn cGrid):=by
 refine F.ok scInvert (fun vs H Q E h=>?_) (fun cdv A outer s H vs Q E hr h=>?_)
 ·obtain⟨g,G,R,as,rfl,_⟩:=h
  rfl
 ·obtain⟨g,G,R,as,rfl,hG,k⟩:=h
  have nd:=scInvert.nd
  obtain⟨dx,hg⟩:=hG.at_
  refine⟨_,(Zr (WR (pv 0) (X1 rfl nd (YN (YT (pv 0) rfl)) (own:=[("row",1)]) (Yr (by kernel_rfl)) (fun _ _ _ _ _=>(Z2 (i:=1) nd rfl (Or.inl rfl))) (fun _ _ _ _ _=>Y4) (fun _ _ _ _ _=>(ZU C_inverted hr rfl (Zb (pv 1) Zn)))) rfl)),?_⟩
  refine⟨_,rfl,g,cGrid,dx,_,_,rfl,hg,T.cl,T.a_rows,Wr G R,R,rfl,⟨_,SqL.of hG.rows.at_⟩,fun D hD=>T7 (K:=K) (xs:=ZV as) (fun ys H'=>∃bs,ys=ZV bs/\Uc H D (fun j=>rowP G.width fun i=>!G.painted i j) bs H') ⟨[],rfl,Uc.start hD⟩
   (fun ys H' ⟨_,_,I⟩=>SqL.of (I.same _ _ hG.rows.at_)) (by rw[Za,hG.rows.len];exact Zi hG.ok.h2 (by decide)) (fun _=>rfl) (fun ys H' ⟨bs,e,I⟩=>by rw[e];exact I.at_) (fun ys x H' R' hx ⟨bs,e,I⟩ hR=>?_) (fun ys H' hyl ⟨bs,e,I⟩=>?_)⟩
  ·subst e
   rw[Za]at hx
   obtain⟨z,hz,rfl⟩:=Xr hx
   have hrow:=I.same _ _ (hG.rows.row _ z hz)
   refine⟨_,rfl,z,_,rfl,SqL.of hrow,by rw[Yh];exact Zi hG.ok.w2 (by decide),fun H'' q s2 hq hL=>hR _ _ (s2 _ _ I.at_) ⟨bs++[q],(Yw _ _).symm,?_⟩⟩
   rw[row_inv]at hL
   have:=I.snoc hD s2 hq hL
   rw[Yw]at this
   exact this
  ·subst e
   rw[Za,Za,hG.rows.len]at hyl
   have hgD:g≠D:=ZD hg hD
   refine⟨_,rfl,g,cGrid,dx,_,rfl,I.same _ _ hg,T.cl,T.a_rows,Wx (n:=6) (Zl _),?_⟩
   rw[Oz]
   have hRows:=(I.rows hyl)
   have nog:∀a∈bs,a≠g:=fun a ha e=>by rw[e]at ha;have:=(I.new g ha).1;rw[hg]at this;cases this
   refine k _ D bs (hG.re ⟨dx,Zf⟩ ⟨by rw[Zt (Yq hgD)];exact hRows.at_,hRows.len,hRows.nd,hRows.out,fun j a ha=>by rw[Zt (nog a (Zp ha))];exact hRows.row j a ha⟩) ⟨fun b o e n1 _ _=>?_,.inr hD,fun a ha=>.inr (I.new a ha).1⟩
   rw[Zt n1]
   exact I.same _ _ e
end
end Cp
end
section
namespace Cp
open PySem PySem.Spec PyProof.Rows L2 Ma
section
variable{P:Program}{w:World}{K:PySem.W.Frag}{mg:Str->Option Value}{base:Heap}{cGrid cBox:Addr}
noncomputable def newG(l b:Int)(n m:Nat)(z:Int):Vamato.Grid:={left:=l,low:=b,width:=n,height:=m,size:=z,bits:=Vamato.bitsOf n m fun _ _=>false}
theorem Nb(l b:Int)(n m:Nat)(z:Int)(i j:Nat):(newG l b n m z).painted i j=false:=by
 rw[VW (g:=newG l b n m z) (f:=fun _ _=>false) rfl]
 simp
noncomputable def fsOld(fs:List (Str×V)):Prop:=fs=[]\/∃G R,fs=Vx G R
theorem fs_new{fs:List (Str×V)}(h:fsOld fs)(l b:Int)(n m:Nat)(z:Int)(D:Addr):
  putF "rows" (.ref D) (putF "size" (.int z) (putF "height" (.int (m:Int)) (putF "width" (.int (n:Int)) (putF "low" (.int b) (putF "left" (.int l) fs)))))=Vx (newG l b n m z) D:=by
 rcases h with rfl|⟨G,R,rfl⟩
 ·rfl
 ·rfl
theorem rep_row(n:Nat):(List.replicate n [V.int 0]).flatten=ZQ (rowP n fun _=>false):=by
 unfold rowP ZQ
 rw[Yg]
 induction n with
 |zero=>rfl
 |succ n ih=>rw[List.replicate_succ',List.flatten_append,ih,YC,ZJ];rfl
noncomputable abbrev sLay:Stmt:=XG (top 5) 1
theorem scLay:ZP ["self","left","low","width","height","size","j"] ["self","left","low","width","height","size"] (Zh sLay):=⟨rfl,rfl,rfl,by decide +kernel,rfl,by decide +kernel,by decide +kernel⟩
noncomputable def Lx(C:Addr):Sp:=fun vs H Q _=>∃(g dx:Addr)(fs:List (Str×V))(l b:Int)(n m:Nat)(z:Int),vs=[.ref g,.int l,.int b,.int (n:Int),.int (m:Int),.int z]/\H g=some (.ins C dx fs)/\fsOld fs/\GOk (newG l b n m z)/\
 ∀H' R as,Ys C H' g (newG l b n m z) R as->But g H H'->H R=none->(∀a∈as,H a=none)->Q .non H'
theorem ok_lay{f:Addr}{fd:FuncData}(F:Fun K "lay_out" "Grid.lay_out" sLay f fd)(T:TxtC K mg cGrid):FnOk P w K mg base CX0 1 f fd ["self","left","low","width","height","size"] (Lx cGrid):=by
 refine F.ok scLay (fun vs H Q E h=>?_) (fun cdv A outer s H vs Q E hr h=>?_)
 ·obtain⟨g,dx,fs,l,b,n,m,z,rfl,_⟩:=h
  rfl
 ·obtain⟨g,dx,fs,l,b,n,m,z,rfl,hg,hfs,hok,k⟩:=h
  have nd:=scLay.nd
  have hl6:fs.length<=6:=by
   rcases hfs with rfl|⟨G,R,rfl⟩
   ·exact ZG _
   ·exact Zl _
  refine⟨_,(Zk (WR (pv 0) (pv 1) rfl)
   (Zk (WR (pv 0) (pv 2) rfl)
   (Zk (WR (pv 0) (pv 3) rfl)
   (Zk (WR (pv 0) (pv 4) rfl)
   (Zk (WR (pv 0) (pv 5) rfl)
   (Zr (WR (pv 0) (X1 rfl nd (Og (by rfl) T.n_range (Zb (pv 4) Zn)) (own:=[("j",6)]) (Yr (by kernel_rfl)) (fun _ _ _ _ _=>(Z2 (i:=6) nd rfl (Or.inl rfl))) (fun _ _ _ _ _=>Y4) (fun _ _ _ _ _=>(Xf op_rep (Yp (Zb (pe_g rfl T.g_CLEAR) Zn)) (pv 3)))) rfl))))))),?_⟩
  refine⟨_,rfl,_,rfl,g,cGrid,dx,_,rfl,hg,T.cl,T.a_left,Wx hl6,?_⟩
  refine⟨_,rfl,_,rfl,g,cGrid,dx,_,rfl,Zf,T.cl,T.a_low,Wx (YG hl6),?_⟩
  refine⟨_,rfl,_,rfl,g,cGrid,dx,_,rfl,Zf,T.cl,T.a_width,Wx (YG (YG hl6)),?_⟩
  refine⟨_,rfl,_,rfl,g,cGrid,dx,_,rfl,Zf,T.cl,T.a_height,Wx (YG (YG (YG hl6))),?_⟩
  refine⟨_,rfl,_,rfl,g,cGrid,dx,_,rfl,Zf,T.cl,T.a_size,Wx (YG (YG (YG (YG hl6)))),?_⟩
  have efs:=fs_new hfs l b n m z
  have hlast:=Wx (YG (x:=("size":Str)) (v:=.int z) (YG (x:=("height":Str)) (v:=.int (m:Int)) (YG (x:=("width":Str)) (v:=.int (n:Int)) (YG (x:=("low":Str)) (v:=.int b) (YG (x:=("left":Str)) (v:=.int l) hl6)))))
  revert efs hlast
  generalize (putF "size" (.int z) (putF "height" (.int (m:Int)) (putF "width" (.int (n:Int)) (putF "low" (.int b) (putF "left" (.int l) fs)))))=fs5
  intro efs hlast
  refine⟨_,rfl,_,rfl,by omega,by have:=hok.h2;have e:(newG l b n m z).height=m:=rfl;omega,fun D hD=>lc_genN (lo:=0) (n:=m) (fun ys H'=>∃bs,ys=ZV bs/\Uc _ D (fun j=>rowP n fun i=>false) bs H') ⟨[],rfl,Uc.start hD⟩
   (Zi hok.h2 (by decide)) (fun _=>rfl) (fun ys H' ⟨bs,e,I⟩=>by rw[e];exact I.at_) (fun ys H' R hlt ⟨bs,e,I⟩ hR=>?_) (fun ys H' hyl ⟨bs,e,I⟩=>?_)⟩
  ·subst e
   have hn:n<=40:=hok.w2
   refine⟨by decide,fun c hc=>⟨_,rfl,c,_,_,rfl,rfl,Zf,by omega,by omega,?_,fun q hq=>hR _ _ ?_ ⟨bs++[q],(Yw _ _).symm,?_⟩⟩⟩
   ·show 1*n<=sizeLine
    rw[Nat.one_mul]
    exact Zi hn (by decide)
   ·rw[Zt (ZD (show(L2.upd H' c _) D=some _ from by rw[Zt (ZD I.at_ hc)];exact I.at_) hq),Zt (ZD I.at_ hc)]
    exact I.at_
   ·have hcq:H' q=none:=(Same.new hc).free hq
    have:=I.snoc (p:=q) (H':=L2.upd (L2.upd H' c (.lst [V.int 0])) q (.lst (List.replicate n [V.int 0]).flatten)) hD ((Same.new hc).trans (Same.new hq)) hcq (show L2.upd _ q _ q=_ from by rw[Zf,rep_row])
    rw[Yw]at this
    exact this
  ·subst e
   rw[Za]at hyl
   have hgD:g≠D:=fun z=>by rw[<-z,Zf]at hD;cases hD
   have keepH:∀c o,H c=some o->c≠g->H' c=some o:=fun c o e hc=>I.same c o (by rw[Zt hc,Zt hc,Zt hc,Zt hc,Zt hc];exact e)
   refine⟨_,rfl,g,cGrid,dx,_,rfl,I.same g _ Zf,T.cl,T.a_rows,hlast,?_⟩
   rw[efs]
   have hRows:=(I.rows hyl)
   have newH:∀a,(H a=none\/a=g)->a≠g->H a=none:=fun a h n=>h.resolve_right n
   have free:∀a,H' a=none\/True:=fun _=>.inr trivial
   have nog:∀a∈bs,a≠g/\H a=none:=fun a ha=>by
    have h1:=(I.new a ha).1
    have hag:a≠g:=fun e=>by rw[e,Zf]at h1;cases h1
    rw[Zt hag,Zt hag,Zt hag,Zt hag,Zt hag]at h1
    exact⟨hag,h1⟩
   have hDn:H D=none:=by
    rw[Zt (Yq hgD),Zt (Yq hgD),Zt (Yq hgD),Zt (Yq hgD),Zt (Yq hgD)]at hD
    exact hD
   refine k _ D bs ⟨⟨dx,Zf⟩,⟨by rw[Zt (Yq hgD)];exact hRows.at_,hRows.len,hRows.nd,hRows.out,fun j a ha=>?_⟩,hok⟩ (fun c o e hc=>by rw[Zt hc];exact keepH c o e hc) hDn fun a ha=>(nog a ha).2
   rw[Zt (nog a (Zp ha)).1,hRows.row j a ha]
   congr 3
   exact VS fun i _=>(Nb l b n m z i j).symm
noncomputable abbrev sGI:Stmt:=XG (top 5) 0
theorem scGI:ZP ["self"] ["self"] (Zh sGI):=⟨rfl,rfl,rfl,by decide +kernel,rfl,by decide +kernel,by decide +kernel⟩
noncomputable def spGI(C:Addr):Sp:=fun vs H Q _=>∃(g dx:Addr),vs=[.ref g]/\H g=some (.ins C dx [])/\∀H' R as,Ys C H' g Vamato.start R as->But g H H'->H R=none->(∀a∈as,H a=none)->Q .non H'
theorem start_ok:GOk Vamato.start:=⟨by decide,by decide,by decide,by decide,by decide,by decide,by decide,by decide,by decide,by decide,RN (f:=fun _ _=>false) rfl⟩
theorem ok_gi{f:Addr}{fd:FuncData}(F:Fun K "__init__" "Grid.__init__" sGI f fd)(M_Grid_lay_out:Y5 P w K mg base cGrid "lay_out" 1 ["self","left","low","width","height","size"] (Lx cGrid)):FnOk P w K mg base CX0 2 f fd ["self"] (spGI cGrid):=by
 refine F.ok scGI (fun vs H Q E h=>?_) (fun cdv A outer s H vs Q E hr h=>?_)
 ·obtain⟨g,dx,rfl,_⟩:=h
  rfl
 ·obtain⟨g,dx,rfl,hg,k⟩:=h
  have nd:=scGI.nd
  refine⟨_,(Zr (Xx (YW (pv 0) M_Grid_lay_out hr (Zb ZE (Zb ZE (Zb ZE (Zb ZE (Zb ZE Zn)))))))),?_⟩
  exact⟨_,rfl,g,dx,_,rfl,hg,rfl,g,dx,[],0,0,1,1,1,rfl,hg,.inl rfl,start_ok,fun H' R as hG b n1 n2=>k H' R as hG b n1 n2⟩
end
end Cp
end
section
namespace Cp
open PySem PySem.Spec PyProof.Rows L2 Ma
section
variable{P:Program}{w:World}{K:PySem.W.Frag}{mg:Str->Option Value}{base:Heap}{cGrid cBox:Addr}
theorem Tr{G:Vamato.Grid}{p q:Nat->Nat->Bool}(h:∀i j,i<G.width->j<G.height->p i j=q i j):G.with p=G.with q:=by
 unfold Vamato.Grid.with
 rw[WW h]
theorem L1(G:Vamato.Grid)(p q:Nat->Nat->Bool):(G.with p).with q=G.with q:=rfl
theorem Ui{G:Vamato.Grid}(h:Told G):G.with G.painted=G:=by
 unfold Vamato.Grid.with
 rw[<-h]
theorem SG(G:Vamato.Grid)(q:Nat->Nat->Bool)(i j:Nat)(v:Bool):setG (G.with q) i j v=G.with (updP q i j v):=by
 unfold setG
 rw[L1]
 refine Tr fun a b ha hb=>?_
 unfold updP
 rw[Wp]
 simp[ha,hb]
theorem Y3{G:Vamato.Grid}{q:Nat->Nat->Bool}{i j:Nat}(hi:i<G.width)(hj:j<G.height):(G.with q).painted i j=q i j:=by
 rw[Wp]
 simp[hi,hj]
theorem Q3{n m i j:Nat}{q:Nat->Nat->Bool}{v:Bool}(hi:i<n)(hj:j<m):cnt n m (fun a b=>updP q i j v a b==v)=cnt n m (fun a b=>q a b==v)+(if q i j=v then 0 else 1):=by
 by_cases e:q i j=v
 ·rw[L6 e,if_pos e];rfl
 ·rw[if_neg e]
  have h1:cnt n m (fun a b=>updP q i j v a b==v)=cnt n m (updP (fun a b=>q a b==v) i j true):=by
   refine Ws fun a b _ _=>?_
   unfold updP
   by_cases z:a=i/\b=j
   ·rw[if_pos z,if_pos z];simp
   ·rw[if_neg z,if_neg z]
  rw[h1]
  exact Nn hi hj (by simpa using e)
noncomputable def over(p:Nat->Nat->Bool)(v:Bool)(S:Nat->Nat->Prop)(q:Nat->Nat->Bool)(n m:Nat):Prop:=∀i j,i<n->j<m->(S i j->q i j=v)/\(¬S i j->q i j=p i j)
theorem over.step{p q:Nat->Nat->Bool}{v:Bool}{S S':Nat->Nat->Prop}{n m i j:Nat}(h:over p v S q n m)(hS:∀a b,a<n->b<m->(S' a b↔S a b\/(a=i/\b=j))):over p v S' (updP q i j v) n m:=by
 intro a b ha hb
 have h1:=h a b ha hb
 have h2:=hS a b ha hb
 unfold updP
 by_cases z:a=i/\b=j
 ·rw[if_pos z]
  exact⟨fun _=>rfl,fun q=>(q (h2.mpr (.inr z))).elim⟩
 ·rw[if_neg z]
  refine⟨fun q=>h1.1 ((h2.mp q).resolve_right z),fun q=>h1.2 fun q2=>q (h2.mpr (.inl q2))⟩
theorem over.congr{p q:Nat->Nat->Bool}{v:Bool}{S S':Nat->Nat->Prop}{n m:Nat}(h:over p v S q n m)(hS:∀a b,a<n->b<m->(S' a b↔S a b)):over p v S' q n m:=fun a b ha hb=>
 ⟨fun z=>(h a b ha hb).1 ((hS a b ha hb).mp z),fun z=>(h a b ha hb).2 fun z2=>z ((hS a b ha hb).mpr z2)⟩
noncomputable def UJ(G:Vamato.Grid)(b:Vamate.Box)(i j:Nat):Prop:=(i:Int)∈Vu b.left b.right G.left G.size G.width/\(j:Int)∈Vu b.low b.high G.low G.size G.height
structure Ms(b:Vamate.Box):Prop where
 l:Mid b.left
 r:Mid b.right
 lo:Mid b.low
 hi:Mid b.high
theorem bF_left(b:Vamate.Box):(boxF b).lookup ("left":Str)=some (.int b.left):=rfl
theorem bF_low(b:Vamate.Box):(boxF b).lookup ("low":Str)=some (.int b.low):=rfl
theorem bF_right(b:Vamate.Box):(boxF b).lookup ("right":Str)=some (.int b.right):=rfl
theorem bF_high(b:Vamate.Box):(boxF b).lookup ("high":Str)=some (.int b.high):=rfl
theorem Ys.same{C:Addr}{H H':Hp}{g R:Addr}{G:Vamato.Grid}{as:List Addr}(h:Ys C H g G R as)(s:Same H H'):Ys C H' g G R as:=
 ⟨let⟨dx,e⟩:=h.at_;⟨dx,s _ _ e⟩,h.rows.same s,h.ok⟩
theorem Xi.trans{as:List Addr}{H H1 H2:Hp}(a:Xi as H H1)(b:Xi as H1 H2):Xi as H H2:=fun c o e n=>b c o (a c o e n) n
theorem Xi.of_same{as:List Addr}{H H1:Hp}(a:Same H H1):Xi as H H1:=fun c o e _=>a c o e
noncomputable abbrev Tup(H:Hp)(t:Addr)(c:Nat×Nat):Prop:=H t=some (.tup [.int (c.1:Int),.int (c.2:Int)])
structure YR(H:Hp)(p:Addr)(ts:List Addr)(cs:List (Nat×Nat)):Prop where
 at_:H p=some (.lst (ZV ts))
 each:Paired (Tup H) ts cs
theorem YR.same{H H':Hp}{p:Addr}{ts:List Addr}{cs:List (Nat×Nat)}(h:YR H p ts cs)(s:Same H H'):YR H' p ts cs:=⟨s _ _ h.at_,pimp h.each fun _ _ _ q=>s _ _ q⟩
theorem XR{H:Hp}{p:Addr}{xs:List V}{o:HO}{ts:List Addr}{cs:List (Nat×Nat)}(hp:H p=some (.lst xs))(h:Paired (Tup H) ts cs):Paired (Tup (L2.upd H p o)) ts cs:=pimp h fun t c _ q=>by
 show L2.upd H p o t=_
 rw[Zt (We q hp (by intro z;cases z))]
 exact q
theorem Ux{α β:Type}{F:α->β->Prop}:∀{a b:List α}{c d:List β},Paired F a c->Paired F b d->Paired F (a++b) (c++d)
 |_,_,_,_,.nil,h=>h
 |_,_,_,_,.cons r t,h=>.cons r (Ux t h)
theorem XM.no_tup{H:Hp}{R:Addr}{as:List Addr}{n m:Nat}{p:Nat->Nat->Bool}(h:XM H R as n m p){t:Addr}{xs:List V}(ht:H t=some (.tup xs)):t∉as:=fun z=>by
 obtain⟨j,hj⟩:=Zx.mp z
 rw[h.row j t hj]at ht;cases ht
theorem XM.no_none{H:Hp}{R:Addr}{as:List Addr}{n m:Nat}{p:Nat->Nat->Bool}(h:XM H R as n m p){t:Addr}(ht:H t=none):t∉as:=fun z=>by
 obtain⟨j,hj⟩:=Zx.mp z
 rw[h.row j t hj]at ht;cases ht
theorem YR.but{H H':Hp}{R p:Addr}{as ts:List Addr}{n m:Nat}{f:Nat->Nat->Bool}{cs:List (Nat×Nat)}(hr:XM H R as n m f)(h:YR H p ts cs)(hp:p∉as)(b:Xi as H H'):YR H' p ts cs:=
 ⟨b _ _ h.at_ hp,pimp h.each fun t c _ q=>b _ _ q (hr.no_tup q)⟩
noncomputable def Ins(G:Vamato.Grid)(cs:List (Nat×Nat)):Prop:=∀c∈cs,c.1<G.width/\c.2<G.height
theorem Ys.upd_other{C g R D:Addr}{H:Hp}{G:Vamato.Grid}{as:List Addr}{o:HO}(h:Ys C H g G R as)(n1:g≠D)(n2:R≠D)(n3:D∉as):Ys C (L2.upd H D o) g G R as:=
 ⟨let⟨dx,e⟩:=h.at_;⟨dx,by rw[Zt n1];exact e⟩,⟨by rw[Zt n2];exact h.rows.at_,h.rows.len,h.rows.nd,h.rows.out,fun j b hb=>by rw[Zt (show b≠D from fun z=>n3 (z▸Zp hb))];exact h.rows.row j b hb⟩,h.ok⟩
theorem Ss{C:Addr}{H:Hp}{g R D:Addr}{G:Vamato.Grid}{as:List Addr}(h:Ys C H g G R as)(hD:H D=none):g≠D/\R≠D/\D∉as:=
 ⟨let⟨_,e⟩:=h.at_;ZD e hD,ZD h.rows.at_ hD,h.rows.no_none hD⟩
theorem over.more{G:Vamato.Grid}{v:Bool}{S T:Nat->Nat->Prop}{q q':Nat->Nat->Bool}(h:over G.painted v S q G.width G.height)(h':over (G.with q).painted v T q' G.width G.height):over G.painted v (fun i j=>S i j\/T i j) q' G.width G.height:=by
 intro i j hi hj
 have e:=Y3 (q:=q) hi hj
 have h1:=h i j hi hj
 have h2:=h' i j hi hj
 rw[e]at h2
 refine⟨fun z=>?_,fun z=>?_⟩
 ·by_cases t:T i j
  ·exact h2.1 t
  ·rw[h2.2 t]
   exact h1.1 (z.resolve_right t)
 ·rw[h2.2 fun t=>z (.inr t)]
  exact h1.2 fun t=>z (.inl t)
noncomputable abbrev PH:Stmt:=XG (top 5) 6
theorem scTAll:ZP ["self","cells","way","i","j"] ["self","cells","way"] (Zh PH):=⟨rfl,rfl,rfl,by decide +kernel,rfl,by decide +kernel,by decide +kernel⟩
noncomputable def Qh(C:Addr):Sp:=fun vs H Q _=>∃(g:Addr)(G:Vamato.Grid)(R:Addr)(as:List Addr)(l:Addr)(ts:List Addr)(cs:List (Nat×Nat))(v:Bool),vs=[.ref g,.ref l,.int (b2i v)]/\Ys C H g G R as/\YR H l ts cs/\Ins G cs/\l∉as/\cs.length<=1600/\
 ∀H' q(n:Nat),Ys C H' g (G.with q) R as->over G.painted v (fun i j=>(i,j)∈cs) q G.width G.height->n+cnt G.width G.height (fun i j=>G.painted i j==v)=cnt G.width G.height (fun i j=>q i j==v)->Xi as H H'->Q (.int (n:Int)) H'
theorem ok_tAll{f:Addr}{fd:FuncData}(F:Fun K "turn_all" "Grid.turn_all" PH f fd)(T:TxtC K mg cGrid)(M_Grid_turn:Y5 P w K mg base cGrid "turn" 1 ["self","i","j","way"] (Qg cGrid)):FnOk P w K mg base CX0 2 f fd ["self","cells","way"] (Qh cGrid):=by
 refine F.ok scTAll (fun vs H Q E h=>?_) (fun cdv A outer s H vs Q E hr h=>?_)
 ·obtain⟨g,G,R,as,l,ts,cs,v,rfl,_⟩:=h
  rfl
 ·obtain⟨g,G,R,as,l,ts,cs,v,rfl,hG,hC,hI,hla,hcl,k⟩:=h
  have nd:=scTAll.nd
  have hlen:=Zy hC.each
  refine⟨_,(Zr (ZN (Yf (Rm rfl) (by rfl) T.n_sum boot_sum (Zb (X1 rfl nd (YN (pv 1)) (own:=[("i",3),("j",4)]) (Yr (by kernel_rfl)) (fun _ _ _ _ _=>(V9 (K:=K) (n:=2) rfl rfl (YO (Z2 (i:=3) nd rfl (Or.inl rfl)) (YO (Z2 (i:=4) nd rfl (Or.inl rfl)) WD)))) (fun _ _ _ _ _=>Y4) (fun _ _ _ _ _=>(YW (pv 0) M_Grid_turn hr (Zb (pv 3) (Zb (pv 4) (Zb (pv 2) Zn)))))) Zn)))),?_⟩
  refine⟨_,rfl,l,rfl,⟨_,SqL.of hC.at_⟩,fun D hD=>?_⟩
  obtain⟨n1,n2,n3⟩:=Ss hG hD
  have nlD:l≠D:=ZD hC.at_ hD
  have keepC:∀{H'},Xi as H H'->YR H' l ts cs:=fun b=>hC.but hG.rows hla b
  refine LM (K:=K) (a:=l) (xs:=ZV ts) (n1:=3) (n2:=4)
   (fun ys H'=>∃(zs:List Int)(c:Nat)(q:Nat->Nat->Bool),ys=ZQ zs/\zs.sum=(c:Int)/\Ys cGrid H' g (G.with q) R as/\over G.painted v (fun i j=>(i,j)∈cs.take ys.length) q G.width G.height/\c+cnt G.width G.height (fun i j=>G.painted i j==v)=cnt G.width G.height (fun i j=>q i j==v)/\H' D=some (.lst ys)/\Xi as H H')
   ⟨[],0,G.painted,rfl,rfl,by rw[Ui hG.ok.told];exact hG.same (Same.new hD),fun i j _ _=>⟨fun z=>by simp at z,fun _=>rfl⟩,by omega,Zf,Xi.of_same (Same.new hD)⟩
   (fun ys H' ⟨_,_,_,_,_,_,_,_,_,h7⟩=>SqL.of (keepC h7).at_) (by rw[Za,hlen];exact Zi hcl (by decide)) (fun _ _=>rfl) ?_ ?_
  ·rintro ys x H' Rr hx ⟨zs,c,q,rfl,h2,h3,h4,h5,h6,h7⟩
   obtain⟨t,ht,rfl⟩:=Xr hx
   obtain⟨d,hd,htup⟩:=Z4 (keepC h7).each ht
   have hdI:=hI d (Zp hd)
   obtain⟨dx,hg⟩:=h3.at_
   refine⟨t,_,_,rfl,SqT.of htup,fun hR=>?_⟩
   refine⟨_,rfl,g,dx,_,rfl,hg,Wl _ R,_,rfl,_,rfl,_,rfl,g,G.with q,R,as,d.1,d.2,v,rfl,h3,hdI.1,hdI.2,fun H'' hG'' hb''=>hR _ _ (hb'' _ _ h6 n3) ?_⟩
   rw[SG]at hG''
   have hS:∀a b,a<G.width->b<G.height->((a,b)∈cs.take ((ZQ zs).length+1)↔(a,b)∈cs.take (ZQ zs).length\/(a=d.1/\b=d.2)):=fun a b _ _=>by
    rw[take_snoc hd]
    simp only[Zs,ZI]
    rw[show((a,b)=d)=((a,b)=(d.1,d.2))from rfl,XU]
   refine⟨zs++[if(G.with q).painted d.1 d.2=v then 0 else 1],c+(if q d.1 d.2=v then 0 else 1),updP q d.1 d.2 v,by simp[ZQ],?_,?_,?_,?_,Zf,?_⟩
   ·rw[Y3 hdI.1 hdI.2,List.sum_append,h2]
    by_cases e:q d.1 d.2=v
    ·rw[if_pos e,if_pos e];simp
    ·rw[if_neg e,if_neg e];simp
   ·exact hG''.upd_other n1 n2 n3
   ·rw[Zj]
    exact h4.step hS
   ·rw[Q3 hdI.1 hdI.2]
    omega
   ·intro x o e n
    rw[Zt (ZD e hD)]
    exact hb'' _ _ (h7 _ _ e n) n
  ·rintro ys H' hyl ⟨zs,c,q,rfl,h2,h3,h4,h5,h6,h7⟩
   have hyl:(ZQ zs).length=ts.length:=by rw[hyl];exact Za ..
   have h4':=h4.congr (S':=fun i j=>(i,j)∈cs) fun i j _ _=>by rw[Ya (by omega)]
   refine⟨D,zs,rfl,SqL.of h6,?_⟩
   rw[h2]
   exact k H' q c h3 h4' h5 h7
theorem Om(s e o z:Int)(m:Nat):(Vu s e o z (m:Int)).length<=m:=by
 unfold Vu Qs
 by_cases h:e<=s
 ·rw[if_pos h];exact ZG _
 ·rw[if_neg h,Za,YF]
  omega
noncomputable abbrev SI:Stmt:=XG (top 5) 7
theorem scTouch:ZP ["self","box","columns","cells","j","i"] ["self","box"] (Zh SI):=⟨rfl,rfl,rfl,by decide +kernel,rfl,by decide +kernel,by decide +kernel⟩
noncomputable def Ud(cols:List Int)(lins:List Int):List (Nat×Nat):=lins.flatMap fun j=>cols.map fun i=>(i.toNat,j.toNat)
theorem Nw(cols lins:List Int)(j:Int):Ud cols (lins++[j])=Ud cols lins++cols.map fun i=>(i.toNat,j.toNat):=by
 unfold Ud
 rw[List.flatMap_append]
 simp
theorem TV(cols:List Int):∀lins:List Int,(Ud cols lins).length=lins.length*cols.length
 |[]=>by simp[Ud]
 |j::r=>by
  have ih:=TV cols r
  unfold Ud at ih⊢
  rw[List.flatMap_cons,Zj,ih,Za,Zo,Nat.succ_mul]
  omega
theorem MX{cols lins:List Int}{i j:Nat}(hc:∀z∈cols,0<=z)(hl:∀z∈lins,0<=z):(i,j)∈Ud cols lins↔(i:Int)∈cols/\(j:Int)∈lins:=by
 unfold Ud
 simp only[List.mem_flatMap,ZS,XU]
 constructor
 ·rintro⟨y,hy,x,hx,rfl,rfl⟩
  have h1:=hc x hx
  have h2:=hl y hy
  rw[V5 h1,V5 h2]
  exact⟨hx,hy⟩
 ·rintro⟨h1,h2⟩
  exact⟨_,h2,_,h1,rfl,rfl⟩
noncomputable def RR(C B:Addr):Sp:=fun vs H Q _=>∃(g:Addr)(G:Vamato.Grid)(R:Addr)(as:List Addr)(bx:Addr)(b:Vamate.Box),vs=[.ref g,.ref bx]/\Ys C H g G R as/\Mt B H bx b/\Ms b/\
 ∀H' p ts cs,Same H H'->H p=none->YR H' p ts cs->Ins G cs->cs.length<=1600->(∀i j,(i,j)∈cs↔UJ G b i j)->Q (.ref p) H'
theorem ok_touch{f:Addr}{fd:FuncData}(F:Fun K "touched" "Grid.touched" SI f fd)(T:TxtC K mg cGrid)(B:TxtB K cBox)(C_overlapped:Callee P w K mg base "overlapped" 1 ["start","end","origin","size","many"] MF):FnOk P w K mg base CX0 2 f fd ["self","box"] (RR cGrid cBox):=by
 refine F.ok scTouch (fun vs H Q E h=>?_) (fun cdv A outer s H vs Q E hr h=>?_)
 ·obtain⟨g,G,R,as,bx,b,rfl,_⟩:=h
  rfl
 ·obtain⟨g,G,R,as,bx,b,rfl,hG,⟨bdx,hb⟩,hbo,k⟩:=h
  have nd:=scTouch.nd
  obtain⟨dx,hg⟩:=hG.at_
  have ok:=hG.ok
  have hs0:0<G.size:=by have:=ok.s1;omega
  refine⟨_,(Zk (ZZ (i:=2) nd rfl (Or.inl rfl) (ZU C_overlapped hr rfl (Zb (YT (pv 1) rfl) (Zb (YT (pv 1) rfl) (Zb (YT (pv 0) rfl) (Zb (YT (pv 0) rfl) (Zb (YT (pv 0) rfl) Zn)))))))
   (Zk (ZZ (i:=3) nd rfl (Or.inl rfl) (Yp Zn))
   (Zk (VU YH rfl (YN (ZU C_overlapped hr rfl (Zb (YT (pv 1) rfl) (Zb (YT (pv 1) rfl) (Zb (YT (pv 0) rfl) (Zb (YT (pv 0) rfl) (Zb (YT (pv 0) rfl) Zn))))))) (Z2 (i:=4) nd rfl (Or.inr rfl))
   (Zr (Xx (Um Z9 XS XT Uo (pv 3) (Zb (X1 rfl nd (YN (pv 2)) (own:=[("i",5)]) (Yr (by kernel_rfl)) (fun _ _ _ _ _=>(Z2 (i:=5) nd rfl (Or.inl rfl))) (fun _ _ _ _ _=>Y4) (fun _ _ _ _ _=>(Ue (Zb (pv 5) (Zb (pv 4) Zn))))) Zn)))))
   (Zr (ZN (pv 3)))))),?_⟩
  refine⟨_,rfl,bx,cBox,bdx,_,_,rfl,hb,B.cl,B.n_left,bF_left b,_,rfl,bx,cBox,bdx,_,_,rfl,hb,B.cl,B.n_right,bF_right b,_,rfl,g,cGrid,dx,_,_,rfl,hg,T.cl,T.a_left,gF_left G R,_,rfl,g,cGrid,dx,_,_,rfl,hg,T.cl,T.a_size,LR G R,_,rfl,g,cGrid,dx,_,_,rfl,hg,T.cl,T.a_width,Sv G R,
   b.left,b.right,G.left,G.size,G.width,rfl,hbo.l,hbo.r,⟨by have:=ok.l1;omega,by have:=ok.l2;omega⟩,ok.s1,ok.s2,ok.w2,fun H1 cq s1 hcq hC=>?_⟩
  refine⟨ZG _,fun p hp=>?_⟩
  have s1p:Same H1 (L2.upd H1 p (.lst [])):=Same.new hp
  have hg1:=(s1.trans s1p) _ _ hg
  have hb1:=(s1.trans s1p) _ _ hb
  refine⟨_,rfl,bx,cBox,bdx,_,_,rfl,hb1,B.cl,B.n_low,bF_low b,_,rfl,bx,cBox,bdx,_,_,rfl,hb1,B.cl,B.n_high,bF_high b,_,rfl,g,cGrid,dx,_,_,rfl,hg1,T.cl,T.a_low,gF_low G R,_,rfl,g,cGrid,dx,_,_,rfl,hg1,T.cl,T.a_size,LR G R,_,rfl,g,cGrid,dx,_,_,rfl,hg1,T.cl,T.a_height,Ts G R,
   b.low,b.high,G.low,G.size,G.height,rfl,hbo.lo,hbo.hi,⟨by have:=ok.b1;omega,by have:=ok.b2;omega⟩,ok.s1,ok.s2,ok.h2,fun H2 lq s2 hlq hL=>?_⟩
  have hC2:=s2 _ _ (s1p _ _ hC)
  have mcol:∀z∈Vu b.left b.right G.left G.size G.width,0<=z/\z<(G.width:Int):=fun z hz=>((To hs0).mp hz).1
  have mlin:∀z∈Vu b.low b.high G.low G.size G.height,0<=z/\z<(G.height:Int):=fun z hz=>((To hs0).mp hz).1
  have lcol:=Zi (Om b.left b.right G.left G.size G.width) ok.w2
  have llin:=Zi (Om b.low b.high G.low G.size G.height) ok.h2
  have hin:UJ G b=fun(i j:Nat)=>(i:Int)∈Vu b.left b.right G.left G.size G.width/\(j:Int)∈Vu b.low b.high G.low G.size G.height:=rfl
  generalize Vu b.left b.right G.left G.size G.width=cols at *
  generalize Vu b.low b.high G.low G.size G.height=lins at *
  have hp2:H2 p=some (.lst []):=s2 _ _ Zf
  have s02:Same H1 H2:=s1p.trans s2
  have hpH:H p=none:=s1.free hp
  refine⟨lq,rfl,⟨_,SqL.of hL⟩,V0 (K:=K) (a:=lq) (xs:=ZQ lins)
   (fun m σ H'=>∃(v4:Option V)(ts:List Addr),σ=[some (.ref g),some (.ref bx),some (.ref cq),some (.ref p),v4,none]/\But p H2 H'/\YR H' p ts (Ud cols (lins.take m)))
   ⟨none,[],rfl,fun _ _ e _=>e,hp2,.nil⟩ (fun m σ H' _ ⟨_,_,_,bt,_⟩=>SqL.of (bt _ _ hL (fun z=>by rw[z,Zf]at hlq;cases hlq))) ?_ ?_⟩
  ·rintro m y σ H' hy ⟨v4,ts,rfl,bt,hU⟩
   obtain⟨j,hj,rfl⟩:=int_at hy
   have hmj:=mlin j (Zp hj)
   have hCc:=bt _ _ hC2 (ZD hC hp)
   have hml:m<lins.length:=(Zd.mp hj).1
   refine⟨_,rfl,.inl ⟨rfl,_,SqL.of hU.at_⟩,_,rfl,cq,rfl,⟨_,SqL.of hCc⟩,fun D hD=>T7 (K:=K) (a:=cq) (xs:=ZQ cols)
    (fun ys H3=>∃us,ys=ZV us/\Same H' H3/\YR H3 D us ((cols.take ys.length).map fun i=>(i.toNat,j.toNat))) ⟨[],rfl,Same.new hD,Zf,.nil⟩
    (fun ys H3 ⟨us,e,s3,c3⟩=>SqL.of (s3 _ _ hCc)) (by rw[Za];exact Zi lcol (by decide)) (fun _=>rfl) (fun ys H3 ⟨us,e,s3,c3⟩=>by rw[e];exact c3.at_) ?_ ?_⟩
   ·rintro ys x H3 Rr hx ⟨us,rfl,s3,c3⟩ hR
    obtain⟨i,hi,rfl⟩:=int_at hx
    have hmi:=mcol i (Zp hi)
    refine⟨_,rfl,_,rfl,Ww _ _,fun t ht=>hR _ _ (by rw[Zt (ZD c3.at_ ht)];exact c3.at_) ⟨us++[t],(Yw _ _).symm,Xg hD (s3.trans (Same.new ht)),?_⟩⟩
    have c4:=c3.same (Same.new (o:=.tup [.int i,.int j]) ht)
    refine⟨by rw[Zf,Yw],?_⟩
    rw[Zj,Z6,take_snoc hi,ZJ]
    refine V8 (XR c4.at_ c4.each) ?_
    show L2.upd _ D _ t=_
    rw[Zt (Yq (ZD c3.at_ ht)),Zf]
    show some (HO.tup [.int i,.int j])=some (HO.tup [.int ((i.toNat:Nat):Int),.int ((j.toNat:Nat):Int)])
    rw[V5 hmi.1,V5 hmj.1]
   ·rintro ys H3 hyl ⟨us,rfl,s3,c3⟩
    have hp3:=s3 _ _ hU.at_
    have hpD:p≠D:=ZD hU.at_ hD
    rw[Za]at hyl
    have hyl':(ZV us).length=cols.length:=by rw[Za];rw[hyl];exact Za ..
    rw[Ya (by omega)]at c3
    refine⟨p,D,_,_,rfl,rfl,hp3,c3.at_,?_,_,ts++us,rfl,?_,⟨by rw[Zf];congr 2;unfold ZV;rw[ZJ],?_⟩⟩
    ·rw[Za,Za,Zy hU.each,TV,Zy c3.each,Za]
     have h1:(lins.take m).length*cols.length<=40*40:=YE (by rw[Yj];omega) lcol
     exact Zi (show _<=2000 by omega) (by decide)
    ·intro b o e n
     rw[Zt n]
     exact s3 _ _ (bt _ _ e n)
    ·rw[take_snoc hj,Nw]
     exact Ux (XR hp3 (hU.same s3).each) (XR hp3 c3.each)
  ·rintro σ H' ⟨v4,ts,rfl,bt,hU⟩
   rw[Za,YM]at hU
   have mem:∀i j,(i,j)∈Ud cols lins↔UJ G b i j:=fun i j=>by
    rw[hin,MX (fun z hz=>(mcol z hz).1) (fun z hz=>(mlin z hz).1)]
   refine⟨_,rfl,k H' p ts _ (fun c o e=>bt _ _ (s02 _ _ (s1 _ _ e)) (ZD (s1 _ _ e) hp)) hpH hU (fun c hc=>?_) ?_ mem⟩
   ·have:=(mem c.1 c.2).mp hc
    rw[hin]at this
    have h1:=mcol _ this.1
    have h2:=mlin _ this.2
    omega
   ·rw[TV]
    exact YE llin lcol
end
end Cp
end
section
namespace Cp
open PySem PySem.Spec PyProof.Rows L2 Ma
section
variable{P:Program}{w:World}{K:PySem.W.Frag}{mg:Str->Option Value}{base:Heap}{cGrid:Addr}
noncomputable def WB(G:Vamato.Grid)(v:Bool)(m:Nat):List (Nat×Nat):=(Vamato.cellsOf G.width m).filter fun c=>G.painted c.1 c.2==v
noncomputable def UM(G:Vamato.Grid)(v:Bool)(j n:Nat):List (Nat×Nat):=((List.range n).map fun i=>(i,j)).filter fun c=>G.painted c.1 c.2==v
theorem way_succ(G:Vamato.Grid)(v:Bool)(m:Nat):WB G v (m+1)=WB G v m++UM G v m G.width:=by
 unfold WB UM
 rw[WU,Y9]
theorem Ru(G:Vamato.Grid)(v:Bool)(j n:Nat):UM G v j (n+1)=UM G v j n++(if(G.painted n j==v)=true then[(n,j)]else[]):=by
 unfold UM
 rw[YC,ZJ,Y9]
 congr 1
 simp only[ZB,Wz,List.filter_cons,VR]
theorem Pi(G:Vamato.Grid)(v:Bool)(j n:Nat):(UM G v j n).length<=n:=by
 unfold UM
 refine Zi (YS _ _) ?_
 simp
theorem Nt(G:Vamato.Grid)(v:Bool)(m:Nat):(WB G v m).length<=m*G.width:=by
 unfold WB
 refine Zi (YS _ _) ?_
 rw[YI]
 exact Zl _
noncomputable abbrev sCta:Stmt:=XG (top 5) 11
theorem scCta:ZP ["self","way","cells","j","row","i","cell"] ["self","way"] (Zh sCta):=⟨rfl,rfl,rfl,by decide +kernel,rfl,by decide +kernel,by decide +kernel⟩
noncomputable def NE(C:Addr):Sp:=fun vs H Q _=>∃(g:Addr)(G:Vamato.Grid)(R:Addr)(as:List Addr)(v:Bool),vs=[.ref g,.int (b2i v)]/\Ys C H g G R as/\
 ∀H' p ts,Same H H'->H p=none->YR H' p ts (WB G v G.height)->Q (.ref p) H'
theorem ok_cta{f:Addr}{fd:FuncData}(F:Fun K "cells_that_are" "Grid.cells_that_are" sCta f fd)(T:TxtC K mg cGrid):FnOk P w K mg base CX0 1 f fd ["self","way"] (NE cGrid):=by
 refine F.ok scCta (fun vs H Q E h=>?_) (fun cdv A outer s H vs Q E hr h=>?_)
 ·obtain⟨g,G,R,as,v,rfl,_⟩:=h
  rfl
 ·obtain⟨g,G,R,as,v,rfl,hG,k⟩:=h
  have nd:=scCta.nd
  obtain⟨dx,hg⟩:=hG.at_
  have ok:=hG.ok
  refine⟨_,(Zk (ZZ (i:=2) nd rfl (Or.inl rfl) (Yp Zn))
   (Zk (VU YH rfl (Sm (by rfl) T.n_enumerate (Zb (YT (pv 0) rfl) Zn)) (Qv (n:=2) rfl (YO (Z2 (i:=3) nd rfl (Or.inr rfl)) (YO (Z2 (i:=4) nd rfl (Or.inl rfl)) WD)))
   (Zr (Xx (Um Z9 XS XT Uo (pv 2) (Zb (X1 rfl nd (Sm (by rfl) T.n_enumerate (Zb (pv 4) Zn)) (own:=[("i",5),("cell",6)]) (Yr (by kernel_rfl)) (fun _ _ _ _ _=>(V9 (K:=K) (n:=2) rfl rfl (YO (Z2 (i:=5) nd rfl (Or.inl rfl)) (YO (Z2 (i:=6) nd rfl (Or.inl rfl)) WD)))) (fun _ _ _ _ _=>(Sj (Yx UG (pv 6) (pv 1) (YU _)))) (fun _ _ _ _ _=>(Ue (Zb (pv 5) (Zb (pv 3) Zn))))) Zn)))))
   (Zr (ZN (pv 2))))),?_⟩
  refine⟨ZG _,fun p hp=>?_⟩
  have s0:Same H (L2.upd H p (.lst [])):=Same.new hp
  have hRlen:(ZV as).length=G.height:=by rw[Za,hG.rows.len]
  refine⟨_,rfl,g,cGrid,dx,_,_,rfl,s0 _ _ hg,T.cl,T.a_rows,Wr G R,R,_,rfl,SqL.of (s0 _ _ hG.rows.at_),N8 (K:=K) (a:=R) (xs:=ZV as)
   (fun m σ H'=>∃(v3 v4:Option V)(ts:List Addr),σ=[some (.ref g),some (.int (b2i v)),some (.ref p),v3,v4,none,none]/\Same H H'/\YR H' p ts (WB G v m))
   ⟨none,none,[],rfl,s0,Zf,.nil⟩ (fun m σ H' _ ⟨_,_,_,_,s1,_⟩=>SqL.of (s1 _ _ hG.rows.at_)) ?_ ?_⟩
  ·rintro m x σ H' T0 hx ⟨v3,v4,ts,rfl,s1,hC⟩ hT0
   obtain⟨a,ha,rfl⟩:=Xr hx
   have hmh:m<G.height:=by rw[<-hG.rows.len];exact(Zd.mp ha).1
   have s2:Same H' (L2.upd H' T0 (.tup [.int (m:Int),.ref a])):=Same.new hT0
   revert s2
   generalize L2.upd H' T0 (.tup [.int (m:Int),.ref a])=H2
   intro s2
   have hrow:=(s1.trans s2) _ _ (hG.rows.row m a ha)
   have hC2:=hC.same s2
   have hlt:ts.length<=1600:=by
    rw[Zy hC.each]
    exact Zi (Nt G v m) (Zi (YE (Nat.le_of_lt hmh) (Zl _)) (YE ok.h2 ok.w2))
   refine⟨_,rfl,.inl ⟨rfl,_,SqL.of hC2.at_⟩,_,rfl,a,_,rfl,SqL.of hrow,fun D hD=>Nh (K:=K) (a:=a) (xs:=ZQ (rowP G.width fun i=>G.painted i m)) (n1:=5) (n2:=6)
    (fun i H'=>∃us,Same H2 H'/\YR H' D us (UM G v m i)) ⟨[],Same.new hD,Zf,.nil⟩ (fun i H' _ ⟨_,s3,_⟩=>SqL.of (s3 _ _ hrow)) (fun _ _=>rfl) ?_ ?_⟩
   ·rintro i x H3 T1 hx ⟨us,s3,hU⟩ hT1
    obtain⟨z,hz,rfl⟩:=int_at hx
    have hi:i<G.width:=by
     have:=(Zd.mp hz).1
     rw[Yh]at this
     exact this
    have ez:z=b2i (G.painted i m):=by
     rw[X6 hi]at hz
     exact(ZC hz).symm
    subst ez
    have hU3:=hU.same (Same.new (o:=.tup [.int (i:Int),.int (b2i (G.painted i m))]) hT1)
    have s4:Same H2 (L2.upd H3 T1 (.tup [.int (i:Int),.int (b2i (G.painted i m))])):=s3.trans (Same.new hT1)
    revert hU3 s4
    generalize L2.upd H3 T1 (.tup [.int (i:Int),.int (b2i (G.painted i m))])=H4
    intro hU3 s4
    refine⟨_,rfl,_,rfl,rfl,_,rfl,ite2 (fun e=>?_) (fun e=>?_)⟩
    ·have e':(G.painted i m==v)=true:=by
      have:=b2i_inj.mp (show b2i (G.painted i m)=b2i v by simpa using e)
      rw[this];simp
     refine⟨_,rfl,_,rfl,(by show 2<=sizeLine;decide),fun t ht=>⟨ZV us,by rw[Zt (ZD hU3.at_ ht)];exact hU3.at_,?_,us++[t],?_,⟨by rw[Zf,Yw],?_⟩⟩⟩
     ·rw[Za,Zy hU.each]
      exact Z3 (Zi (Pi G v m i) (Nat.le_of_lt (ZX hi ok.w2))) (by decide)
     ·exact Xg hD (s4.trans (Same.new ht))
     ·rw[Ru,if_pos e']
      have hU4:=hU3.same (Same.new (o:=.tup [.int (i:Int),.int (m:Int)]) ht)
      exact V8 (XR hU4.at_ hU4.each) (by show L2.upd _ D _ t=_;rw[Zt (Yq (ZD hU3.at_ ht)),Zf])
    ·have e':¬(G.painted i m==v)=true:=fun q=>e (by rw[eq_of_beq q];exact decide_eq_true rfl)
     refine⟨us,s4,?_⟩
     rw[Ru,if_neg e',Y6]
     exact hU3
   ·rintro H3 ⟨us,s3,hU⟩
    rw[Za,Yh]at hU
    have hp3:=s3 _ _ hC2.at_
    have hpD:p≠D:=ZD hC2.at_ hD
    refine⟨p,D,_,_,rfl,rfl,hp3,hU.at_,?_,_,_,ts++us,rfl,((s1.trans s2).trans s3).upd hp,⟨by rw[Zf];congr 2;unfold ZV;rw[ZJ],?_⟩⟩
    ·rw[Za,Za,Zy hU.each]
     have:=Pi G v m G.width
     have:=ok.w2
     exact Zi (show _<=2000 by omega) (by decide)
    ·rw[way_succ]
     exact Ux (XR hp3 (hC2.same s3).each) (XR hp3 hU.each)
  ·rintro σ H' ⟨v3,v4,ts,rfl,s1,hC⟩
   rw[hRlen]at hC
   exact⟨_,rfl,k H' p ts s1 hp hC⟩
end
end Cp
end
section
namespace Cp
open PySem PySem.Spec PyProof.Rows L2 Ma
section
variable{P:Program}{w:World}{K:PySem.W.Frag}{mg:Str->Option Value}{base:Heap}{cGrid aNB aMT:Addr}
noncomputable def UE(K:PySem.W.Frag)(a:Addr)(ss:List (Int×Int)):Prop:=∃bs:List Addr,(∀H:Hp,SqT K H a (ZV bs))/\Paired (fun b s=>∀H:Hp,SqT K H b [.int s.1,.int s.2]) bs ss
structure TxtT(K:PySem.W.Frag)(mg:Str->Option Value)(aNB:Addr)(aMT:Addr):Prop where
 g_TO_NEIGHBOURS:GV mg "TO_NEIGHBOURS" (.ref aNB)
 g_TO_MEETING:GV mg "TO_MEETING" (.ref aMT)
 s_NB:UE K aNB [(-1,0),(1,0),(0, -1),(0,1)]
 s_MT:UE K aMT [(-1, -1),(-1,0),(-1,1),(0, -1),(0,1),(1, -1),(1,0),(1,1)]
noncomputable abbrev PJ:Stmt:=top 6
theorem scStep:ZP ["i","j","steps","across","up"] ["i","j","steps"] (Zh PJ):=⟨rfl,rfl,rfl,by decide +kernel,rfl,by decide +kernel,by decide +kernel⟩
noncomputable def OS(K:PySem.W.Frag):Sp:=fun vs H Q _=>∃(i j:Int)(st:Addr)(ss:List (Int×Int)),vs=[.int i,.int j,.ref st]/\UE K st ss/\ss.length<=8/\
 ∀H' p ts,Same H H'->H p=none->H' p=some (.lst (ZV ts))->Paired (fun t (s:Int×Int)=>H' t=some (.tup [.int (i+s.1),.int (j+s.2)])) ts ss->Q (.ref p) H'
theorem ok_step{f:Addr}{fd:FuncData}(F:Fun K "stepped" "stepped" PJ f fd):FnOk P w K mg base CX0 1 f fd ["i","j","steps"] (OS K):=by
 refine F.ok scStep (fun vs H Q E h=>?_) (fun cdv A outer s H vs Q E hr h=>?_)
 ·obtain⟨i,j,st,ss,rfl,_⟩:=h
  rfl
 ·obtain⟨i,j,st,ss,rfl,⟨bs,hbs,hpr⟩,hl,k⟩:=h
  have nd:=scStep.nd
  have hlen:=Zy hpr
  refine⟨_,(Zr (ZN (X1 rfl nd (pi_tup (pv 2)) (own:=[("across",3),("up",4)]) (Yr (by kernel_rfl)) (fun _ _ _ _ _=>(V9 (K:=K) (n:=2) rfl rfl (YO (Z2 (i:=3) nd rfl (Or.inl rfl)) (YO (Z2 (i:=4) nd rfl (Or.inl rfl)) WD)))) (fun _ _ _ _ _=>Y4) (fun _ _ _ _ _=>(Ue (Zb (Xf Vi (pv 0) (pv 3)) (Zb (Xf Vi (pv 1) (pv 4)) Zn))))))),?_⟩
  refine⟨_,rfl,st,rfl,⟨_,hbs _⟩,fun D hD=>lc_genT (K:=K) (a:=st) (xs:=ZV bs) (n1:=3) (n2:=4)
   (fun ys H'=>∃us,ys=ZV us/\Same H H'/\H' D=some (.lst (ZV us))/\Paired (fun t (s:Int×Int)=>H' t=some (.tup [.int (i+s.1),.int (j+s.2)])) us (ss.take us.length)) ⟨[],rfl,Same.new hD,Zf,.nil⟩
   (fun ys H' _=>hbs _) (by rw[Za,hlen];exact Zi hl (by decide)) (fun _ _=>rfl) ?_ ?_⟩
  ·rintro ys x H' Rr hx ⟨us,rfl,s1,hDD,hp⟩
   obtain⟨b,hb,rfl⟩:=Xr hx
   obtain⟨d,hd,hT⟩:=Z4 hpr hb
   rw[Za]at hd
   refine⟨b,_,_,rfl,hT _,fun hR=>⟨_,rfl,_,rfl,_,_,rfl,rfl,_,rfl,_,rfl,_,_,rfl,rfl,Ww _ _,fun t ht=>hR _ _ (by rw[Zt (ZD hDD ht)];exact hDD) ⟨us++[t],(Yw _ _).symm,Xg hD (s1.trans (Same.new ht)),by rw[Zf,Yw],?_⟩⟩⟩
   rw[Zj,Z6,take_snoc hd]
   refine V8 (pimp hp fun u s _ q=>?_) ?_
   ·rw[Zt (We (show(L2.upd H' t _) u=_ from Same.new ht _ _ q) (show(L2.upd H' t (.tup [.int (i+d.1),.int (j+d.2)])) D=_ from Same.new ht _ _ hDD) (by intro z;cases z))]
    exact Same.new ht _ _ q
   ·rw[Zt (Yq (ZD hDD ht)),Zf]
  ·rintro ys H' hyl ⟨us,rfl,s1,hDD,hp⟩
   have hyl':us.length=ss.length:=by
    have:=hyl
    rw[Za,Za]at this
    omega
   rw[Ya (by omega)]at hp
   exact k H' D us s1 hD hDD hp
noncomputable def Tz(i j:Int):List (Int×Int):=[(i + -1,j+0),(i+1,j+0),(i+0,j + -1),(i+0,j+1)]
theorem Ln{i j a b:Nat}:(((a:Int),(b:Int))∈Tz (i:Int) (j:Int))↔Adj false (a,b) (i,j):=by
 unfold Tz Adj
 simp only[Zw,XU,Xe,or_false,ZR,false_and]
 omega
theorem isCell_iff{G:Vamato.Grid}{x y:Int}:Vamato.isCell G x y=true↔∃a b:Nat,x=(a:Int)/\y=(b:Int)/\a<G.width/\b<G.height:=by
 unfold Vamato.isCell
 simp only[Zv,decide_eq_true_eq]
 constructor
 ·rintro⟨h1,h2,h3,h4⟩
  exact⟨x.toNat,y.toNat,by omega,by omega,by omega,by omega⟩
 ·rintro⟨a,b,rfl,rfl,h1,h2⟩
  omega
noncomputable abbrev sNb:Stmt:=XG (top 5) 12
theorem scNb:ZP ["self","i","j","place"] ["self","i","j"] (Zh sNb):=⟨rfl,rfl,rfl,by decide +kernel,rfl,by decide +kernel,by decide +kernel⟩
noncomputable def spNb(C:Addr):Sp:=fun vs H Q _=>∃(g:Addr)(G:Vamato.Grid)(R:Addr)(as:List Addr)(i j:Nat),vs=[.ref g,.int (i:Int),.int (j:Int)]/\Ys C H g G R as/\
 ∀H' p ts cs,Same H H'->H p=none->YR H' p ts cs->(∀a b,(a,b)∈cs↔a<G.width/\b<G.height/\Adj false (a,b) (i,j))->Q (.ref p) H'
theorem ok_nb{f:Addr}{fd:FuncData}(F:Fun K "neighbours" "Grid.neighbours" sNb f fd)(T:TxtT K mg aNB aMT)(C_stepped:Callee P w K mg base "stepped" 1 ["i","j","steps"] (OS K))(M_Grid_has_cell:Y5 P w K mg base cGrid "has_cell" 2 ["self","i","j"] (Pw cGrid)):FnOk P w K mg base CX0 3 f fd ["self","i","j"] (spNb cGrid):=by
 refine F.ok scNb (fun vs H Q E h=>?_) (fun cdv A outer s H vs Q E hr h=>?_)
 ·obtain⟨g,G,R,as,i,j,rfl,_⟩:=h
  rfl
 ·obtain⟨g,G,R,as,i,j,rfl,hG,k⟩:=h
  have nd:=scNb.nd
  refine⟨_,(Zr (ZN (X1 rfl nd (YN (ZU C_stepped hr rfl (Zb (pv 1) (Zb (pv 2) (Zb (pe_g rfl T.g_TO_NEIGHBOURS) Zn))))) (own:=[("place",3)]) (Yr (by kernel_rfl)) (fun _ _ _ _ _=>(Z2 (i:=3) nd rfl (Or.inl rfl))) (fun _ _ _ _ _=>(Sj (Wj (YW (pv 0) M_Grid_has_cell hr (Zb (Xt (LO (K:=K) rfl) (pv 3) ZE (fun _ _=>rfl)) (Zb (Xt (LO (K:=K) rfl) (pv 3) ZE (fun _ _=>rfl)) Zn)))))) (fun _ _ _ _ _=>(pv 3))))),?_⟩
  refine⟨_,rfl,_,rfl,(i:Int),(j:Int),aNB,_,rfl,T.s_NB,(by decide),fun H5 q ts s5 hqn hq5 hT0=>?_⟩
  have hts:ts.length=4:=Zy hT0
  have hT:∀(n:Nat) t,ts[n]?=some t->∃c,(Tz (i:Int) (j:Int))[n]?=some c/\H5 t=some (.tup [.int c.1,.int c.2]):=fun n t ht=>by
   obtain⟨d,hd,h⟩:=Z4 hT0 ht
   refine⟨((i:Int)+d.1,(j:Int)+d.2),?_,h⟩
   have e:Tz (i:Int) (j:Int)=([(-1,0),(1,0),(0, -1),(0,1)]:List (Int×Int)).map fun d=>((i:Int)+d.1,(j:Int)+d.2):=rfl
   rw[e,ZA,hd]
   rfl
  have hG5:=hG.same s5
  obtain⟨dx,hg⟩:=hG5.at_
  refine⟨q,rfl,⟨_,SqL.of hq5⟩,fun D hD=>Tp (K:=K) (xs:=ZV ts) (fun n H'=>∃us cs,Same H5 H'/\YR H' D us cs/\us.length<=n/\∀a b,(a,b)∈cs↔a<G.width/\b<G.height/\((a:Int),(b:Int))∈(Tz (i:Int) (j:Int)).take n)
   ⟨[],[],Same.new hD,⟨Zf,.nil⟩,Zl _,by simp⟩ (fun n H' _ ⟨_,_,s6,_⟩=>SqL.of (s6 _ _ hq5)) (fun n x H' hx ⟨us,cs,s6,hC,hlu,hm⟩=>?_) (fun H' ⟨us,cs,s6,hC,hlu,hm⟩=>?_)⟩
  ·obtain⟨t,ht,rfl⟩:=Xr hx
   obtain⟨c,hc,htup⟩:=hT n t ht
   have hn:n<4:=by rw[<-hts];exact(Zd.mp ht).1
   have htup:=s6 _ _ htup
   refine⟨rfl,_,rfl,g,dx,_,rfl,s6 _ _ hg,Wl G R,_,rfl,t,_,_,_,rfl,rfl,SqT.of htup,Xu (j:=0) rfl rfl,_,rfl,t,_,_,_,rfl,rfl,SqT.of htup,Xu (j:=1) rfl rfl,g,G,R,as,c.1,c.2,rfl,hG5.same s6,_,rfl,?_⟩
   refine ite2 (fun e=>?_) (fun e=>?_)
   ·obtain⟨a,b,ea,eb,ha,hb⟩:=isCell_iff.mp e
    refine⟨_,rfl,_,hC.at_,?_,us++[t],cs++[(a,b)],Xg hD s6,⟨by rw[Zf,Yw],V8 (XR hC.at_ hC.each) ?_⟩,by simp;omega,fun a' b'=>?_⟩
    ·rw[Za]
     exact Z3 hlu (Wa hn (by decide))
    ·show L2.upd _ D _ t=_
     rw[Zt (We htup hC.at_ (by intro z;cases z)),htup,ea,eb]
    ·rw[take_snoc hc]
     simp only[Zs,ZI,hm,XU]
     constructor
     ·rintro(⟨h1,h2,h3⟩|⟨rfl,rfl⟩)
      ·exact⟨h1,h2,.inl h3⟩
      ·exact⟨ha,hb,.inr (by rw[<-ea,<-eb])⟩
     ·rintro⟨h1,h2,h3|h3⟩
      ·exact .inl ⟨h1,h2,h3⟩
      ·have h4:(a':Int)=c.1:=by rw[<-h3]
       have h5:(b':Int)=c.2:=by rw[<-h3]
       exact .inr ⟨by omega,by omega⟩
   ·refine⟨us,cs,s6,hC,by omega,fun a' b'=>?_⟩
    rw[take_snoc hc]
    simp only[Zs,ZI,hm]
    constructor
    ·rintro⟨h1,h2,h3⟩;exact⟨h1,h2,.inl h3⟩
    ·rintro⟨h1,h2,h3|h3⟩
     ·exact⟨h1,h2,h3⟩
     ·exact(e (isCell_iff.mpr ⟨a',b',by rw[<-h3],by rw[<-h3],h1,h2⟩)).elim
  ·refine k H' D us cs (s5.trans s6) (s5.free hD) hC fun a b=>?_
   have hm:=hm a b
   rw[show(ZV ts).length=(Tz (i:Int) (j:Int)).length from by rw[Za,hts];rfl,YM,Ln]at hm
   exact hm
end
end Cp
end
section
namespace Cp
open PySem PySem.Spec PyProof.Rows L2 Ma
section
variable{P:Program}{w:World}{K:PySem.W.Frag}{mg:Str->Option Value}{base:Heap}{cGrid:Addr}
structure Kp(C:Addr)(H0:Hp)(g:Addr)(G:Vamato.Grid)(R:Addr)(as:List Addr)(v:Bool)(p:Addr)(S:Nat->Nat->Prop)(q:Nat->Nat->Bool)(us:List Addr)(ds:List (Nat×Nat))(H:Hp):Prop where
 grid:Ys C H g (G.with q) R as
 ov:over G.painted v S q G.width G.height
 out:YR H p us ds
 ins:Ins G ds
 mem:∀a b,a<G.width->b<G.height->((a,b)∈ds↔S a b/\¬G.painted a b=v)
 cnt:ds.length+Ma.cnt G.width G.height (fun i j=>G.painted i j==v)=Ma.cnt G.width G.height (fun i j=>q i j==v)
 but:Xi as H0 H
theorem Kp.same{C:Addr}{H0 H H':Hp}{g R p:Addr}{G:Vamato.Grid}{as us:List Addr}{v:Bool}{S:Nat->Nat->Prop}{q:Nat->Nat->Bool}{ds:List (Nat×Nat)}(h:Kp C H0 g G R as v p S q us ds H)(s:Same H H'):Kp C H0 g G R as v p S q us ds H':=
 ⟨h.grid.same s,h.ov,h.out.same s,h.ins,h.mem,h.cnt,fun c o e n=>s c o (h.but c o e n)⟩
theorem Ys.off{C:Addr}{H:Hp}{g R p:Addr}{G:Vamato.Grid}{as:List Addr}{o:HO}(h:Ys C H g G R as)(n1:g≠p)(n2:R≠p)(n3:p∉as):Ys C (L2.upd H p o) g G R as:=
 ⟨let⟨dx,e⟩:=h.at_;⟨dx,by rw[Zt n1];exact e⟩,⟨by rw[Zt n2];exact h.rows.at_,h.rows.len,h.rows.nd,h.rows.out,fun j a ha=>by rw[Zt (show a≠p from fun z=>n3 (z▸Zp ha))];exact h.rows.row j a ha⟩,h.ok⟩
section
variable{C:Addr}{H0 H H':Hp}{g R p:Addr}{G:Vamato.Grid}{as us:List Addr}{v:Bool}{S S':Nat->Nat->Prop}{q:Nat->Nat->Bool}{ds:List (Nat×Nat)}{a b:Nat}
theorem Kp.few(h:Kp C H0 g G R as v p S q us ds H)(ok:GOk G):us.length<=1600:=by
 have h1:=h.cnt
 have h2:=cnt_le G.width G.height (fun i j=>q i j==v)
 rw[Zy h.out.each]
 have h3:G.width*G.height<=40*40:=YE ok.w2 ok.h2
 omega
theorem Kp.skip(h:Kp C H0 g G R as v p S q us ds H)(ha:a<G.width)(hb:b<G.height)(e:q a b=v)(hS:∀x y,x<G.width->y<G.height->(S' x y↔S x y\/(x=a/\y=b)))
  (hG:Ys C H' g (setG (G.with q) a b v) R as) (hbr:Xi as H H') (hp:p∉as):Kp C H0 g G R as v p S' (updP q a b v) us ds H':=by
 rw[SG]at hG
 refine⟨hG,h.ov.step hS,h.out.but h.grid.rows hp hbr,h.ins,fun x y hx hy=>?_,?_,h.but.trans hbr⟩
 ·rw[h.mem x y hx hy,hS x y hx hy]
  constructor
  ·rintro⟨h1,h2⟩;exact⟨.inl h1,h2⟩
  ·rintro⟨h1|⟨rfl,rfl⟩,h2⟩
   ·exact⟨h1,h2⟩
   ·refine⟨ZY fun hn=>h2 ?_,h2⟩
    rw[<-(h.ov x y hx hy).2 hn]
    exact e
 ·rw[Q3 ha hb,if_pos e]
  exact h.cnt
theorem Kp.add(h:Kp C H0 g G R as v p S q us ds H)(ha:a<G.width)(hb:b<G.height)(e:¬q a b=v)(hS:∀x y,x<G.width->y<G.height->(S' x y↔S x y\/(x=a/\y=b)))
  (hG:Ys C H' g (setG (G.with q) a b v) R as) (hbr:Xi as H H') (hp:p∉as) (hR:R≠p) (hp0:H0 p=none) {t:Addr} (ht:H' t=none):
  Kp C H0 g G R as v p S' (updP q a b v) (us++[t]) (ds++[(a,b)]) (L2.upd (L2.upd H' t (.tup [.int (a:Int),.int (b:Int)])) p (.lst (ZV (us++[t])))):=by
 rw[SG]at hG
 have hout:=h.out.but h.grid.rows hp hbr
 have hnS:¬S a b:=fun z=>e ((h.ov a b ha hb).1 z)
 have hpv:¬G.painted a b=v:=fun z=>e (by rw[(h.ov a b ha hb).2 hnS];exact z)
 have st:Same H' (L2.upd H' t (.tup [.int (a:Int),.int (b:Int)])):=Same.new ht
 have ho2:=hout.same st
 obtain⟨dx,hg⟩:=hG.at_
 have ngp:g≠p:=We hg hout.at_ (by intro z;cases z)
 have ntp:t≠p:=fun z=>by rw[z,hout.at_]at ht;cases ht
 refine⟨(hG.same st).off ngp hR hp,h.ov.step hS,⟨Zf,V8 (XR ho2.at_ ho2.each) (by show L2.upd _ p _ t=_;rw[Zt ntp,Zf])⟩,?_,fun x y hx hy=>?_,?_,fun c o ec nc=>?_⟩
 ·intro c hc
  rcases Zs.mp hc with hc|hc
  ·exact h.ins c hc
  ·have:c=(a,b):=by simpa using hc
   rw[this];exact⟨ha,hb⟩
 ·simp only[Zs,ZI,XU,h.mem x y hx hy,hS x y hx hy]
  constructor
  ·rintro(⟨h1,h2⟩|⟨rfl,rfl⟩)
   ·exact⟨.inl h1,h2⟩
   ·exact⟨.inr ⟨rfl,rfl⟩,hpv⟩
  ·rintro⟨h1|h1,h2⟩
   ·exact .inl ⟨h1,h2⟩
   ·exact .inr h1
 ·rw[Q3 ha hb,if_neg e,Zj]
  have:=h.cnt
  simp only[Zo,Yc]
  omega
 ·rw[Zt (ZD ec hp0),Zt (fun z=>by rw[<-z]at ht;rw[hbr c o (h.but c o ec nc) nc]at ht;cases ht)]
  exact hbr c o (h.but c o ec nc) nc
end
noncomputable abbrev PX:Stmt:=XG (top 5) 10
theorem scOnce:ZP ["self","cells","way","turned","i","j","a","b"] ["self","cells","way"] (Zh PX):=⟨rfl,rfl,rfl,by decide +kernel,rfl,by decide +kernel,by decide +kernel⟩
noncomputable def MG(C:Addr):Sp:=fun vs H Q _=>∃(g:Addr)(G:Vamato.Grid)(R:Addr)(as:List Addr)(v:Bool)(l:Addr)(ts:List Addr)(cs:List (Nat×Nat)),vs=[.ref g,.ref l,.int (b2i v)]/\Ys C H g G R as/\YR H l ts cs/\Ins G cs/\l∉as/\
 ∀H' q p us ds,H p=none->Kp C H g G R as v p (fun a b=>∃c∈cs,Adj false c (a,b)) q us ds H'->Q (.ref p) H'
theorem ok_once{f:Addr}{fd:FuncData}(F:Fun K "spread_once" "Grid.spread_once" PX f fd)(T:TxtC K mg cGrid)(M_Grid_neighbours:Y5 P w K mg base cGrid "neighbours" 3 ["self","i","j"] (spNb cGrid))(M_Grid_turn:Y5 P w K mg base cGrid "turn" 1 ["self","i","j","way"] (Qg cGrid)):
  FnOk P w K mg base CX0 4 f fd ["self","cells","way"] (MG cGrid):=by
 refine F.ok scOnce (fun vs H Q E h=>?_) (fun cdv A outer s H vs Q E hr h=>?_)
 ·obtain⟨g,G,R,as,v,l,ts,cs,rfl,_⟩:=h
  rfl
 ·obtain⟨g,G,R,as,v,l,ts,cs,rfl,hG,hC,hI,hla,k⟩:=h
  have nd:=scOnce.nd
  have ok:=hG.ok
  have hlen:=Zy hC.each
  refine⟨_,(Zk (ZZ (i:=3) nd rfl (Or.inl rfl) (Yp Zn))
   (Zk (VU YH rfl (YN (pv 1)) (Qv (n:=2) rfl (YO (Z2 (i:=4) nd rfl (Or.inl rfl)) (YO (Z2 (i:=5) nd rfl (Or.inl rfl)) WD)))
   (Zr (VU YH rfl (YN (YW (pv 0) M_Grid_neighbours hr (Zb (pv 4) (Zb (pv 5) Zn)))) (Qv (n:=2) rfl (YO (Z2 (i:=6) nd rfl (Or.inl rfl)) (YO (Z2 (i:=7) nd rfl (Or.inl rfl)) WD)))
   (Zr (Xm (Yx UG (YW (pv 0) M_Grid_turn hr (Zb (pv 6) (Zb (pv 7) (Zb (pv 2) Zn)))) ZE (YU _)) (Zr (Xx (Um Z9 YK YL WJ (pv 3) (Zb (Ue (Zb (pv 6) (Zb (pv 7) Zn))) Zn)))) Yy)))))
   (Zr (ZN (pv 3))))),?_⟩
  refine⟨ZG _,fun p hp=>?_⟩
  have s0:Same H (L2.upd H p (.lst [])):=Same.new hp
  have hpa:p∉as:=hG.rows.no_none hp
  have seqL:∀{H':Hp},Xi as H H'->YR H' l ts cs:=fun b=>hC.but hG.rows hla b
  have hRp:R≠p:=ZD hG.rows.at_ hp
  refine⟨_,rfl,l,rfl,⟨_,SqL.of (s0 _ _ hC.at_)⟩,V0 (K:=K) (a:=l) (xs:=ZV ts)
   (fun n σ H'=>∃(v4 v5 v6 v7:Option V)(q:Nat->Nat->Bool)(us:List Addr)(ds:List (Nat×Nat)),σ=[some (.ref g),some (.ref l),some (.int (b2i v)),some (.ref p),v4,v5,v6,v7]/\Kp cGrid H g G R as v p (fun a b=>∃c∈cs.take n,Adj false c (a,b)) q us ds H')
   ⟨none,none,none,none,G.painted,[],[],rfl,by rw[Ui ok.told];exact hG.same s0,fun a b _ _=>⟨fun z=>by simp at z,fun _=>rfl⟩,⟨Zf,.nil⟩,fun c z=>(by simp at z),fun a b _ _=>by simp,by simp,fun c o e n=>s0 c o e⟩
   (fun n σ H' _ ⟨_,_,_,_,_,_,_,_,hK⟩=>SqL.of (seqL hK.but).at_) ?_ ?_⟩
  ·rintro n y σ H' hy ⟨v4,v5,v6,v7,q,us,ds,rfl,hK⟩
   obtain⟨t,ht,rfl⟩:=Xr hy
   obtain⟨c,hc,htup⟩:=Z4 hC.each ht
   have hcI:=hI c (Zp hc)
   have htup':=hK.but _ _ htup (hG.rows.no_tup htup)
   refine VZ (SqT.of htup') ?_
   obtain⟨dx,hg⟩:=hK.grid.at_
   refine⟨_,rfl,g,dx,_,rfl,hg,Wl _ R,_,rfl,_,rfl,g,G.with q,R,as,c.1,c.2,rfl,hK.grid,fun H1 nb nts ncs s1 hnb hN hmem=>⟨nb,rfl,⟨_,SqL.of hN.at_⟩,V0 (K:=K) (a:=nb) (xs:=ZV nts)
    (fun m σ H'=>∃(v6 v7:Option V)(q:Nat->Nat->Bool)(us:List Addr)(ds:List (Nat×Nat)),σ=[some (.ref g),some (.ref l),some (.int (b2i v)),some (.ref p),some (.int (c.1:Int)),some (.int (c.2:Int)),v6,v7]/\YR H' nb nts ncs/\
     Kp cGrid H g G R as v p (fun a b=>(∃c'∈cs.take n,Adj false c' (a,b))\/(a,b)∈ncs.take m) q us ds H')
    ⟨v6,v7,q,us,ds,rfl,hN,?_⟩ (fun m σ H' _ ⟨_,_,_,_,_,_,hN',_⟩=>SqL.of hN'.at_) ?_ ?_⟩⟩
   ·have hK1:=hK.same s1
    exact⟨hK1.grid,hK1.ov.congr fun a b _ _=>by simp,hK1.out,hK1.ins,fun a b ha hb=>(by simp only[List.take_zero,Xe,or_false];exact hK1.mem a b ha hb),hK1.cnt,hK1.but⟩
   ·rintro m y σ H2 hy ⟨v6,v7,q,us,ds,rfl,hN2,hK2⟩
    obtain⟨t2,ht2,rfl⟩:=Xr hy
    obtain⟨⟨a,b⟩,hab,htup2⟩:=Z4 hN2.each ht2
    have hin:=(hmem a b).mp (Zp hab)
    have ha:a<G.width:=hin.1
    have hb:b<G.height:=hin.2.1
    have nba:nb∉as:=hK.grid.rows.no_none hnb
    refine VZ (SqT.of htup2) ?_
    obtain⟨dx2,hg2⟩:=hK2.grid.at_
    have hS:∀x y,x<G.width->y<G.height->(((∃c'∈cs.take n,Adj false c' (x,y))\/(x,y)∈ncs.take (m+1))↔((∃c'∈cs.take n,Adj false c' (x,y))\/(x,y)∈ncs.take m)\/(x=a/\y=b)):=fun x y _ _=>by
     rw[take_snoc hab]
     simp only[Zs,ZI,XU]
     exact⟨fun h=>by rcases h with h|h|h;exact .inl (.inl h);exact .inl (.inr h);exact .inr h,fun h=>by rcases h with(h|h)|h;exact .inl h;exact .inr (.inl h);exact .inr (.inr h)⟩
    refine⟨_,rfl,g,dx2,_,rfl,hg2,Wl _ R,_,rfl,_,rfl,_,rfl,g,G.with q,R,as,a,b,v,rfl,hK2.grid,ha,hb,fun H3 hG3 hb3=>⟨rfl,_,rfl,?_⟩⟩
    rw[Y3 ha hb]
    by_cases e:q a b=v
    ·rw[if_pos e]
     refine ite2 (fun z=>by simp at z) (fun _=>?_)
     exact⟨_,_,updP q a b v,us,ds,rfl,hN2.but hK2.grid.rows nba hb3,hK2.skip ha hb e hS hG3 hb3 hpa⟩
    ·rw[if_neg e]
     refine ite2 (fun _=>?_) (fun z=>(z (decide_eq_true rfl)).elim)
     have ho3:=hK2.out.but hK2.grid.rows hpa hb3
     refine⟨_,rfl,.inl ⟨rfl,_,SqL.of ho3.at_⟩,_,rfl,_,rfl,(by show 2<=sizeLine;decide),fun t3 ht3=>⟨p,_,_,rfl,rfl,by rw[Zt (ZD ho3.at_ ht3)];exact ho3.at_,?_,?_⟩⟩
     ·rw[Za]
      exact Z3 (hK2.few ok) (by decide)
     ·have hN3:=hN2.but hK2.grid.rows nba hb3
      have nnp:nb≠p:=fun z=>by
       rw[z]at hnb
       rw[hK.out.at_]at hnb
       cases hnb
      have hN4:=hN3.same (Same.new (o:=.tup [.int (a:Int),.int (b:Int)]) ht3)
      have ho4:=ho3.same (Same.new (o:=.tup [.int (a:Int),.int (b:Int)]) ht3)
      refine⟨_,_,updP q a b v,us++[t3],ds++[(a,b)],rfl,⟨?_,XR ho4.at_ hN4.each⟩,?_⟩
      ·rw[Zt nnp]
       exact hN4.at_
      ·rw[<-Yw]
       exact hK2.add ha hb e hS hG3 hb3 hpa hRp hp ht3
   ·rintro σ H2 ⟨v6,v7,q,us,ds,rfl,hN2,hK2⟩
    refine⟨_,_,v6,v7,q,us,ds,rfl,?_⟩
    rw[Za,Zy hN.each,YM]at hK2
    have hS:∀a b,a<G.width->b<G.height->((∃c'∈cs.take (n+1),Adj false c' (a,b))↔(∃c'∈cs.take n,Adj false c' (a,b))\/(a,b)∈ncs):=fun a b ha hb=>by
     rw[take_snoc hc,hmem]
     simp only[Zs,ZI]
     constructor
     ·rintro⟨c',h1|rfl,h2⟩
      ·exact .inl ⟨c',h1,h2⟩
      ·exact .inr ⟨ha,hb,h2.symm⟩
     ·rintro(⟨c',h1,h2⟩|⟨_,_,h2⟩)
      ·exact⟨c',.inl h1,h2⟩
      ·exact⟨c,.inr rfl,h2.symm⟩
    exact⟨hK2.grid,hK2.ov.congr hS,hK2.out,hK2.ins,fun a b ha hb=>(hK2.mem a b ha hb).trans (and_congr (hS a b ha hb).symm Iff.rfl),hK2.cnt,hK2.but⟩
  ·rintro σ H' ⟨v4,v5,v6,v7,q,us,ds,rfl,hK⟩
   refine⟨_,rfl,k H' q p us ds hp ?_⟩
   rw[Za,hlen,YM]at hK
   exact hK
end
end Cp
end
section
namespace Cp
open PySem PySem.Spec PyProof.Rows L2 Ma
section
variable{P:Program}{w:World}{K:PySem.W.Frag}{mg:Str->Option Value}{base:Heap}{cGrid:Addr}
structure Fr(G:Vamato.Grid)(v:Bool)(n:Nat)(q:Nat->Nat->Bool)(ds:List (Nat×Nat)):Prop where
 near:∀i j,i<G.width->j<G.height->(q i j=v↔Near G.width G.height (fun a b=>G.painted a b==v) n (i,j))
 ins:Ins G ds
 sub:∀c∈ds,q c.1 c.2=v
 last:∀i j,i<G.width->j<G.height->q i j=v->(i,j)∈ds\/∀a b,a<G.width->b<G.height->Adj false (i,j) (a,b)->q a b=v
theorem fr_zero{G:Vamato.Grid}{v:Bool}:Fr G v 0 G.painted (WB G v G.height):=by
 have hm:∀i j,(i,j)∈WB G v G.height↔(i<G.width/\j<G.height)/\G.painted i j=v:=fun i j=>by
  unfold WB
  rw[Yv,Ua]
  simp
 refine⟨fun i j hi hj=>?_,fun c hc=>((hm c.1 c.2).mp hc).1,fun c hc=>((hm c.1 c.2).mp hc).2,fun i j hi hj e=>.inl ((hm i j).mpr ⟨⟨hi,hj⟩,e⟩)⟩
 rw[Oo ⟨hi,hj⟩]
 simp
theorem fr_succ{G:Vamato.Grid}{v:Bool}{n:Nat}{q q':Nat->Nat->Bool}{ds ds':List (Nat×Nat)}(h:Fr G v n q ds)(ov:over q v (fun a b=>∃c∈ds,Adj false c (a,b)) q' G.width G.height)
  (hi':Ins G ds') (hm:∀a b,a<G.width->b<G.height->((a,b)∈ds'↔(∃c∈ds,Adj false c (a,b))/\¬q a b=v)):Fr G v (n+1) q' ds':=by
 have hq':∀i j,i<G.width->j<G.height->(q' i j=v↔q i j=v\/∃c∈ds,Adj false c (i,j)):=fun i j hi hj=>by
  by_cases z:∃c∈ds,Adj false c (i,j)
  ·exact⟨fun _=>.inr z,fun _=>(ov i j hi hj).1 z⟩
  ·rw[(ov i j hi hj).2 z]
   exact⟨.inl,fun h=>h.resolve_right z⟩
 refine⟨fun i j hi hj=>?_,hi',fun c hc=>?_,fun i j hi hj e=>?_⟩
 ·rw[hq' i j hi hj,Kw ⟨hi,hj⟩,h.near i j hi hj]
  constructor
  ·rintro(h1|⟨c,hc,ad⟩)
   ·exact .inl h1
   ·have:=h.ins c hc
    exact .inr ⟨c,this.1,this.2,ad,(h.near c.1 c.2 this.1 this.2).mp (h.sub c hc)⟩
  ·rintro(h1|⟨e,he1,he2,ad,hn⟩)
   ·exact .inl h1
   ·rcases h.last e.1 e.2 he1 he2 ((h.near e.1 e.2 he1 he2).mpr hn)with h2|h2
    ·exact .inr ⟨e,h2,ad⟩
    ·exact .inl ((h.near i j hi hj).mp (h2 i j hi hj ad))
 ·have hc1:=hi' c hc
  exact(hq' c.1 c.2 hc1.1 hc1.2).mpr (.inr ((hm c.1 c.2 hc1.1 hc1.2).mp hc).1)
 ·by_cases z:q i j=v
  ·refine .inr fun a b ha hb ad=>(hq' a b ha hb).mpr ?_
   rcases h.last i j hi hj z with h2|h2
   ·exact .inr ⟨(i,j),h2,ad⟩
   ·exact .inl (h2 a b ha hb ad)
  ·rcases(hq' i j hi hj).mp e with h1|h1
   ·exact(z h1).elim
   ·exact .inl ((hm i j hi hj).mpr ⟨h1,z⟩)
noncomputable abbrev Tf:Stmt:=XG (top 5) 9
theorem scSpread:ZP ["self","way","n","reached","changed","step"] ["self","way","n"] (Zh Tf):=⟨rfl,rfl,rfl,by decide +kernel,rfl,by decide +kernel,by decide +kernel⟩
noncomputable def Qi(C:Addr):Sp:=fun vs H Q _=>∃(g:Addr)(G:Vamato.Grid)(R:Addr)(as:List Addr)(v:Bool)(n:Nat),vs=[.ref g,.int (b2i v),.int (n:Int)]/\Ys C H g G R as/\n<=100/\
 ∀H' q(c:Nat),Ys C H' g (G.with q) R as->(∀i j,i<G.width->j<G.height->(q i j=v↔Near G.width G.height (fun a b=>G.painted a b==v) n (i,j)))->
  c+cnt G.width G.height (fun i j=>G.painted i j==v)=cnt G.width G.height (fun i j=>q i j==v)->Xi as H H'->Q (.int (c:Int)) H'
theorem Kn{f:Addr}{fd:FuncData}(F:Fun K "spread" "Grid.spread" Tf f fd)(T:TxtC K mg cGrid)(M_Grid_cells_that_are:Y5 P w K mg base cGrid "cells_that_are" 1 ["self","way"] (NE cGrid))
  (M_Grid_spread_once:Y5 P w K mg base cGrid "spread_once" 4 ["self","cells","way"] (MG cGrid)):FnOk P w K mg base CX0 5 f fd ["self","way","n"] (Qi cGrid):=by
 refine F.ok scSpread (fun vs H Q E h=>?_) (fun cdv A outer s H vs Q E hr h=>?_)
 ·obtain⟨g,G,R,as,v,n,rfl,_⟩:=h
  rfl
 ·obtain⟨g,G,R,as,v,n,rfl,hG,hn,k⟩:=h
  have nd:=scSpread.nd
  have ok:=hG.ok
  obtain⟨dx,hg⟩:=hG.at_
  refine⟨_,(Zk (ZZ (i:=3) nd rfl (Or.inl rfl) (YW (pv 0) M_Grid_cells_that_are hr (Zb (pv 1) Zn)))
   (Zk (ZZ (i:=4) nd rfl (Or.inl rfl) ZE)
   (Zk (VU YH rfl (Og (by rfl) T.n_range (Zb (pv 2) Zn)) (Z2 (i:=5) nd rfl (Or.inl rfl))
   (Zk (ZZ (i:=3) nd rfl (Or.inl rfl) (YW (pv 0) M_Grid_spread_once hr (Zb (pv 3) (Zb (pv 1) Zn))))
   (Zr (MO (i:=4) nd rfl (Or.inl rfl) (Yf Yn (by rfl) T.n_len Xz (Zb (pv 3) Zn)) M8))))
   (Zr (ZN (pv 4)))))),?_⟩
  refine⟨_,rfl,g,dx,_,rfl,hg,Wl G R,_,rfl,g,G,R,as,v,rfl,hG,fun H1 l ts s1 hl hC=>?_⟩
  refine⟨_,rfl,_,rfl,by omega,by omega,KJ (lo:=0) (n:=n) (fun m σ H'=>∃(v5:Option V)(l:Addr)(ts:List Addr)(ds:List (Nat×Nat))(q:Nat->Nat->Bool)(c:Nat),σ=[some (.ref g),some (.int (b2i v)),some (.int (n:Int)),some (.ref l),some (.int (c:Int)),v5]/\
    Ys cGrid H' g (G.with q) R as/\Fr G v m q ds/\YR H' l ts ds/\l∉as/\c+cnt G.width G.height (fun i j=>G.painted i j==v)=cnt G.width G.height (fun i j=>q i j==v)/\Xi as H H')
   ⟨none,l,ts,_,G.painted,0,rfl,by rw[Ui ok.told];exact hG.same s1,fr_zero,hC,hG.rows.no_none hl,by omega,Xi.of_same s1⟩ ?_ ?_⟩
  ·rintro m σ H2 hm ⟨v5,l,ts,ds,q,c,rfl,hGq,hF,hC2,hla,hc,hbr⟩
   obtain⟨dx2,hg2⟩:=hGq.at_
   refine⟨_,rfl,g,dx2,_,rfl,hg2,Wl _ R,_,rfl,_,rfl,g,G.with q,R,as,v,l,ts,ds,rfl,hGq,hC2,hF.ins,hla,fun H3 q3 p us ds3 hp hK=>?_⟩
   refine⟨_,rfl,_,rfl,p,_,rfl,.inl (SqL.of hK.out.at_),_,_,rfl,rfl,?_⟩
   have hov:over q v (fun a b=>∃c∈ds,Adj false c (a,b)) q3 G.width G.height:=fun a b ha hb=>by
    have:=hK.ov a b ha hb
    rw[Y3 ha hb]at this
    exact this
   have hmem:∀a b,a<G.width->b<G.height->((a,b)∈ds3↔(∃c∈ds,Adj false c (a,b))/\¬q a b=v):=fun a b ha hb=>by
    have:=hK.mem a b ha hb
    rw[Y3 ha hb]at this
    exact this
   have hcnt:ds3.length+cnt G.width G.height (fun i j=>q i j==v)=cnt G.width G.height (fun i j=>q3 i j==v):=by
    have:=hK.cnt
    have e:cnt (G.with q).width (G.with q).height (fun i j=>(G.with q).painted i j==v)=cnt G.width G.height (fun i j=>q i j==v):=Ws fun i j hi hj=>by rw[Y3 (G:=G) hi hj]
    rw[e]at this
    exact this
   refine⟨some (.int (0+(m:Int))),p,us,ds3,q3,c+ds3.length,?_,hK.grid,fr_succ hF hov hK.ins hmem,hK.out,hGq.rows.no_none hp,by omega,hbr.trans hK.but⟩
   rw[Za,Zy hK.out.each]
   show[some (V.ref g),some (.int (b2i v)),some (.int (n:Int)),some (.ref p),some (.int ((c:Int)+(ds3.length:Int))),some (.int (0+(m:Int)))]=_
   rw[show(c:Int)+(ds3.length:Int)=((c+ds3.length:Nat):Int) by omega]
  ·rintro σ H2 ⟨v5,l,ts,ds,q,c,rfl,hGq,hF,hC2,hla,hc,hbr⟩
   exact⟨_,rfl,k H2 q c hGq hF.near hc hbr⟩
end
end Cp
end
section
namespace Cp
open PySem PySem.Spec PyProof.Rows L2 Ma
section
variable{P:Program}{w:World}{K:PySem.W.Frag}{mg:Str->Option Value}{base:Heap}{cGrid cSrc cBox aSIGN aRULE:Addr}
noncomputable def SqF(K:PySem.W.Frag)(H:Hp)(a:Addr)(xs:List V):Prop:=(∃o,H a=some (.frz o (.lst xs)))\/∀H':Hp,SqL K H' a xs
theorem SqF.seq{K:PySem.W.Frag}{H:Hp}{a:Addr}{xs:List V}(h:SqF K H a xs):SqL K H a xs:=by
 rcases h with⟨o,h⟩|h
 ·exact .inl (.inr ⟨o,h⟩)
 ·exact h H
theorem SqF.keep{K:PySem.W.Frag}{H H':Hp}{a:Addr}{xs:List V}(h:SqF K H a xs)(f:∀b o u,H b=some (.frz o u)->H' b=some (.frz o u)):SqF K H' a xs:=by
 rcases h with⟨o,h⟩|h
 ·exact .inl ⟨o,f _ _ _ h⟩
 ·exact .inr h
structure Wd(K:PySem.W.Frag)(cG cS:Addr)(H:Hp)(g s a:Addr)(G:Vamato.Grid)(R:Addr)(as:List Addr)(l:List Int)(i:Nat):Prop where
 grid:Ys cG H g G R as
 src:∃dx,H s=some (.ins cS dx (srcF a i))
 seq:SqF K H a (ZQ l)
 len:l.length<=17000
 le:i<=l.length
noncomputable def Fm(g s R:Addr)(as:List Addr)(R':Addr)(as':List Addr)(H H':Hp):Prop:=∀b o,H b=some o->b≠g->b≠s->b≠R->b∉as->H' b=some o/\b≠R'/\b∉as'
section
variable{cG cS g s a R:Addr}{G:Vamato.Grid}{as:List Addr}{l:List Int}{i:Nat}{H H1 H':Hp}
theorem Wd.atS(W:Wd K cG cS H g s a G R as l i):Pa K cS H s a l i:=⟨W.src,W.seq.seq,W.len,W.le⟩
theorem Wd.gs(W:Wd K cG cS H g s a G R as l i):g≠s:=by
 obtain⟨dx,e⟩:=W.grid.at_
 obtain⟨dy,e'⟩:=W.src
 refine We e e' fun z=>?_
 injection z with _ _ z
 have:=congrArg List.length z
 simp[Vx,srcF]at this
theorem Wd.rs(W:Wd K cG cS H g s a G R as l i):s∉as/\R≠s/\s≠R:=by
 obtain⟨dy,e'⟩:=W.src
 have h:R≠s:=We W.grid.rows.at_ e' (by intro z;cases z)
 refine⟨fun z=>?_,h,Yq h⟩
 obtain⟨j,hj⟩:=Zx.mp z
 rw[W.grid.rows.row j s hj]at e';cases e'
theorem Wd.same(W:Wd K cG cS H g s a G R as l i)(h:Same H H'):Wd K cG cS H' g s a G R as l i:=
 ⟨W.grid.same h,let⟨dx,e⟩:=W.src;⟨dx,h _ _ e⟩,W.seq.keep fun b o u e=>h _ _ e,W.len,W.le⟩
theorem Fm.trans{R1 R2:Addr}{as1 as2:List Addr}(a:Fm g s R as R1 as1 H H1)(b:Fm g s R1 as1 R2 as2 H1 H'):Fm g s R as R2 as2 H H':=fun c o e n1 n2 n3 n4=>by
 obtain⟨h1,h2,h3⟩:=a c o e n1 n2 n3 n4
 exact b c o h1 n1 n2 h2 h3
theorem Fm.same(h:Same H H'):Fm g s R as R as H H':=fun c o e _ _ n3 n4=>⟨h c o e,n3,n4⟩
theorem Fm.src(h:But s H H'):Fm g s R as R as H H':=fun c o e _ n2 n3 n4=>⟨h c o e n2,n3,n4⟩
theorem Fm.rows(h:Xi as H H'):Fm g s R as R as H H':=fun c o e _ _ n3 n4=>⟨h c o e n4,n3,n4⟩
theorem Fm.moved{R':Addr}{as':List Addr}(h:Moved g R as R' as' H H'):Fm g s R as R' as' H H':=fun c o e n1 _ n3 n4=>by
 refine⟨h.keep c o e n1 n3 n4,fun z=>?_,fun z=>?_⟩
 ·rcases h.newR with q|q
  ·exact n3 (z.trans q)
  ·rw[<-z,e]at q;cases q
 ·rcases h.news c z with q|q
  ·exact n4 q
  ·rw[e]at q;cases q
theorem Wd.took(W:Wd K cG cS H g s a G R as l i){j:Nat}(hA:Pa K cS H' s a l j)(b:But s H H'):Wd K cG cS H' g s a G R as l j:=by
 obtain⟨n1,n2,n3⟩:=W.rs
 refine⟨⟨let⟨dx,e⟩:=W.grid.at_;⟨dx,b _ _ e W.gs⟩,⟨b _ _ W.grid.rows.at_ n2,W.grid.rows.len,W.grid.rows.nd,W.grid.rows.out,fun j c hc=>b _ _ (W.grid.rows.row j c hc) fun z=>n1 (z▸Zp hc)⟩,W.grid.ok⟩,hA.at_,W.seq.keep fun c o u e=>b _ _ e ?_,hA.len,hA.le⟩
 obtain⟨dy,e'⟩:=W.src
 exact We e e' (by intro z;cases z)
theorem Wd.rows(W:Wd K cG cS H g s a G R as l i){G':Vamato.Grid}(hG:Ys cG H' g G' R as)(b:Xi as H H'):Wd K cG cS H' g s a G' R as l i:=
 ⟨hG,let⟨dx,e⟩:=W.src;⟨dx,b _ _ e W.rs.1⟩,W.seq.keep (fun c o u e=>b _ _ e (fun z=>(by
  obtain⟨j,hj⟩:=Zx.mp z
  rw[W.grid.rows.row j c hj]at e;cases e))),W.len,W.le⟩
theorem Wd.moved(W:Wd K cG cS H g s a G R as l i){G':Vamato.Grid}{R':Addr}{as':List Addr}(hG:Ys cG H' g G' R' as')(m:Moved g R as R' as' H H'):Wd K cG cS H' g s a G' R' as' l i:=
 ⟨hG,let⟨dx,e⟩:=W.src;⟨dx,m.keep _ _ e (Yq W.gs) W.rs.2.2 W.rs.1⟩,W.seq.keep (fun c o u e=>m.keep _ _ e
  (fun z=>by obtain⟨dx,h⟩:=W.grid.at_;rw[z,h]at e;cases e) (fun z=>by rw[z,W.grid.rows.at_]at e;cases e) (fun z=>by
   obtain⟨j,hj⟩:=Zx.mp z
   rw[W.grid.rows.row j c hj]at e;cases e)),W.len,W.le⟩
theorem WZ(W:Wd K cG cS H g s a G R as l i){σ:L2.St}{k:Nat}{N:VK}{n:Int}(hk:σ[k]?=some (some (.ref s)))(hn:l[i]?=some n)(h:∀H1,Wd K cG cS H1 g s a G R as l (i+1)->Fm g s R as R as H H1->N (.int n) H1):
  Pr cS "take_number" (WO K cS) [] E0 (tVar k) tNil σ H N:=by
 obtain⟨dx,e⟩:=W.src
 exact⟨_,hk,s,dx,_,rfl,e,RQ a i,s,a,l,i,n,rfl,W.atS,hn,fun H1 hA b=>h H1 (W.took hA b) (Fm.src b)⟩
theorem Lq(W:Wd K cG cS H g s a G R as l i){σ:L2.St}{k:Nat}{N:VK}{m:Int}(hk:σ[k]?=some (some (.ref s)))(hn:l[i]?=some m)(h0:0<=m)(hm:i+1+m.toNat<=l.length)
  (h:∀H1 q,Wd K cG cS H1 g s a G R as l (i+1+m.toNat)->Fm g s R as R as H H1->H q=none->LI H1 q ((l.drop (i+1)).take m.toNat)->N (.ref q) H1):
  Pr cS "take_row" (Qk K cS) [] E0 (tVar k) tNil σ H N:=by
 obtain⟨dx,e⟩:=W.src
 exact⟨_,hk,s,dx,_,rfl,e,RQ a i,s,a,l,i,m,rfl,W.atS,hn,h0,hm,fun H1 q hA b hq hL=>h H1 q (W.took hA b) (Fm.src b) hq hL⟩
end
noncomputable def Sf(g s R:Addr)(as:List Addr)(H:Hp)(q:Addr):Prop:=∀b o,H b=some o->b≠g->b≠s->b≠R->b∉as->b≠q
theorem Fm.sf{g s R R' q:Addr}{as as':List Addr}{H H':Hp}(f:Fm g s R as R' as' H H')(hq:H' q=none):Sf g s R as H q:=fun b o e n1 n2 n3 n4 z=>by
 have:=(f b o e n1 n2 n3 n4).1
 rw[z,hq]at this;cases this
structure Given(p:Int)(l:List Int)(i:Nat)(c:List (List Int))(t:List Int):Prop where
 ex:∃n k xs,PyVamato.shape p=some (n,k)/\n<=(l.drop i).length/\PyFlat.rows k ((l.drop i).drop n)=some (xs,t)/\c=(p::(l.drop i).take n)::xs
 ask:VamatoNeutral.asked1 c=true
noncomputable def Yi(K:PySem.W.Frag)(cG cS:Addr)(p:Int):Sp:=fun vs H Q _=>∃(g s a:Addr)(G:Vamato.Grid)(R:Addr)(as:List Addr)(l:List Int)(i:Nat)(c:List (List Int))(t:List Int),vs=[.ref g,.ref s]/\Wd K cG cS H g s a G R as l i/\Given p l i c t/\
 ∀(H':Hp)(q R':Addr)(as':List Addr)(i':Nat),Wd K cG cS H' g s a (VamatoNeutral.step G c).1 R' as' l i'->l.drop i'=t->Fm g s R as R' as' H H'->Sf g s R as H q->LI H' q (VamatoNeutral.step G c).2->Q (.ref q) H'
theorem drop_cons{l r:List Int}{i:Nat}{x:Int}(h:l.drop i=x::r):l[i]?=some x/\l.drop (i+1)=r:=by
 have h1:(l.drop i)[0]?=some x:=by rw[h];rfl
 rw[XJ]at h1
 refine⟨by simpa using h1,?_⟩
 have h2:(l.drop i).drop 1=r:=by rw[h];rfl
 rw[List.drop_drop]at h2
 exact h2
theorem U1{p:Int}{l:List Int}{i:Nat}{c:List (List Int)}{t:List Int}(h:Given p l i c t)(hs:PyVamato.shape p=some (0,0)):c=[[p]]/\t=l.drop i:=by
 obtain⟨n,k,xs,e,h1,h2,rfl⟩:=h.ex
 rw[hs]at e
 cases e
 obtain⟨rfl,rfl⟩:=Uk h2
 exact⟨by simp,by simp⟩
theorem Nj{p:Int}{l:List Int}{i:Nat}{c:List (List Int)}{t:List Int}(h:Given p l i c t)(hs:PyVamato.shape p=some (1,0)):∃x,l[i]?=some x/\c=[[p,x]]/\t=l.drop (i+1):=by
 obtain⟨n,k,xs,e,h1,h2,rfl⟩:=h.ex
 rw[hs]at e
 cases e
 obtain⟨rfl,rfl⟩:=Uk h2
 match e:l.drop i,h1 with
 |x::r,_=>
  obtain⟨h3,h4⟩:=drop_cons e
  exact⟨x,h3,rfl,h4.symm⟩
theorem given2{p:Int}{l:List Int}{i:Nat}{c:List (List Int)}{t:List Int}(h:Given p l i c t)(hs:PyVamato.shape p=some (2,0)):∃x y,l[i]?=some x/\l[i+1]?=some y/\c=[[p,x,y]]/\t=l.drop (i+2):=by
 obtain⟨n,k,xs,e,h1,h2,rfl⟩:=h.ex
 rw[hs]at e
 cases e
 obtain⟨rfl,rfl⟩:=Uk h2
 match e:l.drop i,h1 with
 |x::y::r,_=>
  obtain⟨h3,h4⟩:=drop_cons e
  obtain⟨h5,h6⟩:=drop_cons h4
  exact⟨x,y,h3,h5,rfl,h6.symm⟩
theorem given3{p:Int}{l:List Int}{i:Nat}{c:List (List Int)}{t:List Int}(h:Given p l i c t)(hs:PyVamato.shape p=some (3,0)):∃x y z,l[i]?=some x/\l[i+1]?=some y/\l[i+2]?=some z/\c=[[p,x,y,z]]/\t=l.drop (i+3):=by
 obtain⟨n,k,xs,e,h1,h2,rfl⟩:=h.ex
 rw[hs]at e
 cases e
 obtain⟨rfl,rfl⟩:=Uk h2
 match e:l.drop i,h1 with
 |x::y::z::r,_=>
  obtain⟨h3,h4⟩:=drop_cons e
  obtain⟨h5,h6⟩:=drop_cons h4
  obtain⟨h7,h8⟩:=drop_cons h6
  exact⟨x,y,z,h3,h5,h7,rfl,h8.symm⟩
theorem given5{p:Int}{l:List Int}{i:Nat}{c:List (List Int)}{t:List Int}(h:Given p l i c t)(hs:PyVamato.shape p=some (5,0)):∃x y z u v,l[i]?=some x/\l[i+1]?=some y/\l[i+2]?=some z/\l[i+3]?=some u/\l[i+4]?=some v/\c=[[p,x,y,z,u,v]]/\t=l.drop (i+5):=by
 obtain⟨n,k,xs,e,h1,h2,rfl⟩:=h.ex
 rw[hs]at e
 cases e
 obtain⟨rfl,rfl⟩:=Uk h2
 match e:l.drop i,h1 with
 |x::y::z::u::v::r,_=>
  obtain⟨h3,h4⟩:=drop_cons e
  obtain⟨h5,h6⟩:=drop_cons h4
  obtain⟨h7,h8⟩:=drop_cons h6
  obtain⟨h9,ha⟩:=drop_cons h8
  obtain⟨hb,hc⟩:=drop_cons ha
  exact⟨x,y,z,u,v,h3,h5,h7,h9,hb,rfl,hc.symm⟩
theorem La{p:Int}{l:List Int}{i:Nat}{c:List (List Int)}{t:List Int}(h:Given p l i c t)(hs:PyVamato.shape p=some (0,1)):∃m,l[i]?=some m/\0<=m/\i+1+m.toNat<=l.length/\c=[[p],(l.drop (i+1)).take m.toNat]/\t=l.drop (i+1+m.toNat):=by
 obtain⟨n,k,xs,e,h1,h2,rfl⟩:=h.ex
 rw[hs]at e
 cases e
 obtain⟨m,r,e,hm,hl,rfl,rfl⟩:=NI h2
 rw[List.drop_zero]at e
 obtain⟨h3,h4⟩:=drop_cons e
 have hi:i<l.length:=(Zd.mp h3).1
 have hlen:r.length=l.length-(i+1):=by rw[<-h4,Z5]
 refine⟨m,h3,hm,by omega,by rw[h4,List.take_zero],?_⟩
 rw[<-h4,List.drop_drop]
end
end Cp
end
section
namespace Cp
open PySem PySem.Spec PyProof.Rows L2 Ma
section
variable{P:Program}{w:World}{K:PySem.W.Frag}{mg:Str->Option Value}{base:Heap}{cGrid cSrc cBox aSIGN aRULE:Addr}
structure TxtM(mg:Str->Option Value):Prop where
 n_abs:mg "abs"=none
 n_sum:mg "sum"=none
 g_CLEAR:GV mg "CLEAR" (.int 0)
 g_PAINTED:GV mg "PAINTED" (.int 1)
 g_OUT_OF_RANGE:GV mg "OUT_OF_RANGE" (.int (-1))
 g_NOT_ON_GRID:GV mg "NOT_ON_GRID" (.int (-2))
 g_NO_PIECE:GV mg "NO_PIECE" (.int (-3))
 n_len:mg "len"=none
 n_enumerate:mg "enumerate"=none
 n_set:mg "set"=none
 g_NO_SUCH_TEXT:GV mg "NO_SUCH_TEXT" (.int (-5))
 g_LONGEST_SIDE:GV mg "LONGEST_SIDE" (.int 40)
 g_GREATEST_CELL_SIZE:GV mg "GREATEST_CELL_SIZE" (.int 100000)
 g_FARTHEST_ORIGIN:GV mg "FARTHEST_ORIGIN" (.int 1000000000)
 g_GREATEST_DISTANCE:GV mg "GREATEST_DISTANCE" (.int 100)
theorem Xa(x:V):[x].length<=sizeLine:=(by show 1<=sizeLine;decide)
theorem Wd.fin{cG cS g s a R:Addr}{G:Vamato.Grid}{as:List Addr}{l:List Int}{i:Nat}{H:Hp}(W:Wd K cG cS H g s a G R as l i){q:Addr}{o:HO}(hq:H q=none):Wd K cG cS (L2.upd H q o) g s a G R as l i:=W.same (Same.new hq)
theorem Fm.fin{g s R R':Addr}{as as':List Addr}{H H':Hp}(f:Fm g s R as R' as' H H'){q:Addr}{o:HO}(hq:H' q=none):Fm g s R as R' as' H (L2.upd H' q o):=f.trans (Fm.same (Same.new hq))
noncomputable abbrev Uj:Stmt:=top 70
theorem Ke:ZP ["grid","source"] ["grid","source"] (Zh Uj):=⟨rfl,rfl,rfl,by decide +kernel,rfl,by decide +kernel,by decide +kernel⟩
theorem MT{f:Addr}{fd:FuncData}(F:Fun K "invert" "invert" Uj f fd)(M_Grid_invert:Y5 P w K mg base cGrid "invert" 2 ["self"] (Qn cGrid)):FnOk P w K mg base CX0 8 f fd ["grid","source"] (Yi K cGrid cSrc 4):=by
 refine F.ok Ke (fun vs H Q E h=>?_) (fun cdv A outer s0 H vs Q E hr h=>?_)
 ·obtain⟨g,s,a,G,R,as,l,i,c,t,rfl,_⟩:=h
  rfl
 ·obtain⟨g,s,a,G,R,as,l,i,c,t,rfl,W,hgv,k⟩:=h
  obtain⟨rfl,rfl⟩:=U1 hgv rfl
  obtain⟨dx,hg⟩:=W.grid.at_
  refine⟨_,(Zk (Xx (Yu (pv 0) M_Grid_invert hr))
   (Zr (ZN (Yp (Zb ZE Zn))))),?_⟩
  refine⟨_,rfl,g,dx,_,rfl,hg,Wl G R,g,G,R,as,rfl,W.grid,fun H1 R1 as1 hG1 m=>⟨Xa _,fun q hq=>?_⟩⟩
  have W1:=W.moved hG1 m
  have f1:Fm g s R as R1 as1 H H1:=Fm.moved m
  exact k _ q R1 as1 i (W1.fin hq) rfl (f1.fin hq) (f1.sf hq) Zf
noncomputable abbrev sAt:Stmt:=top 76
theorem scAt:ZP ["grid","source","i","j"] ["grid","source"] (Zh sAt):=⟨rfl,rfl,rfl,by decide +kernel,rfl,by decide +kernel,by decide +kernel⟩
theorem ok_at{f:Addr}{fd:FuncData}(F:Fun K "at" "at" sAt f fd)(TC:TxtC K mg cGrid)(T:TxtM mg)(M_Source_take_number:Y5 P w K mg base cSrc "take_number" 1 ["self"] (WO K cSrc))(M_Grid_has_cell:Y5 P w K mg base cGrid "has_cell" 2 ["self","i","j"] (Pw cGrid)):
  FnOk P w K mg base CX0 8 f fd ["grid","source"] (Yi K cGrid cSrc 9):=by
 refine F.ok scAt (fun vs H Q E h=>?_) (fun cdv A outer s0 H vs Q E hr h=>?_)
 ·obtain⟨g,s,a,G,R,as,l,i,c,t,rfl,_⟩:=h
  rfl
 ·obtain⟨g,s,a,G,R,as,l,i,c,t,rfl,W,hgv,k⟩:=h
  obtain⟨x,y,hx,hy,rfl,rfl⟩:=given2 hgv rfl
  have nd:=scAt.nd
  refine⟨_,(Zk (ZZ (i:=2) nd rfl (Or.inl rfl) (Yu (pv 1) M_Source_take_number hr))
   (Zk (ZZ (i:=3) nd rfl (Or.inl rfl) (Yu (pv 1) M_Source_take_number hr))
   (Zk (Xm (Vh (Wj (YW (pv 0) M_Grid_has_cell hr (Zb (pv 2) (Zb (pv 3) Zn))))) (Zr (ZN (Yp (Zb (pe_g rfl T.g_NOT_ON_GRID) Zn)))) Yy)
   (Zr (ZN (Yp (Zb ZE (Zb (Xt YQ (Xt YQ (YT (pv 0) rfl) (pv 3) (fun _ _=>rfl)) (pv 2) (fun _ _=>rfl)) Zn)))))))),?_⟩
  refine WZ W (k:=1) rfl hx fun H1 W1 f1=>WZ W1 (k:=1) rfl hy fun H2 W2 f2=>?_
  have f2:=f1.trans f2
  obtain⟨dx,hg⟩:=W2.grid.at_
  refine⟨_,rfl,g,dx,_,rfl,hg,Wl G R,_,rfl,_,rfl,g,G,R,as,x,y,rfl,W2.grid,_,rfl,ite2 (fun e=>?_) (fun e=>?_)⟩
  ·have e':=UB e
   refine⟨Xa _,fun q hq=>k _ q R as (i+2) (W2.fin hq) rfl (f2.fin hq) (f2.sf hq) ?_⟩
   show L2.upd _ q _ q=some (.lst (ZQ (if Vamato.isCell G x y=false then[-2]else _)))
   rw[if_pos e',Zf]
   rfl
  ·have e':=UC e
   obtain⟨m,n,rfl,rfl,hm,hn⟩:=isCell_iff.mp e'
   obtain⟨rw',hrw⟩:∃r,as[n]?=some r:=⟨_,Zu (by rw[W.grid.rows.len];exact hn)⟩
   refine⟨_,rfl,g,cGrid,dx,_,_,rfl,hg,TC.cl,TC.a_rows,Wr G R,_,rfl,R,_,_,_,rfl,rfl,SqL.of W2.grid.rows.at_,Xu (j:=n) (v:=.ref rw') rfl (by rw[ZA,hrw];rfl),_,rfl,rw',_,_,_,rfl,rfl,SqL.of (W2.grid.rows.row n rw' hrw),
    Xu (j:=m) (v:=.int (b2i (G.painted m n))) rfl (by rw[ZA,X6 hm];rfl),Ww _ _,fun q hq=>k _ q R as (i+2) (W2.fin hq) rfl (f2.fin hq) (f2.sf hq) ?_⟩
   show L2.upd _ q _ q=some (.lst (ZQ (if Vamato.isCell G (m:Int) (n:Int)=false then[-2]else[0,if G.painted (m:Int).toNat (n:Int).toNat=true then 1 else 0])))
   rw[if_neg (by rw[e'];simp),Zf]
   rfl
noncomputable abbrev PP:Stmt:=top 69
theorem scSetC:ZP ["grid","source","i","j","way"] ["grid","source"] (Zh PP):=⟨rfl,rfl,rfl,by decide +kernel,rfl,by decide +kernel,by decide +kernel⟩
theorem ok_setC{f:Addr}{fd:FuncData}(F:Fun K "set_cell" "set_cell" PP f fd)(TC:TxtC K mg cGrid)(T:TxtM mg)(M_Source_take_number:Y5 P w K mg base cSrc "take_number" 1 ["self"] (WO K cSrc))(M_Grid_has_cell:Y5 P w K mg base cGrid "has_cell" 2 ["self","i","j"] (Pw cGrid))
  (M_Grid_turn:Y5 P w K mg base cGrid "turn" 1 ["self","i","j","way"] (Qg cGrid)):FnOk P w K mg base CX0 8 f fd ["grid","source"] (Yi K cGrid cSrc 3):=by
 refine F.ok scSetC (fun vs H Q E h=>?_) (fun cdv A outer s0 H vs Q E hr h=>?_)
 ·obtain⟨g,s,a,G,R,as,l,i,c,t,rfl,_⟩:=h
  rfl
 ·obtain⟨g,s,a,G,R,as,l,i,c,t,rfl,W,hgv,k⟩:=h
  obtain⟨x,y,z,hx,hy,hz,rfl,rfl⟩:=given3 hgv rfl
  have nd:=scSetC.nd
  refine⟨_,(Zk (ZZ (i:=2) nd rfl (Or.inl rfl) (Yu (pv 1) M_Source_take_number hr))
   (Zk (ZZ (i:=3) nd rfl (Or.inl rfl) (Yu (pv 1) M_Source_take_number hr))
   (Zk (ZZ (i:=4) nd rfl (Or.inl rfl) (Yu (pv 1) M_Source_take_number hr))
   (Zk (Xm (Vh (Wj (YW (pv 0) M_Grid_has_cell hr (Zb (pv 2) (Zb (pv 3) Zn))))) (Zr (ZN (Yp (Zb (pe_g rfl T.g_NOT_ON_GRID) Zn)))) Yy)
   (Zk (Xm (Yx O8 (pv 4) (Ue (Zb (pe_g rfl T.g_CLEAR) (Zb (pe_g rfl T.g_PAINTED) Zn))) (by with_unfolding_all rfl)) (Zr (ZN (Yp (Zb (pe_g rfl T.g_OUT_OF_RANGE) Zn)))) Yy)
   (Zk (Xx (YW (pv 0) M_Grid_turn hr (Zb (pv 2) (Zb (pv 3) (Zb (pv 4) Zn)))))
   (Zr (ZN (Yp (Zb ZE Zn)))))))))),?_⟩
  refine WZ W (k:=1) rfl hx fun H1 W1 f1=>WZ W1 (k:=1) rfl hy fun H2 W2 f2=>WZ W2 (k:=1) rfl hz fun H3 W3 f3=>?_
  have f3:=(f1.trans f2).trans f3
  obtain⟨dx,hg⟩:=W3.grid.at_
  have est:VamatoNeutral.step G [[3,x,y,z]]=if Vamato.isCell G x y=false then(G,[-2])else if Vamato.within 0 1 z=false then(G,[-1])else(G.with fun a b=>if decide (Vamato.nat a=x)&&decide (Vamato.nat b=y)then decide (z=1)else G.painted a b,[0]):=rfl
  rw[est]at k
  refine⟨_,rfl,g,dx,_,rfl,hg,Wl G R,_,rfl,_,rfl,g,G,R,as,x,y,rfl,W3.grid,_,rfl,ite2 (fun e=>?_) (fun e=>?_)⟩
  ·have e':=UB e
   rw[if_pos e']at k
   exact⟨Xa _,fun q hq=>k _ q R as (i+3) (W3.fin hq) rfl (f3.fin hq) (f3.sf hq) Zf⟩
  ·have e':=UC e
   rw[if_neg (by rw[e'];simp)]at k
   obtain⟨m,n,rfl,rfl,hm,hn⟩:=isCell_iff.mp e'
   refine⟨_,rfl,Ww _ _,fun t ht=>⟨t,[.int 0,.int 1],rfl,.inr (SqT.of Zf),rfl,rfl,_,rfl,?_⟩⟩
   have W4:=W3.fin (o:=.tup [.int 0,.int 1]) ht
   have f4:=f3.fin (o:=.tup [.int 0,.int 1]) ht
   revert W4 f4
   generalize L2.upd H3 t (.tup [.int 0,.int 1])=H4
   intro W4 f4
   have ein:(if true=true then !inV (.int z) [.int 0,.int 1]else inV (.int z) [.int 0,.int 1])=!(decide (z=0)||decide (z=1)):=by
    rw[if_pos rfl]
    congr 1
    unfold inV eqV
    simp only[Yt,List.any_nil,Bool.or_false]
    have e1:((0:Int)==z)=decide (z=0):=by rw[Yd];simp;exact eq_comm
    have e2:((1:Int)==z)=decide (z=1):=by rw[Yd];simp;exact eq_comm
    rw[e1,e2]
   refine ite2 (fun e2=>?_) (fun e2=>?_)
   ·rw[ein]at e2
    have hw:Vamato.within 0 1 z=false:=by
     have:=UB e2
     rw[YY,decide_eq_false_iff_not,decide_eq_false_iff_not]at this
     unfold Vamato.within
     rw[Vz,decide_eq_false_iff_not,decide_eq_false_iff_not]
     omega
    rw[if_pos hw]at k
    exact⟨Xa _,fun q hq=>k _ q R as (i+3) (W4.fin hq) rfl (f4.fin hq) (f4.sf hq) Zf⟩
   ·rw[ein]at e2
    have h01:z=0\/z=1:=by
     have:=UC e2
     simpa using this
    have hw:¬Vamato.within 0 1 z=false:=by
     unfold Vamato.within
     rw[Vz,decide_eq_false_iff_not,decide_eq_false_iff_not]
     omega
    rw[if_neg hw]at k
    obtain⟨v,hv,hv1⟩:∃v,z=b2i v/\decide (z=1)=v:=by
     rcases h01 with rfl|rfl
     ·exact⟨false,rfl,rfl⟩
     ·exact⟨true,rfl,rfl⟩
    obtain⟨dx4,hg4⟩:=W4.grid.at_
    have eg:(G.with fun a b=>if decide (Vamato.nat a=(m:Int))&&decide (Vamato.nat b=(n:Int))then decide (z=1)else G.painted a b)=setG G m n v:=by
     unfold setG
     refine Tr fun a b _ _=>?_
     unfold updP Vamato.nat
     by_cases q:a=m/\b=n
     ·rw[if_pos q,if_pos (by rw[Zv,decide_eq_true_eq,decide_eq_true_eq];omega),hv1]
     ·rw[if_neg q,if_neg (by rw[Zv,decide_eq_true_eq,decide_eq_true_eq];omega)]
    rw[eg]at k
    refine⟨_,rfl,g,dx4,_,rfl,hg4,Wl G R,_,rfl,_,rfl,_,rfl,g,G,R,as,m,n,v,(by rw[hv];rfl),W4.grid,hm,hn,fun H5 hG5 hb5=>⟨Xa _,fun q hq=>?_⟩⟩
    have W5:=W4.rows hG5 hb5
    have f5:=f4.trans (Fm.rows hb5)
    exact k _ q R as (i+3) (W5.fin hq) rfl (f5.fin hq) (f5.sf hq) Zf
end
end Cp
end
section
namespace Cp
open PySem PySem.Spec PyProof.Rows L2 Ma
section
variable{P:Program}{w:World}{K:PySem.W.Frag}{mg:Str->Option Value}{base:Heap}{cGrid cSrc cBox aSIGN aRULE:Addr}
noncomputable abbrev sSpC:Stmt:=top 73
theorem scSpC:ZP ["grid","n","way"] ["grid","n","way"] (Zh sSpC):=⟨rfl,rfl,rfl,by decide +kernel,rfl,by decide +kernel,by decide +kernel⟩
noncomputable def Rk(G:Vamato.Grid)(v:Bool)(n:Int):Vamato.Grid×List Int:=Vamato.steps G n fun k=>if v=true then Vamato.grown k G else Vamato.shrunk k G
noncomputable def Lw(K:PySem.W.Frag)(cG cS:Addr):Sp:=fun vs H Q _=>∃(g s a:Addr)(G:Vamato.Grid)(R:Addr)(as:List Addr)(l:List Int)(i:Nat)(n:Int)(v:Bool),vs=[.ref g,.int n,.int (b2i v)]/\Wd K cG cS H g s a G R as l i/\
 ∀(H':Hp)(q:Addr),Wd K cG cS H' g s a (Rk G v n).1 R as l i->Fm g s R as R as H H'->Sf g s R as H q->LI H' q (Rk G v n).2->Q (.ref q) H'
theorem MW{G:Vamato.Grid}{v:Bool}{n:Nat}{q:Nat->Nat->Bool}(hT:Told G)(hq:∀i j,i<G.width->j<G.height->(q i j=v↔Near G.width G.height (fun a b=>G.painted a b==v) n (i,j))):
  G.with q=(if v=true then Vamato.grown n G else Vamato.shrunk n G):=by
 cases v with
 |true=>
  rw[if_pos rfl]
  have t2:Told (Vamato.grown n G):=VN G _
  refine Su rfl rfl rfl rfl rfl (VN G q) t2 fun i j hi hj=>SC ?_
  rw[Y3 (G:=G) hi hj,TJ n G hi hj,hq i j hi hj]
  exact T5 fun a b _ _=>by simp
 |false=>
  rw[if_neg (by simp)]
  have t2:Told (Vamato.shrunk n G):=VN _ _
  refine Su rfl rfl rfl rfl rfl (VN G q) t2 fun i j hi hj=>SC ?_
  rw[Y3 (G:=G) hi hj,Qp n G hi hj]
  have h:=hq i j hi hj
  have e:Near G.width G.height (fun a b=>G.painted a b==false) n (i,j)↔Near G.width G.height (fun a b=>!G.painted a b) n (i,j):=T5 fun a b _ _=>by cases G.painted a b<;>rfl
  rw[e]at h
  rw[<-h]
  cases q i j<;>simp
theorem Tv{G:Vamato.Grid}{v:Bool}{q:Nat->Nat->Bool}{c:Nat}(hsub:∀i j,i<G.width->j<G.height->G.painted i j=v->q i j=v)(hc:c+cnt G.width G.height (fun i j=>G.painted i j==v)=cnt G.width G.height (fun i j=>q i j==v)):
  Vamato.changedCells G (G.with q)=c:=by
 have hq:∀i j,i<G.width->j<G.height->(G.with q).painted i j=q i j:=fun i j hi hj=>Y3 hi hj
 cases v with
 |true=>
  have h:=Li (a:=G) (b:=G.with q) fun i j hi hj e=>by rw[hq i j hi hj];exact hsub i j hi hj e
  have e1:cnt G.width G.height (fun i j=>G.painted i j==true)=cnt G.width G.height G.painted:=Ws fun i j _ _=>by simp
  have e2:cnt G.width G.height (fun i j=>q i j==true)=cnt G.width G.height (G.with q).painted:=Ws fun i j hi hj=>by rw[hq i j hi hj];simp
  omega
 |false=>
  have h:=No (a:=G) (b:=G.with q) fun i j hi hj e=>by
   rw[hq i j hi hj]at e
   cases z:G.painted i j with
   |true=>rfl
   |false=>rw[hsub i j hi hj z]at e;cases e
  have e1:cnt G.width G.height (fun i j=>G.painted i j==false)+cnt G.width G.height G.painted=G.width*G.height:=by
   rw[Vl,<-LY G.width G.height G.painted]
   congr 1
   exact Ws fun i j _ _=>by cases G.painted i j<;>rfl
  have e2:cnt G.width G.height (fun i j=>q i j==false)+cnt G.width G.height (G.with q).painted=G.width*G.height:=by
   rw[Vl,<-LY G.width G.height (G.with q).painted]
   congr 1
   exact Ws fun i j hi hj=>by rw[hq i j hi hj];cases q i j<;>rfl
  omega
theorem ok_spC{f:Addr}{fd:FuncData}(F:Fun K "spread_cells" "spread_cells" sSpC f fd)(T:TxtM mg)(M_Grid_spread:Y5 P w K mg base cGrid "spread" 5 ["self","way","n"] (Qi cGrid)):FnOk P w K mg base CX0 7 f fd ["grid","n","way"] (Lw K cGrid cSrc):=by
 refine F.ok scSpC (fun vs H Q E h=>?_) (fun cdv A outer s0 H vs Q E hr h=>?_)
 ·obtain⟨g,s,a,G,R,as,l,i,n,v,rfl,_⟩:=h
  rfl
 ·obtain⟨g,s,a,G,R,as,l,i,n,v,rfl,W,k⟩:=h
  have nd:=scSpC.nd
  obtain⟨dx,hg⟩:=W.grid.at_
  have f0:Fm g s R as R as H H:=Fm.same (Same.refl H)
  have due:Rk G v n=if Vamato.within 0 100 n=true then Vamato.become G (if v=true then Vamato.grown n.toNat G else Vamato.shrunk n.toNat G)else(G,[-1]):=rfl
  have no:Vamato.within 0 100 n=false->∀q,H q=none->Q (.ref q) (L2.upd H q (.lst [.int (-1)])):=fun e q hq=>by
   rw[due,e,if_neg (by simp)]at k
   exact k _ q (W.fin hq) (f0.fin hq) (f0.sf hq) Zf
  refine⟨_,(Zk (Xm (Vh (US X7 X7 ZE (pv 1) (pe_g rfl T.g_GREATEST_DISTANCE))) (Zr (ZN (Yp (Zb (pe_g rfl T.g_OUT_OF_RANGE) Zn)))) Yy)
   (Zr (ZN (Yp (Zb ZE (Zb (YW (pv 0) M_Grid_spread hr (Zb (pv 2) (Zb (pv 1) Zn))) Zn)))))),?_⟩
  refine⟨_,rfl,_,_,rfl,rfl,_,rfl,ite2 (fun e1=>?_) (fun e1=>?_)⟩
  ·have e1':0<=n:=of_decide_eq_true e1
   refine⟨_,_,rfl,rfl,_,rfl,ite2 (fun e2=>?_) (fun e2=>?_)⟩
   ·have e2':¬n<=100:=by simp at e2;omega
    refine⟨Xa _,fun q hq=>no ?_ q hq⟩
    unfold Vamato.within
    simp[e2']
   ·have e2':n<=100:=by simp at e2;omega
    have hw:Vamato.within 0 100 n=true:=by unfold Vamato.within;simp[e1',e2']
    rw[due,hw,if_pos rfl]at k
    obtain⟨m,rfl⟩:∃m:Nat,n=(m:Int):=⟨n.toNat,by omega⟩
    refine⟨_,rfl,g,dx,_,rfl,hg,Wl G R,_,rfl,_,rfl,g,G,R,as,v,m,rfl,W.grid,by omega,fun H1 q1 c hG1 hN hc hb=>⟨Ww _ _,fun q hq=>?_⟩⟩
    have eG:=MW W.grid.ok.told hN
    rw[show((m:Int)).toNat=m from rfl,<-eG]at k
    have hch:=Tv (v:=v) (fun i j hi hj e=>(hN i j hi hj).mpr (Kx (ZG _) ((Oo ⟨hi,hj⟩).mpr (by simp[e])))) hc
    have W1:=W.rows hG1 hb
    have f1:Fm g s R as R as H H1:=Fm.rows hb
    refine k _ q (W1.fin hq) (f1.fin hq) (f1.sf hq) ?_
    show L2.upd _ q _ q=some (.lst (ZQ [0,((Vamato.changedCells G (G.with q1):Nat):Int)]))
    rw[Zf,hch]
    rfl
  ·refine⟨_,rfl,iteT ⟨Xa _,fun q hq=>no ?_ q hq⟩⟩
   have e1':¬0<=n:=by simp at e1;omega
   unfold Vamato.within
   simp[e1']
noncomputable abbrev P4:Stmt:=top 71
theorem scGrow:ZP ["grid","source"] ["grid","source"] (Zh P4):=⟨rfl,rfl,rfl,by decide +kernel,rfl,by decide +kernel,by decide +kernel⟩
theorem ok_grow{f:Addr}{fd:FuncData}(F:Fun K "grow" "grow" P4 f fd)(T:TxtM mg)(M_Source_take_number:Y5 P w K mg base cSrc "take_number" 1 ["self"] (WO K cSrc))(C_spread_cells:Callee P w K mg base "spread_cells" 7 ["grid","n","way"] (Lw K cGrid cSrc)):
  FnOk P w K mg base CX0 8 f fd ["grid","source"] (Yi K cGrid cSrc 5):=by
 refine F.ok scGrow (fun vs H Q E h=>?_) (fun cdv A outer s0 H vs Q E hr h=>?_)
 ·obtain⟨g,s,a,G,R,as,l,i,c,t,rfl,_⟩:=h
  rfl
 ·obtain⟨g,s,a,G,R,as,l,i,c,t,rfl,W,hgv,k⟩:=h
  obtain⟨x,hx,rfl,rfl⟩:=Nj hgv rfl
  have nd:=scGrow.nd
  refine⟨_,(Zr (ZN (ZU C_spread_cells hr rfl (Zb (pv 0) (Zb (Yu (pv 1) M_Source_take_number hr) (Zb (pe_g rfl T.g_PAINTED) Zn)))))),?_⟩
  refine⟨_,rfl,WZ W (k:=1) rfl hx fun H1 W1 f1=>⟨g,s,a,G,R,as,l,i+1,x,true,rfl,W1,fun H2 q W2 f2 sq hL=>?_⟩⟩
  refine k H2 q R as (i+1) W2 rfl (f1.trans f2) (fun b o e n1 n2 n3 n4=>sq b o (f1 b o e n1 n2 n3 n4).1 n1 n2 n3 n4) hL
noncomputable abbrev Tg:Stmt:=top 72
theorem scShrink:ZP ["grid","source"] ["grid","source"] (Zh Tg):=⟨rfl,rfl,rfl,by decide +kernel,rfl,by decide +kernel,by decide +kernel⟩
theorem Ko{f:Addr}{fd:FuncData}(F:Fun K "shrink" "shrink" Tg f fd)(T:TxtM mg)(M_Source_take_number:Y5 P w K mg base cSrc "take_number" 1 ["self"] (WO K cSrc))(C_spread_cells:Callee P w K mg base "spread_cells" 7 ["grid","n","way"] (Lw K cGrid cSrc)):
  FnOk P w K mg base CX0 8 f fd ["grid","source"] (Yi K cGrid cSrc 6):=by
 refine F.ok scShrink (fun vs H Q E h=>?_) (fun cdv A outer s0 H vs Q E hr h=>?_)
 ·obtain⟨g,s,a,G,R,as,l,i,c,t,rfl,_⟩:=h
  rfl
 ·obtain⟨g,s,a,G,R,as,l,i,c,t,rfl,W,hgv,k⟩:=h
  obtain⟨x,hx,rfl,rfl⟩:=Nj hgv rfl
  have nd:=scShrink.nd
  refine⟨_,(Zr (ZN (ZU C_spread_cells hr rfl (Zb (pv 0) (Zb (Yu (pv 1) M_Source_take_number hr) (Zb (pe_g rfl T.g_CLEAR) Zn)))))),?_⟩
  refine⟨_,rfl,WZ W (k:=1) rfl hx fun H1 W1 f1=>⟨g,s,a,G,R,as,l,i+1,x,false,rfl,W1,fun H2 q W2 f2 sq hL=>?_⟩⟩
  refine k H2 q R as (i+1) W2 rfl (f1.trans f2) (fun b o e n1 n2 n3 n4=>sq b o (f1 b o e n1 n2 n3 n4).1 n1 n2 n3 n4) hL
end
end Cp
end
section
namespace Cp
open PySem PySem.Spec PyProof.Rows L2 Ma
section
variable{P:Program}{w:World}{K:PySem.W.Frag}{mg:Str->Option Value}{base:Heap}{cGrid cSrc cBox aSIGN aRULE:Addr}
theorem Po{n m:Nat}{p:Nat->Nat->Bool}(hn:n<=40)(hm:m<=40):(Nz n m p).length<=1700:=by
 have h:∀(ls:List (List Int)),(∀r∈ls,r.length=n)->(List.intercalate [10] ls).length<=ls.length*(n+1):=by
  intro ls
  induction ls with
  |nil=>intro _;simp[List.intercalate]
  |cons a r ih=>
   intro h
   have ha:=h a Zm
   cases r with
   |nil=>rw[Tq,ha];simp
   |cons b r=>
    have:=ih fun x hx=>h x (Ze _ hx)
    have e:(a::b::r).length*(n+1)=(b::r).length*(n+1)+(n+1):=by rw[Zo,Nat.add_mul,Nat.one_mul]
    have e10:([10]:List Int).length=1:=rfl
    rw[WF,Zj,Zj,ha,e,e10]
    omega
 have h1:=h ((List.range m).reverse.map fun j=>rowI n fun i=>p i j) (by
  intro r hr
  obtain⟨j,_,rfl⟩:=ZS.mp hr
  simp[rowI])
 have h2:((List.range m).reverse.map fun j=>rowI n fun i=>p i j).length=m:=by simp
 rw[h2]at h1
 have h3:m*(n+1)<=40*41:=YE hm (by omega)
 unfold Nz
 omega
noncomputable abbrev SV:Stmt:=top 74
theorem scCText:ZP ["grid","source"] ["grid","source"] (Zh SV):=⟨rfl,rfl,rfl,by decide +kernel,rfl,by decide +kernel,by decide +kernel⟩
theorem ok_ctext{f:Addr}{fd:FuncData}(F:Fun K "text" "text" SV f fd)(TC:TxtC K mg cGrid)(C_text_of:Callee P w K mg base "text_of" 1 ["rows"] (My K)):FnOk P w K mg base CX0 8 f fd ["grid","source"] (Yi K cGrid cSrc 7):=by
 refine F.ok scCText (fun vs H Q E h=>?_) (fun cdv A outer s0 H vs Q E hr h=>?_)
 ·obtain⟨g,s,a,G,R,as,l,i,c,t,rfl,_⟩:=h
  rfl
 ·obtain⟨g,s,a,G,R,as,l,i,c,t,rfl,W,hgv,k⟩:=h
  obtain⟨rfl,rfl⟩:=U1 hgv rfl
  have nd:=scCText.nd
  refine⟨_,(Zr (ZN (Xf T4 (Yp (Zb ZE Zn)) (ZU C_text_of hr rfl (Zb (YT (pv 0) rfl) Zn))))),?_⟩
  refine⟨Xa _,fun z hz=>?_⟩
  have s1:Same H (L2.upd H z (.lst [.int 0])):=Same.new hz
  have hz1:(L2.upd H z (.lst [.int 0])) z=some (.lst [.int 0]):=Zf
  revert s1 hz1
  generalize L2.upd H z (.lst [.int 0])=H1
  intro s1 hz1
  have W1:=W.same s1
  obtain⟨dx,hg⟩:=W1.grid.at_
  refine⟨_,rfl,g,cGrid,dx,_,_,rfl,hg,TC.cl,TC.a_rows,Wr G R,R,as,G.width,G.height,G.painted,rfl,W1.grid.rows,W.grid.ok.w1,W.grid.ok.w2,W.grid.ok.h2,fun H2 tq s2 ht hL=>?_⟩
  have hlen:=Po (p:=G.painted) W.grid.ok.w2 W.grid.ok.h2
  refine⟨z,tq,_,_,rfl,rfl,s2 _ _ hz1,hL,?_,fun q hq=>?_⟩
  ·rw[Za]
   exact Zi (show 1+_<=2000 by omega) (by decide)
  have W2:=W1.same s2
  have f2:Fm g s R as R as H H2:=Fm.same (s1.trans s2)
  refine k _ q R as i (W2.fin hq) rfl (f2.fin hq) (f2.sf hq) ?_
  show L2.upd _ q _ q=some (.lst (ZQ (0::(Vamato.gridText G).map fun b=>(b.toNat:Int))))
  rw[Zf,TM]
  rfl
theorem RO{r:List Int}(h:(r.all fun(z:Int)=>VamatoNeutral.natural z 8)=true):(∀b∈r,Byte b)/\VamatoNeutral.text? r=some (tx r):=by
 have hb:∀b∈r,Byte b:=fun b hb=>by
  have:=Xd.mp h b hb
  unfold VamatoNeutral.natural at this
  rw[Zv,decide_eq_true_eq,decide_eq_true_eq]at this
  unfold Byte
  have e:(2:Int)^8=256:=by decide
  omega
 refine⟨hb,?_⟩
 unfold VamatoNeutral.text?
 rw[if_pos]
 ·rfl
 ·unfold NeutralIO.bytes
  rw[Xd]
  intro b hb'
  have:=hb b hb'
  unfold Byte at this
  rw[Zv,decide_eq_true_eq,decide_eq_true_eq]
  exact this
theorem S6{p:Int}{r:List Int}(h:VamatoNeutral.asked1 [[p],r]=true)(hp:p=1\/p=2\/p=8):(r.all fun(z:Int)=>VamatoNeutral.natural z 8)=true:=by
 rcases hp with rfl|rfl|rfl
 ·have h:((r.all fun(z:Int)=>VamatoNeutral.natural z 8)&&decide (r.length<=100000))=true:=h
  rw[Zv]at h;exact h.1
 ·have h:((r.all fun(z:Int)=>VamatoNeutral.natural z 8)&&decide (r.length<=100000))=true:=h
  rw[Zv]at h;exact h.1
 ·have h:((r.all fun(z:Int)=>VamatoNeutral.natural z 8)&&decide (r.length<=100000))=true:=h
  rw[Zv]at h;exact h.1
theorem Td{G:Vamato.Grid}{c:List (List Int)}{r:List Int}{f:Vamato.Text->Vamato.Call}(hc:VamatoNeutral.callOf c=(VamatoNeutral.text? r).map f)(ht:VamatoNeutral.text? r=some (tx r)):VamatoNeutral.step G c=Vamato.step G (f (tx r)):=by
 unfold VamatoNeutral.step
 rw[hc,ht]
 rfl
noncomputable abbrev SX:Stmt:=top 75
theorem scCRead:ZP ["grid","source","rows"] ["grid","source"] (Zh SX):=⟨rfl,rfl,rfl,by decide +kernel,rfl,by decide +kernel,by decide +kernel⟩
theorem ok_cread{f:Addr}{fd:FuncData}(F:Fun K "read" "read" SX f fd)(TC:TxtC K mg cGrid)(T:TxtM mg)(M_Source_take_row:Y5 P w K mg base cSrc "take_row" 2 ["self"] (Qk K cSrc))(C_rows_of:Callee P w K mg base "rows_of" 2 ["text","width","height"] (Qj K)):
  FnOk P w K mg base CX0 8 f fd ["grid","source"] (Yi K cGrid cSrc 8):=by
 refine F.ok scCRead (fun vs H Q E h=>?_) (fun cdv A outer s0 H vs Q E hr h=>?_)
 ·obtain⟨g,s,a,G,R,as,l,i,c,t,rfl,_⟩:=h
  rfl
 ·obtain⟨g,s,a,G,R,as,l,i,c,t,rfl,W,hgv,k⟩:=h
  obtain⟨m,hm,hm0,hml,rfl,rfl⟩:=La hgv rfl
  have hby:=RO (S6 hgv.ask (.inr (.inr rfl)))
  have hrl:((l.drop (i+1)).take m.toNat).length<=17000:=by
   rw[Yj,Z5]
   have:=W.len
   omega
  have est:=Td (G:=G) (c:=[[8],(l.drop (i+1)).take m.toNat]) (f:=Vamato.Call.read) rfl hby.2
  have est2:Vamato.step G (.read (tx ((l.drop (i+1)).take m.toNat)))=match Vamato.readGrid G (tx ((l.drop (i+1)).take m.toNat))with
   |none=>(G,[-5])
   |some h=>(h,[0]):=rfl
  rw[est,est2,NO hby.1]at k
  have nd:=scCRead.nd
  refine⟨_,(Zk (ZZ (i:=2) nd rfl (Or.inl rfl) (ZU C_rows_of hr rfl (Zb (Yu (pv 1) M_Source_take_row hr) (Zb (YT (pv 0) rfl) (Zb (YT (pv 0) rfl) Zn)))))
   (Zk (Xm (TY (Qx (pv 2))) (Zr (ZN (Yp (Zb (pe_g rfl T.g_NO_SUCH_TEXT) Zn)))) Yy)
   (Zk (WR (pv 0) (pv 2) rfl)
   (Zr (ZN (Yp (Zb ZE Zn))))))),?_⟩
  refine Lq W (k:=1) rfl hm hm0 hml fun H1 q W1 f1 hq hL=>?_
  revert hL hrl k
  generalize (l.drop (i+1)).take m.toNat=r
  intro k hrl hL
  obtain⟨dx,hg⟩:=W1.grid.at_
  refine⟨_,rfl,g,cGrid,dx,_,_,rfl,hg,TC.cl,TC.a_width,Sv G R,_,rfl,g,cGrid,dx,_,_,rfl,hg,TC.cl,TC.a_height,Ts G R,q,r,G.width,G.height,rfl,SqL.of hL,hrl,fun H2 v s2 hres=>?_⟩
  have W2:=W1.same s2
  have f2:=f1.trans (Fm.same s2)
  by_cases hok:VT G.width G.height (cutI 10 [] r)=true
  ·rw[if_pos hok]at hres k
   obtain⟨R',as',rfl,hR',has',hrows⟩:=hres
   refine⟨_,rfl,_,rfl,ite2 (fun z=>by simp at z) (fun _=>?_)⟩
   refine⟨_,rfl,_,rfl,g,cGrid,dx,_,rfl,s2 _ _ hg,TC.cl,TC.a_rows,Wx (n:=6) (Zl _),Xa _,fun z hz=>?_⟩
   rw[Oz]at hz⊢
   have ngR:R'≠g:=fun e=>by rw[e,hg]at hR';cases hR'
   have nga:∀b∈as',b≠g:=fun b hb e=>by rw[e]at hb;have:=has' g hb;rw[hg]at this;cases this
   have hG3:Ys cGrid (L2.upd H2 g (.ins cGrid dx (Vx G R'))) g (G.with (U7 (cutI 10 [] r))) R' as':=W2.grid.re ⟨dx,Zf⟩ ⟨by rw[Zt ngR];exact hrows.at_,hrows.len,hrows.nd,hrows.out,fun j b hb=>by rw[Zt (nga b (Zp hb))];exact hrows.row j b hb⟩
   have mv:Moved g R as R' as' H1 (L2.upd H2 g (.ins cGrid dx (Vx G R'))):=⟨fun b o e n1 _ _=>by rw[Zt n1];exact s2 _ _ e,.inr hR',fun b hb=>.inr (has' b hb)⟩
   have W3:=W1.moved hG3 mv
   have f3:=f1.trans (Fm.moved mv)
   exact k _ z R' as' _ (W3.fin hz) rfl (f3.fin hz) (f3.sf hz) Zf
  ·rw[if_neg hok]at hres k
   have hres:v=.non:=hres
   subst hres
   refine⟨_,rfl,_,rfl,ite2 (fun _=>⟨Xa _,fun z hz=>?_⟩) (fun z=>(z (decide_eq_true rfl)).elim)⟩
   exact k _ z R as _ (W2.fin hz) rfl (f2.fin hz) (f2.sf hz) Zf
end
end Cp
end
section
namespace Cp
open PySem PySem.Spec PyProof.Rows L2 Ma
section
variable{P:Program}{w:World}{K:PySem.W.Frag}{mg:Str->Option Value}{base:Heap}{cGrid cSrc cBox aSIGN aRULE:Addr}
theorem chainV{σ:L2.St}{H:Hp}{N:VK}{lo hi x:Int}{k:Nat}(hk:σ[k]?=some (some (.int x)))(h:N (.bl (decide (lo<=x)&&decide (x<=hi))) H):
  OP (rI0 fun i j=>V.bl (decide (i<=j))) (rI0 fun i j=>V.bl (decide (i<=j))) (tC (.int lo)) (tVar k) (tC (.int hi)) σ H N:=by
 refine⟨_,hk,_,_,rfl,rfl,_,rfl,ite2 (fun e=>⟨_,_,rfl,rfl,?_⟩) (fun e=>?_)⟩
 ·have e':lo<=x:=of_decide_eq_true e
  show N (.bl (decide (x<=hi))) H
  rw[decide_eq_true e',Bool.true_and]at h
  exact h
 ·have e':¬lo<=x:=by simpa using e
  rw[decide_eq_false e',Bool.false_and]at h
  exact h
theorem andV{σ:L2.St}{H:Hp}{N:VK}{ta tb:TE}{x y:Bool}(ha:∀R:VK,R (.bl x) H->ta σ H R)(hb:∀R:VK,R (.bl y) H->tb σ H R)(h:N (.bl (x&&y)) H):tAndV ta tb σ H N:=by
 refine ha _ ⟨_,rfl,?_⟩
 cases x with
 |true=>exact iteT (hb _ (by simpa using h))
 |false=>exact iteF (by simpa using h)
theorem absV{σ:L2.St}{H:Hp}{N:VK}{x:Int}{k:Nat}(hk:σ[k]?=some (some (.int x)))(h:N (.bl (decide (-1000000000<=x)&&decide (x<=1000000000))) H):
  tOp (rI0 fun i j=>V.bl (decide (i<=j))) (tCB (fun xs H Q=>∃i,xs=[.int i]/\Q (.int (if i<0 then -i else i)) H) (Lu (tVar k) tNil)) (tC (.int 1000000000)) σ H N:=by
 refine⟨_,hk,_,rfl,_,_,rfl,rfl,?_⟩
 have e:decide ((if x<0 then -x else x)<=1000000000)=(decide (-1000000000<=x)&&decide (x<=1000000000)):=by
  rw[Yd,Zv,decide_eq_true_eq,decide_eq_true_eq,decide_eq_true_eq]
  by_cases q:x<0
  ·rw[if_pos q];omega
  ·rw[if_neg q];omega
 show N (.bl (decide ((if x<0 then -x else x)<=1000000000))) H
 rw[e]
 exact h
noncomputable abbrev S4:Stmt:=top 65
theorem scBegin:ZP ["grid","source","left","low","width","height","size","sides_fit","origin_fits"] ["grid","source"] (Zh S4):=⟨rfl,rfl,rfl,by decide +kernel,rfl,by decide +kernel,by decide +kernel⟩
theorem ok_begin{f:Addr}{fd:FuncData}(F:Fun K "begin" "begin" S4 f fd)(TC:TxtC K mg cGrid)(T:TxtM mg)(M_Source_take_number:Y5 P w K mg base cSrc "take_number" 1 ["self"] (WO K cSrc))
  (M_Grid_lay_out:Y5 P w K mg base cGrid "lay_out" 1 ["self","left","low","width","height","size"] (Lx cGrid)):FnOk P w K mg base CX0 8 f fd ["grid","source"] (Yi K cGrid cSrc 0):=by
 refine F.ok scBegin (fun vs H Q E h=>?_) (fun cdv A outer s0 H vs Q E hr h=>?_)
 ·obtain⟨g,s,a,G,R,as,l,i,c,t,rfl,_⟩:=h
  rfl
 ·obtain⟨g,s,a,G,R,as,l,i,c,t,rfl,W,hgv,k⟩:=h
  obtain⟨x,y,wd,ht,sz,hx,hy,hwd,hht,hsz,rfl,rfl⟩:=given5 hgv rfl
  have nd:=scBegin.nd
  refine⟨_,(Zk (ZZ (i:=2) nd rfl (Or.inl rfl) (Yu (pv 1) M_Source_take_number hr))
   (Zk (ZZ (i:=3) nd rfl (Or.inl rfl) (Yu (pv 1) M_Source_take_number hr))
   (Zk (ZZ (i:=4) nd rfl (Or.inl rfl) (Yu (pv 1) M_Source_take_number hr))
   (Zk (ZZ (i:=5) nd rfl (Or.inl rfl) (Yu (pv 1) M_Source_take_number hr))
   (Zk (ZZ (i:=6) nd rfl (Or.inl rfl) (Yu (pv 1) M_Source_take_number hr))
   (Zk (ZZ (i:=7) nd rfl (Or.inl rfl) (S9 (Vt X7 X7 ZE (pv 4) (pe_g rfl T.g_LONGEST_SIDE)) (S8 (Vt X7 X7 ZE (pv 5) (pe_g rfl T.g_LONGEST_SIDE)))))
   (Zk (ZZ (i:=8) nd rfl (Or.inl rfl) (S9 (Vq X7 (Yf Mj (by rfl) T.n_abs boot_abs (Zb (pv 2) Zn)) (pe_g rfl T.g_FARTHEST_ORIGIN) (YU _)) (S8 (Vq X7 (Yf Mj (by rfl) T.n_abs boot_abs (Zb (pv 3) Zn)) (pe_g rfl T.g_FARTHEST_ORIGIN) (YU _)))))
   (Zk (Xm (Vh (PW.pt (O4 (Wj (pv 7)) (O4 (Wj (pv 8)) (O3 (US X7 X7 ZE (pv 6) (pe_g rfl T.g_GREATEST_CELL_SIZE))))))) (Zr (ZN (Yp (Zb (pe_g rfl T.g_OUT_OF_RANGE) Zn)))) Yy)
   (Zk (Xx (YW (pv 0) M_Grid_lay_out hr (Zb (pv 2) (Zb (pv 3) (Zb (pv 4) (Zb (pv 5) (Zb (pv 6) Zn)))))))
   (Zr (ZN (Yp (Zb ZE Zn))))))))))))),?_⟩
  refine WZ W (k:=1) rfl hx fun H1 W1 f1=>WZ W1 (k:=1) rfl hy fun H2 W2 f2=>WZ W2 (k:=1) rfl hwd fun H3 W3 f3=>WZ W3 (k:=1) rfl hht fun H4 W4 f4=>WZ W4 (k:=1) rfl hsz fun H5 W5 f5=>?_
  have f5:=(((f1.trans f2).trans f3).trans f4).trans f5
  have est:VamatoNeutral.step G [[0,x,y,wd,ht,sz]]=Vamato.doBegin G x y wd ht sz:=rfl
  rw[est]at k
  unfold Vamato.doBegin at k
  refine andV (fun R h=>chainV (k:=4) rfl h) (fun R h=>chainV (k:=5) rfl h) ?_
  refine andV (fun R h=>absV (k:=2) rfl h) (fun R h=>absV (k:=3) rfl h) ?_
  have inW:∀(lo hi z:Int),Vamato.within lo hi z=(decide (lo<=z)&&decide (z<=hi)):=fun _ _ _=>rfl
  have econd:(Vamato.within 1 (Vamato.MOSTSIDE:Int) wd&&(Vamato.within 1 (Vamato.MOSTSIDE:Int) ht&&(Vamato.within 1 100000 sz&&(Vamato.within (-Vamate.FAR) Vamate.FAR x&&Vamato.within (-Vamate.FAR) Vamate.FAR y)))) =
    (((decide (1<=wd)&&decide (wd<=40))&&(decide (1<=ht)&&decide (ht<=40)))&&(((decide (-1000000000<=x)&&decide (x<=1000000000))&&(decide (-1000000000<=y)&&decide (y<=1000000000)))&&(decide (1<=sz)&&decide (sz<=100000)))):=by
   rw[Yd]
   simp only[inW,Zv,decide_eq_true_eq,show(Vamato.MOSTSIDE:Int)=40 from rfl,show Vamate.FAR=(1000000000:Int)from rfl]
   omega
  rw[econd]at k
  generalize hA:((decide (1<=wd)&&decide (wd<=40))&&(decide (1<=ht)&&decide (ht<=40)))=bA at k⊢
  generalize hB:((decide (-1000000000<=x)&&decide (x<=1000000000))&&(decide (-1000000000<=y)&&decide (y<=1000000000)))=bB at k⊢
  have no:(bA&&(bB&&(decide (1<=sz)&&decide (sz<=100000))))=false->∀q,H5 q=none->Q (.ref q) (L2.upd H5 q (.lst [.int (-1)])):=fun e q hq=>by
   rw[e,if_neg (by simp)]at k
   exact k _ q R as (i+5) (W5.fin hq) rfl (f5.fin hq) (f5.sf hq) Zf
  refine⟨_,rfl,_,rfl,?_⟩
  cases bA with
  |false=>exact iteF (iteT ⟨Xa _,fun q hq=>no rfl q hq⟩)
  |true=>
   refine iteT ⟨_,rfl,_,rfl,?_⟩
   cases bB with
   |false=>exact iteF (iteT ⟨Xa _,fun q hq=>no rfl q hq⟩)
   |true=>
    refine iteT ⟨_,rfl,_,_,rfl,rfl,_,rfl,ite2 (fun e1=>⟨_,_,rfl,rfl,_,rfl,ite2 (fun e2=>?_) (fun e2=>?_)⟩) (fun e1=>⟨_,rfl,iteT ⟨Xa _,fun q hq=>no ?_ q hq⟩⟩)⟩
    ·refine⟨Xa _,fun q hq=>no ?_ q hq⟩
     rw[UB e2]
     simp
    ·have e2':=UC e2
     rw[e1,e2',if_pos (show(true&&(true&&(true&&true)))=true from rfl)]at k
     simp only[Zv,decide_eq_true_eq]at hA hB
     have e1:=of_decide_eq_true e1
     have e2:=of_decide_eq_true e2'
     obtain⟨n,rfl⟩:∃n:Nat,wd=(n:Int):=⟨wd.toNat,by omega⟩
     obtain⟨m,rfl⟩:∃m:Nat,ht=(m:Int):=⟨ht.toNat,by omega⟩
     obtain⟨dx,hg⟩:=W5.grid.at_
     have hok:GOk (newG x y n m sz):=⟨by show 1<=n;omega,by show n<=40;omega,by show 1<=m;omega,by show m<=40;omega,e1,e2,by show(-1000000000:Int)<=x;omega,by show x<=1000000000;omega,by show(-1000000000:Int)<=y;omega,by show y<=1000000000;omega,RN (f:=fun _ _=>false) rfl⟩
     refine⟨_,rfl,g,dx,_,rfl,hg,Wl G R,_,rfl,_,rfl,_,rfl,_,rfl,_,rfl,g,dx,_,x,y,n,m,sz,rfl,hg,.inr ⟨G,R,rfl⟩,hok,fun H6 R' as' hG6 b6 nR nas=>⟨Xa _,fun q hq=>?_⟩⟩
     have mv:Moved g R as R' as' H5 H6:=⟨fun b o e n1 _ _=>b6 b o e n1,.inr nR,fun b hb=>.inr (nas b hb)⟩
     have W6:=W5.moved hG6 mv
     have f6:=f5.trans (Fm.moved mv)
     exact k _ q R' as' (i+5) (W6.fin hq) rfl (f6.fin hq) (f6.sf hq) Zf
    ·have e1':decide (1<=sz)=false:=by simpa using e1
     rw[e1']
     rfl
noncomputable abbrev SQ:Stmt:=top 68
theorem scMarks:ZP ["grid","picture","way","boxes","box"] ["grid","picture","way"] (Zh SQ):=⟨rfl,rfl,rfl,by decide +kernel,rfl,by decide +kernel,by decide +kernel⟩
noncomputable def WT(G:Vamato.Grid)(v:Bool)(t:Vamato.Text):Vamato.Grid×List Int:=
 Vamato.withPicture G t fun ms=>Vamato.become G (G.with fun i j=>if v=true then G.painted i j||Vamato.touchedBy G ms i j else G.painted i j&&!Vamato.touchedBy G ms i j)
noncomputable def RT(K:PySem.W.Frag)(cG cS:Addr):Sp:=fun vs H Q _=>∃(g s a:Addr)(G:Vamato.Grid)(R:Addr)(as:List Addr)(l:List Int)(i:Nat)(pq:Addr)(r:List Int)(v:Bool),vs=[.ref g,.ref pq,.int (b2i v)]/\Wd K cG cS H g s a G R as l i/\LI H pq r/\(∀b∈r,Byte b)/\r.length<=17000/\
 ∀(H':Hp)(q:Addr),Wd K cG cS H' g s a (WT G v (tx r)).1 R as l i->Fm g s R as R as H H'->Sf g s R as H q->LI H' q (WT G v (tx r)).2->Q (.ref q) H'
theorem Uy{z:Int}(h:Vamate.farNumber z=false): -1000000000<=z/\z<=1000000000:=farOk.mp h
theorem box_ok{m:Vamate.Mark}(h:Vamate.farMark m=false):Ms m.box:=by
 obtain⟨x,y,wh⟩:=m
 cases wh with
 |sign name s n p w' h' d=>
  have hf:=N9.mp h
  have hx:=Uy (hf x (by simp))
  have hy:=Uy (hf y (by simp))
  have hw:=Uy (hf w' (by simp))
  have hh:=Uy (hf h' (by simp))
  have hd:=Uy (hf d (by simp))
  refine⟨?_,?_,?_,?_⟩
  ·show Mid x;unfold Mid;omega
  ·show Mid (x+w');unfold Mid;omega
  ·show Mid (y-d);unfold Mid;omega
  ·show Mid (y+h');unfold Mid;omega
 |rule n w' h'=>
  have hf:=Mb.mp h
  have hx:=Uy (hf x (by simp))
  have hy:=Uy (hf y (by simp))
  have hw:=Uy (hf w' (by simp))
  have hh:=Uy (hf h' (by simp))
  refine⟨?_,?_,?_,?_⟩
  ·show Mid x;unfold Mid;omega
  ·show Mid (x+w');unfold Mid;omega
  ·show Mid y;unfold Mid;omega
  ·show Mid (y+h');unfold Mid;omega
theorem Qu{t:Vamate.Text}{p:Vamate.Picture}(h:Vamate.pictureOf t=some p):∀m∈p.marks,Vamate.farMark m=false:=by
 unfold Vamate.pictureOf at h
 split at h
 ·cases h
 ·split at h
  ·rename_i w' h' d ms e1 e2
   simp only at h
   by_cases c:w'<0\/Vamate.MOSTMARKS<ms.length\/Vamate.tooFar {width:=w',height:=h',depth:=d,marks:=ms}=true
   ·rw[if_pos c]at h;cases h
   ·rw[if_neg c]at h
    cases h
    intro m hm
    have nf:Vamate.tooFar {width:=w',height:=h',depth:=d,marks:=ms}=false:=by
     cases q:Vamate.tooFar {width:=w',height:=h',depth:=d,marks:=ms}with
     |false=>rfl
     |true=>exact(c (.inr (.inr q))).elim
    unfold Vamate.tooFar at nf
    rw[YY]at nf
    have:=W9.mp nf.2 m hm
    simpa using this
  ·cases h
theorem UU{t:Vamate.Text}{p:Vamate.Picture}(h:Vamate.pictureOf t=some p):p.marks.length<=1000:=by
 unfold Vamate.pictureOf at h
 split at h
 ·cases h
 ·split at h
  ·rename_i w' h' d ms e1 e2
   simp only at h
   by_cases c:w'<0\/Vamate.MOSTMARKS<ms.length\/Vamate.tooFar {width:=w',height:=h',depth:=d,marks:=ms}=true
   ·rw[if_pos c]at h;cases h
   ·rw[if_neg c]at h
    cases h
    have:Vamate.MOSTMARKS=1000:=rfl
    show ms.length<=1000
    omega
  ·cases h
end
end Cp
end
section
namespace Cp
open PySem PySem.Spec PyProof.Rows L2 Ma
section
variable{P:Program}{w:World}{K:PySem.W.Frag}{mg:Str->Option Value}{base:Heap}{cGrid cSrc cBox aSIGN aRULE:Addr}
theorem KM{G:Vamato.Grid}{v:Bool}{t:Vamato.Text}{p:Vamate.Picture}{q:Nat->Nat->Bool}{c:Nat}(hs:0<G.size)(hp:Vamate.pictureOf t=some p)(ho:over G.painted v (fun i j=>∃b∈p.marks.map Vamate.Mark.box,UJ G b i j) q G.width G.height)
  (hc:c+cnt G.width G.height (fun i j=>G.painted i j==v)=cnt G.width G.height (fun i j=>q i j==v)):WT G v t=(G.with q,[0,(c:Int)]):=by
 have e:WT G v t=Vamato.become G (G.with fun i j=>if v=true then G.painted i j||Vamato.touchedBy G p.marks i j else G.painted i j&&!Vamato.touchedBy G p.marks i j):=by
  unfold WT Vamato.withPicture
  rw[hp]
 have ht:∀i j,i<G.width->j<G.height->(Vamato.touchedBy G p.marks i j=true↔∃b∈p.marks.map Vamate.Mark.box,UJ G b i j):=by
  intro i j hi hj
  unfold Vamato.touchedBy
  rw[WA]
  constructor
  ·rintro⟨m,hm,h⟩
   exact⟨_,List.mem_map_of_mem hm,(V7 hs hi hj).mp h⟩
  ·rintro⟨b,hb,h⟩
   obtain⟨m,hm,rfl⟩:=ZS.mp hb
   exact⟨m,hm,(V7 hs hi hj).mpr h⟩
 have eq:(G.with fun i j=>if v=true then G.painted i j||Vamato.touchedBy G p.marks i j else G.painted i j&&!Vamato.touchedBy G p.marks i j)=G.with q:=by
  refine Tr fun i j hi hj=>?_
  have h1:=ht i j hi hj
  have h2:=ho i j hi hj
  cases z:Vamato.touchedBy G p.marks i j with
  |true=>
   rw[h2.1 (h1.mp z)]
   cases v<;>simp
  |false=>
   rw[h2.2 fun w=>by rw[h1.mpr w]at z;cases z]
   cases v<;>simp
 rw[e,eq]
 have hch:=Tv (v:=v) (fun i j hi hj e=>by
  by_cases z:∃b∈p.marks.map Vamate.Mark.box,UJ G b i j
  ·exact(ho i j hi hj).1 z
  ·rw[(ho i j hi hj).2 z];exact e) hc
 unfold Vamato.become
 rw[hch]
 rfl
theorem ok_marks{f:Addr}{fd:FuncData}(F:Fun K "cover_marks" "cover_marks" SQ f fd)(T:TxtM mg)(C_boxes_of:Callee P w K mg base "boxes_of" 6 ["text"] (RU K cBox))(M_Grid_turn_all:Y5 P w K mg base cGrid "turn_all" 2 ["self","cells","way"] (Qh cGrid))(M_Grid_touched:Y5 P w K mg base cGrid "touched" 2 ["self","box"] (RR cGrid cBox)):
  FnOk P w K mg base CX0 7 f fd ["grid","picture","way"] (RT K cGrid cSrc):=by
 refine F.ok scMarks (fun vs H Q E h=>?_) (fun cdv A outer s0 H vs Q E hr h=>?_)
 ·obtain⟨g,s,a,G,R,as,l,i,pq,r,v,rfl,_⟩:=h
  rfl
 ·obtain⟨g,s,a,G,R,as,l,i,pq,r,v,rfl,W,hL,hby,hrl,k⟩:=h
  have nd:=scMarks.nd
  refine⟨_,(Zk (ZZ (i:=3) nd rfl (Or.inl rfl) (ZU C_boxes_of hr rfl (Zb (pv 1) Zn)))
   (Zk (Xm (TY (Qx (pv 3))) (Zr (ZN (Yp (Zb (pe_g rfl T.g_NO_SUCH_TEXT) Zn)))) Yy)
   (Zr (ZN (Yp (Zb ZE (Zb (Yf (Rm rfl) (by rfl) T.n_sum boot_sum (Zb (X1 rfl nd (YN (pv 3)) (own:=[("box",4)]) (Yr (by kernel_rfl)) (fun _ _ _ _ _=>(Z2 (i:=4) nd rfl (Or.inl rfl))) (fun _ _ _ _ _=>Y4) (fun _ _ _ _ _=>(YW (pv 0) M_Grid_turn_all hr (Zb (YW (pv 0) M_Grid_touched hr (Zb (pv 4) Zn)) (Zb (pv 2) Zn))))) Zn)) Zn))))))),?_⟩
  refine⟨_,rfl,pq,r,rfl,SqL.of hL,hrl,fun H1 z s1 hres=>?_⟩
  have W1:=W.same s1
  have f1:Fm g s R as R as H H1:=Fm.same s1
  rw[OH hby]at hres
  cases hp:Vamate.pictureOf (tx r)with
  |none=>
   rw[hp]at hres
   have hres:z=.non:=hres
   subst hres
   have due:WT G v (tx r)=(G,[-5]):=by unfold WT Vamato.withPicture;rw[hp]
   rw[due]at k
   refine⟨_,rfl,_,rfl,ite2 (fun _=>⟨Xa _,fun q hq=>?_⟩) (fun z=>(z (decide_eq_true rfl)).elim)⟩
   exact k _ q (W1.fin hq) (f1.fin hq) (f1.sf hq) Zf
  |some p=>
   rw[hp]at hres
   obtain⟨pp,ps,rfl,hpn,hpL,hpair⟩:=hres
   have hfar:=Qu hp
   have hml:p.marks.length<=1000:=UU hp
   have hbo:∀b∈p.marks.map Vamate.Mark.box,Ms b:=fun b hb=>by
    obtain⟨m,hm,rfl⟩:=ZS.mp hb
    exact box_ok (hfar m hm)
   have due:=fun q c=>KM (G:=G) (v:=v) (q:=q) (c:=c) (by have:=W.grid.ok.s1;omega) hp
   have hml:(p.marks.map Vamate.Mark.box).length<=1000:=by rw[Za];exact hml
   revert due hbo hpair hml
   simp only
   generalize p.marks.map Vamate.Mark.box=bs
   intro hpair hbo due hml
   have hlen:=Zy hpair
   refine⟨_,rfl,_,rfl,ite2 (fun z=>by simp at z) (fun _=>?_)⟩
   have nP:pp∉as:=fun z=>by
    obtain⟨j,hj⟩:=Zx.mp z
    rw[W.grid.rows.row j pp hj]at hpn;cases hpn
   refine⟨_,rfl,pp,rfl,⟨_,SqL.of hpL⟩,fun D hD=>?_⟩
   obtain⟨dx1,hg1⟩:=W1.grid.at_
   have nD:D∉as:=fun z=>by
    obtain⟨j,hj⟩:=Zx.mp z
    rw[W1.grid.rows.row j D hj]at hD;cases hD
   have nPD:pp≠D:=fun z=>by rw[<-z,hpL]at hD;cases hD
   refine T7 (K:=K) (a:=pp) (xs:=ZV ps)
    (fun ys H'=>∃(cs:List Int)(c:Nat)(q:Nat->Nat->Bool),ys=ZQ cs/\cs.sum=(c:Int)/\Ys cGrid H' g (G.with q) R as/\over G.painted v (fun i j=>∃b∈bs.take ys.length,UJ G b i j) q G.width G.height/\c+cnt G.width G.height (fun i j=>G.painted i j==v)=cnt G.width G.height (fun i j=>q i j==v)/\H' D=some (.lst ys)/\Xi as H1 H')
    ⟨[],0,G.painted,rfl,rfl,by rw[Ui W.grid.ok.told];exact W1.grid.same (Same.new hD),fun i j _ _=>⟨fun z=>by simp at z,fun _=>rfl⟩,by omega,Zf,Xi.of_same (Same.new hD)⟩
    (fun ys H' ⟨cs,c,q,h1,h2,h3,h4,h5,h6,h7⟩=>SqL.of (h7 _ _ hpL nP)) (by rw[Za,hlen];exact Zi hml (by decide)) (fun _=>rfl) (fun ys H' ⟨cs,c,q,h1,h2,h3,h4,h5,h6,h7⟩=>h6) ?_ ?_
   ·rintro ys x H' Rr hx ⟨cs,c,q,rfl,h2,h3,h4,h5,h6,h7⟩ hR
    obtain⟨bx,hbx,rfl⟩:=Xr hx
    obtain⟨b,hb,bdx,hq⟩:=Z4 hpair hbx
    have nB:bx∉as:=fun z=>by
     obtain⟨j,hj⟩:=Zx.mp z
     rw[W1.grid.rows.row j bx hj]at hq;cases hq
    obtain⟨dx,hg⟩:=h3.at_
    refine⟨_,rfl,g,dx,_,rfl,hg,Wl G R,_,rfl,g,dx,_,rfl,hg,Wl G R,_,rfl,g,G.with q,R,as,bx,b,rfl,h3,⟨bdx,h7 _ _ hq nB⟩,hbo b (Zp hb),fun H3 tq tts tcs s3 htq hC hI hcl hmem=>⟨_,rfl,g,G.with q,R,as,tq,tts,tcs,v,rfl,h3.same s3,hC,hI,h3.rows.no_none htq,hcl,fun H'' q' n hG'' ho hc hbr3=>?_⟩⟩
    have hbr:Xi as H' H'':=fun c o e n=>hbr3 _ _ (s3 _ _ e) n
    have ho:over (G.with q).painted v (UJ G b) q' G.width G.height:=ho.congr fun i j _ _=>(hmem i j).symm
    refine hR _ _ (hbr _ _ h6 nD) ?_
    have ho':=h4.more ho
    have hc':cnt G.width G.height (fun i j=>(G.with q).painted i j==v)=cnt G.width G.height (fun i j=>q i j==v):=Ws fun i j hi hj=>by rw[Y3 hi hj]
    have hc:n+cnt G.width G.height (fun i j=>(G.with q).painted i j==v)=cnt G.width G.height (fun i j=>q' i j==v):=hc
    refine⟨cs++[(n:Int)],c+n,q',by simp[ZQ],by simp[h2],?_,?_,by omega,Zf,?_⟩
    ·exact hG''.upd_other (fun z=>by rw[<-z,hg1]at hD;cases hD) (fun z=>by rw[<-z,W1.grid.rows.at_]at hD;cases hD) nD
    ·refine ho'.congr fun i j _ _=>?_
     rw[Zj,Z6,take_snoc hb]
     simp only[Zs,ZI]
     constructor
     ·rintro⟨b',h|h,hi⟩
      ·exact .inl ⟨b',h,hi⟩
      ·subst h;exact .inr hi
     ·rintro(⟨b',h,hi⟩|h)
      ·exact⟨b',.inl h,hi⟩
      ·exact⟨b,.inr rfl,h⟩
    ·intro x o e n
     have:x≠D:=fun z=>by rw[z,hD]at e;cases e
     rw[Zt this]
     exact hbr _ _ (h7 _ _ e n) n
   ·rintro ys H' hyl ⟨cs,c,q,rfl,h2,h3,h4,h5,h6,h7⟩
    refine⟨D,cs,rfl,SqL.of h6,⟨Ww _ _,fun z hz=>?_⟩⟩
    have hyl:(ZQ cs).length=ps.length:=by rw[hyl];exact Za ..
    have h4':=h4.congr (S':=fun i j=>∃b∈bs,UJ G b i j) fun i j _ _=>by rw[Ya (by omega)]
    rw[due q c h4' h5]at k
    have W2:=W1.rows h3 h7
    have f2:=f1.trans (Fm.rows h7)
    refine k _ z (W2.fin hz) (f2.fin hz) (f2.sf hz) ?_
    show L2.upd _ z _ z=some (.lst (ZQ [0,(c:Int)]))
    rw[Zf,h2]
    rfl
noncomputable abbrev SO:Stmt:=top 66
theorem scPaint:ZP ["grid","source"] ["grid","source"] (Zh SO):=⟨rfl,rfl,rfl,by decide +kernel,rfl,by decide +kernel,by decide +kernel⟩
theorem ok_paint{f:Addr}{fd:FuncData}(F:Fun K "paint" "paint" SO f fd)(T:TxtM mg)(M_Source_take_row:Y5 P w K mg base cSrc "take_row" 2 ["self"] (Qk K cSrc))(C_cover_marks:Callee P w K mg base "cover_marks" 7 ["grid","picture","way"] (RT K cGrid cSrc)):
  FnOk P w K mg base CX0 8 f fd ["grid","source"] (Yi K cGrid cSrc 1):=by
 refine F.ok scPaint (fun vs H Q E h=>?_) (fun cdv A outer s0 H vs Q E hr h=>?_)
 ·obtain⟨g,s,a,G,R,as,l,i,c,t,rfl,_⟩:=h
  rfl
 ·obtain⟨g,s,a,G,R,as,l,i,c,t,rfl,W,hgv,k⟩:=h
  obtain⟨m,hm,hm0,hml,rfl,rfl⟩:=La hgv rfl
  have hby:=RO (S6 hgv.ask (.inl rfl))
  have hrl:((l.drop (i+1)).take m.toNat).length<=17000:=by
   rw[Yj,Z5]
   have:=W.len
   omega
  have est:=Td (G:=G) (c:=[[1],(l.drop (i+1)).take m.toNat]) (f:=Vamato.Call.paint) rfl hby.2
  have est2:Vamato.step G (.paint (tx ((l.drop (i+1)).take m.toNat)))=WT G true (tx ((l.drop (i+1)).take m.toNat)):=rfl
  rw[est,est2]at k
  have nd:=scPaint.nd
  refine⟨_,(Zr (ZN (ZU C_cover_marks hr rfl (Zb (pv 0) (Zb (Yu (pv 1) M_Source_take_row hr) (Zb (pe_g rfl T.g_PAINTED) Zn)))))),?_⟩
  refine⟨_,rfl,Lq W (k:=1) rfl hm hm0 hml fun H1 q W1 f1 hq hL=>⟨g,s,a,G,R,as,l,_,q,_,true,rfl,W1,hL,hby.1,hrl,fun H2 z W2 f2 sq hL2=>?_⟩⟩
  exact k H2 z R as _ W2 rfl (f1.trans f2) (fun b o e n1 n2 n3 n4=>sq b o (f1 b o e n1 n2 n3 n4).1 n1 n2 n3 n4) hL2
noncomputable abbrev SS:Stmt:=top 67
theorem scErase:ZP ["grid","source"] ["grid","source"] (Zh SS):=⟨rfl,rfl,rfl,by decide +kernel,rfl,by decide +kernel,by decide +kernel⟩
theorem ok_erase{f:Addr}{fd:FuncData}(F:Fun K "erase" "erase" SS f fd)(T:TxtM mg)(M_Source_take_row:Y5 P w K mg base cSrc "take_row" 2 ["self"] (Qk K cSrc))(C_cover_marks:Callee P w K mg base "cover_marks" 7 ["grid","picture","way"] (RT K cGrid cSrc)):
  FnOk P w K mg base CX0 8 f fd ["grid","source"] (Yi K cGrid cSrc 2):=by
 refine F.ok scErase (fun vs H Q E h=>?_) (fun cdv A outer s0 H vs Q E hr h=>?_)
 ·obtain⟨g,s,a,G,R,as,l,i,c,t,rfl,_⟩:=h
  rfl
 ·obtain⟨g,s,a,G,R,as,l,i,c,t,rfl,W,hgv,k⟩:=h
  obtain⟨m,hm,hm0,hml,rfl,rfl⟩:=La hgv rfl
  have hby:=RO (S6 hgv.ask (.inr (.inl rfl)))
  have hrl:((l.drop (i+1)).take m.toNat).length<=17000:=by
   rw[Yj,Z5]
   have:=W.len
   omega
  have est:=Td (G:=G) (c:=[[2],(l.drop (i+1)).take m.toNat]) (f:=Vamato.Call.erase) rfl hby.2
  have est2:Vamato.step G (.erase (tx ((l.drop (i+1)).take m.toNat)))=WT G false (tx ((l.drop (i+1)).take m.toNat)):=rfl
  rw[est,est2]at k
  have nd:=scErase.nd
  refine⟨_,(Zr (ZN (ZU C_cover_marks hr rfl (Zb (pv 0) (Zb (Yu (pv 1) M_Source_take_row hr) (Zb (pe_g rfl T.g_CLEAR) Zn)))))),?_⟩
  refine⟨_,rfl,Lq W (k:=1) rfl hm hm0 hml fun H1 q W1 f1 hq hL=>⟨g,s,a,G,R,as,l,_,q,_,false,rfl,W1,hL,hby.1,hrl,fun H2 z W2 f2 sq hL2=>?_⟩⟩
  exact k H2 z R as _ W2 rfl (f1.trans f2) (fun b o e n1 n2 n3 n4=>sq b o (f1 b o e n1 n2 n3 n4).1 n1 n2 n3 n4) hL2
end
end Cp
end
section
namespace Cp
open PySem PySem.Spec PyProof.Rows L2 Ma
section
variable{P:Program}{w:World}{K:PySem.W.Frag}{mg:Str->Option Value}{base:Heap}
structure TxtQ(mg:Str->Option Value):Prop where
 n_sum:mg "sum"=none
 n_zip:mg "zip"=none
 n_enumerate:mg "enumerate"=none
 g_CLEAR:GV mg "CLEAR" (.int 0)
 g_PAINTED:GV mg "PAINTED" (.int 1)
theorem b2i_b2n(b:Bool):b2i b=((b2n b:Nat):Int):=by cases b<;>rfl
theorem NM(f:Nat->Bool):∀n:Nat,(rowP n f).sum=((Ma.sumTo n fun i=>b2n (f i):Nat):Int)
 |0=>rfl
 |n+1=>by
  have ih:=NM f n
  unfold rowP at ih⊢
  rw[YC,ZJ,List.sum_append,ih,Ma.sumTo]
  simp only[ZB,Wz,List.sum_cons,List.sum_nil,b2i_b2n]
  omega
theorem NA(g:Nat->Nat):∀m:Nat,((List.range m).map fun j=>((g j:Nat):Int)).sum=((Ma.sumTo m g:Nat):Int)
 |0=>rfl
 |m+1=>by
  rw[YC,ZJ,List.sum_append,NA g m,Ma.sumTo]
  simp only[ZB,Wz,List.sum_cons,List.sum_nil]
  omega
noncomputable def Uv(n m:Nat)(p:Nat->Nat->Bool):List Int:=(List.range m).map fun j=>(rowP n fun i=>p i j).sum
theorem NK(n m:Nat)(p:Nat->Nat->Bool):(Uv n m p).sum=((cnt n m p:Nat):Int):=by
 rw[VJ,<-NA]
 unfold Uv
 congr 1
 exact Xh fun j _=>NM _ n
theorem NL{n m:Nat}{p:Nat->Nat->Bool}{j:Nat}(h:j<m):(Uv n m p)[j]?=some (rowP n fun i=>p i j).sum:=by
 unfold Uv
 rw[ZA,List.getElem?_range h]
 rfl
theorem Kg(n:Nat)(f:Nat->Bool):(rowP n f).drop 1=rowP (n-1) fun i=>f (i+1):=by
 refine Ve fun k=>?_
 rw[XJ]
 by_cases h:k<n-1
 ·rw[X6 (by omega),X6 h,Vl]
 ·rw[Z7 (by rw[Yh];omega),Z7 (by rw[Yh];omega)]
theorem Mg{n m:Nat}{f:Nat->Nat->Bool}(hn:1<=n)(h:∀j,f (n-1) j=false):cnt (n-1) m f=cnt n m f:=by
 obtain⟨k,rfl⟩:∃k,n=k+1:=⟨n-1,by omega⟩
 rw[WY,VJ,VJ]
 refine Wi fun j _=>?_
 rw[Ma.sumTo]
 have:=h j
 rw[WY]at this
 rw[this]
 rfl
theorem Mh{n m:Nat}{f:Nat->Nat->Bool}(hm:1<=m)(h:∀i,f i (m-1)=false):cnt n (m-1) f=cnt n m f:=by
 obtain⟨k,rfl⟩:∃k,m=k+1:=⟨m-1,by omega⟩
 rw[WY,VJ,VJ,Ma.sumTo]
 have e:(Ma.sumTo n fun i=>b2n (f i k))=0:=by
  rw[<-Qa (n:=n)]
  refine Wi fun i _=>?_
  have:=h i
  rw[WY]at this
  rw[this]
  rfl
 rw[e]
 rfl
noncomputable abbrev sPIn:Stmt:=top 19
theorem scPIn:ZP ["rows","row"] ["rows"] (Zh sPIn):=⟨rfl,rfl,rfl,by decide +kernel,rfl,by decide +kernel,by decide +kernel⟩
noncomputable def Ql:Sp:=fun vs H Q _=>∃(R:Addr)(as:List Addr)(n m:Nat)(p:Nat->Nat->Bool),vs=[.ref R]/\XM H R as n m p/\n<=40/\m<=40/\∀H',Same H H'->Q (.int ((cnt n m p:Nat):Int)) H'
theorem ok_pIn{f:Addr}{fd:FuncData}(F:Fun K "painted_in" "painted_in" sPIn f fd)(T:TxtQ mg):FnOk P w K mg base CX0 1 f fd ["rows"] Ql:=by
 refine F.ok scPIn (fun vs H Q E h=>?_) (fun cdv A outer s H vs Q E hr h=>?_)
 ·obtain⟨R,as,n,m,p,rfl,_⟩:=h
  rfl
 ·obtain⟨R,as,n,m,p,rfl,hR,hn,hm,k⟩:=h
  have nd:=scPIn.nd
  refine⟨_,(Zr (ZN (Yf (Rm rfl) (by rfl) T.n_sum boot_sum (Zb (X1 rfl nd (YN (pv 0)) (own:=[("row",1)]) (Yr (by kernel_rfl)) (fun _ _ _ _ _=>(Z2 (i:=1) nd rfl (Or.inl rfl))) (fun _ _ _ _ _=>Y4) (fun _ _ _ _ _=>(Yf (KR (K:=K) rfl rfl) (by rfl) T.n_sum boot_sum (Zb (pv 1) Zn)))) Zn)))),?_⟩
  refine⟨_,rfl,R,rfl,⟨_,SqL.of hR.at_⟩,fun D hD=>Ng (K:=K) (xs:=ZV as) (fun j y _=>j<m->y=.int (rowP n fun i=>p i j).sum) (SqL.of hR.at_) (by rw[Za,hR.len];exact Zi hm (by decide)) hD (fun _=>rfl)
   (fun _ _ _ _ h=>h) (fun _ _ _ _ h _=>h) (fun j x H' R' hx s1 _ hR'=>?_) (fun ys H' hyl s1 hy he=>?_)⟩
  ·obtain⟨a,ha,rfl⟩:=Xr hx
   exact⟨_,rfl,a,_,rfl,SqL.of (s1 _ _ (hR.row j a ha)),hR' _ _ (Same.refl _) fun _=>rfl⟩
  ·rw[Za,hR.len]at hyl
   have ey:ys=ZQ (Uv n m p):=by
    refine Ve fun j=>?_
    by_cases hj:j<m
    ·rw[ZA,NL hj]
     have hjy:j<ys.length:=by omega
     rw[Zu hjy]
     rw[he j _ (Zu hjy) hj]
     rfl
    ·rw[Z7 (by omega),Z7 (by rw[Za];unfold Uv;rw[Za,YF];omega)]
   refine⟨D,Uv n m p,rfl,SqL.of (by rw[hy,ey]),?_⟩
   rw[NK]
   exact k H' s1
noncomputable abbrev P9:Stmt:=top 23
theorem scBoth:ZP ["one","other","a","b"] ["one","other"] (Zh P9):=⟨rfl,rfl,rfl,by decide +kernel,rfl,by decide +kernel,by decide +kernel⟩
noncomputable def Qo(K:PySem.W.Frag):Sp:=fun vs H Q _=>∃(a b:Addr)(n k:Nat)(f g:Nat->Bool),vs=[.ref a,.ref b]/\LI H a (rowP n f)/\LI H b (rowP k g)/\n<=40/\∀(H':Hp)(q:Addr),Same H H'->H q=none->LI H' q (rowP (min n k) fun i=>f i&&g i)->Q (.ref q) H'
theorem b2i_mul(a b:Bool):b2i a*b2i b=b2i (a&&b):=by cases a<;>cases b<;>rfl
theorem ok_both{f:Addr}{fd:FuncData}(F:Fun K "both" "both" P9 f fd)(T:TxtQ mg):FnOk P w K mg base CX0 1 f fd ["one","other"] (Qo K):=by
 refine F.ok scBoth (fun vs H Q E h=>?_) (fun cdv A outer s H vs Q E hr h=>?_)
 ·obtain⟨a,b,n,k,x,y,rfl,_⟩:=h
  rfl
 ·obtain⟨a,b,n,m,x,y,rfl,ha,hb,hn,k⟩:=h
  have nd:=scBoth.nd
  refine⟨_,(Zr (ZN (X1 rfl nd (pi_zip (by rfl) T.n_zip (Zb (pv 0) (Zb (pv 1) Zn))) (own:=[("a",2),("b",3)]) (Yr (by kernel_rfl)) (fun _ _ _ _ _=>(V9 (K:=K) (n:=2) rfl rfl (YO (Z2 (i:=2) nd rfl (Or.inl rfl)) (YO (Z2 (i:=3) nd rfl (Or.inl rfl)) WD)))) (fun _ _ _ _ _=>Y4) (fun _ _ _ _ _=>(Xf O9 (pv 2) (pv 3)))))),?_⟩
  refine⟨_,rfl,_,rfl,a,b,_,_,rfl,SqL.of ha,SqL.of hb,fun D hD=>lc_zip (K:=K) (a:=a) (b:=b) (xs:=ZQ (rowP n x)) (zs:=ZQ (rowP m y)) (n1:=2) (n2:=3)
   (fun ys H'=>Same H H'/\H' D=some (.lst ys)/\ys.length<=min n m/\ys=ZQ (rowP ys.length fun i=>x i&&y i)) ⟨Same.new hD,Zf,ZG _,rfl⟩
   (fun ys H' ⟨s1,_⟩=>⟨SqL.of (s1 _ _ ha),SqL.of (s1 _ _ hb)⟩) (by rw[Za,Yh];exact Zi hn (by decide)) (fun _ _=>rfl) ?_ ?_⟩
  ·rintro ys u z H' t Rr hu hz ⟨s1,hDD,hl,ey⟩ ht hR
   obtain⟨u',hu',rfl⟩:=int_at hu
   obtain⟨z',hz',rfl⟩:=int_at hz
   clear hu hz
   have hu:=hu'
   have hz:=hz'
   clear hu' hz'
   have h1:ys.length<n:=by have:=(Zd.mp hu).1;rw[Yh]at this;exact this
   have h2:ys.length<m:=by have:=(Zd.mp hz).1;rw[Yh]at this;exact this
   rw[X6 h1]at hu
   rw[X6 h2]at hz
   cases hu
   cases hz
   have hb: -(2^64)<=b2i (x ys.length)/\b2i (x ys.length)<=2^64:=by cases x ys.length<;>decide
   refine⟨_,rfl,_,rfl,_,_,rfl,rfl,.inl (by first|exact hb|(cases x ys.length<;>decide)),hR _ _ (by rw[Zt (ZD hDD ht)];exact hDD) ⟨Xg hD (s1.trans (Same.new ht)),Zf,by rw[Zj,Z6];omega,?_⟩⟩
   rw[Zj,Z6]
   unfold rowP ZQ at ey⊢
   rw[YC,ZJ,ZJ,<-ey]
   show ys++[V.int (b2i (x ys.length)*b2i (y ys.length))]=_
   rw[b2i_mul]
   rfl
  ·rintro ys H' hyl ⟨s1,hDD,hl,ey⟩
   rw[Za,Za,Yh,Yh]at hyl
   rw[hyl]at ey
   exact k H' D s1 hD (show H' D=_ by rw[hDD,ey])
theorem Oc{H:Hp}{a:Addr}{n:Nat}{f:Nat->Bool}(h:LI H a (rowP n f)){t:Addr}(ht:H t=none):LI (L2.upd H t (.lst (cutV (ZQ (rowP n f)) (some 1) none))) t (rowP (n-1) fun i=>f (i+1)):=by
 show L2.upd _ t _ t=_
 rw[Zf,Vj,<-Kg]
 unfold ZQ
 rw[WM]
noncomputable abbrev sStk:Stmt:=top 22
theorem scStk:ZP ["rows","lower","upper"] ["rows"] (Zh sStk):=⟨rfl,rfl,rfl,by decide +kernel,rfl,by decide +kernel,by decide +kernel⟩
noncomputable def Lv:Sp:=fun vs H Q _=>∃(R:Addr)(as:List Addr)(n m:Nat)(p:Nat->Nat->Bool),vs=[.ref R]/\XM H R as n m p/\n<=40/\m<=40/\∀(H':Hp)(q:Addr)(bs:List Addr),Same H H'->XM H' q bs n (m-1) (fun i j=>p i j&&p i (j+1))->Q (.ref q) H'
theorem ok_stk{f:Addr}{fd:FuncData}(F:Fun K "stacked" "stacked" sStk f fd)(T:TxtQ mg)(C_both:Callee P w K mg base "both" 1 ["one","other"] (Qo K)):FnOk P w K mg base CX0 2 f fd ["rows"] Lv:=by
 refine F.ok scStk (fun vs H Q E h=>?_) (fun cdv A outer s H vs Q E hr h=>?_)
 ·obtain⟨R,as,n,m,p,rfl,_⟩:=h
  rfl
 ·obtain⟨R,as,n,m,p,rfl,hR,hn,hm,k⟩:=h
  have nd:=scStk.nd
  refine⟨_,(Zr (ZN (X1 rfl nd (pi_zip (by rfl) T.n_zip (Zb (pv 0) (Zb (XD Wb (pv 0) (XY ZE) Wc) Zn))) (own:=[("lower",1),("upper",2)]) (Yr (by kernel_rfl)) (fun _ _ _ _ _=>(V9 (K:=K) (n:=2) rfl rfl (YO (Z2 (i:=1) nd rfl (Or.inl rfl)) (YO (Z2 (i:=2) nd rfl (Or.inl rfl)) WD)))) (fun _ _ _ _ _=>Y4) (fun _ _ _ _ _=>(ZU C_both hr rfl (Zb (pv 1) (Zb (pv 2) Zn))))))),?_⟩
  refine⟨_,rfl,_,rfl,_,rfl,R,_,rfl,SqL.of hR.at_,fun t ht=>?_⟩
  have s1:Same H (L2.upd H t (.lst (cutV (ZV as) (some 1) none))):=Same.new ht
  have ht1:L2.upd H t (.lst (cutV (ZV as) (some 1) none)) t=some (.lst (ZV (as.drop 1))):=by
   rw[Zf,Vj]
   unfold ZV
   rw[WM]
  generalize L2.upd H t (.lst (cutV (ZV as) (some 1) none))=H1 at s1 ht1⊢
  have hR1:=hR.same s1
  refine⟨R,t,_,_,rfl,SqL.of hR1.at_,SqL.of ht1,fun D hD=>lc_zip (K:=K) (a:=R) (b:=t) (xs:=ZV as) (zs:=ZV (as.drop 1)) (n1:=1) (n2:=2)
   (fun ys H'=>∃bs,ys=ZV bs/\Uc H1 D (fun j=>rowP n fun i=>p i j&&p i (j+1)) bs H') ⟨[],rfl,Uc.start hD⟩
   (fun ys H' ⟨_,_,I⟩=>⟨SqL.of (I.same _ _ hR1.at_),SqL.of (I.same _ _ ht1)⟩) (by rw[Za,hR.len];exact Zi hm (by decide)) (fun _ _=>rfl) ?_ ?_⟩
  ·rintro ys u z H' t2 Rr hu hz ⟨bs,rfl,I⟩ ht2 hRr
   rw[Za]at hu hz
   obtain⟨u,hu',rfl⟩:=Xr hu
   obtain⟨z,hz',rfl⟩:=Xr hz
   clear hu hz
   have hu:=hu'
   have hz:=hz'
   clear hu' hz'
   rw[XJ,Vl]at hz
   have sI:=I.same.trans (Same.new (o:=.tup [.ref u,.ref z]) ht2)
   have h1:=sI _ _ (hR1.row _ u hu)
   have h2:=sI _ _ (hR1.row _ z hz)
   refine⟨_,rfl,_,rfl,u,z,n,n,_,_,rfl,h1,h2,hn,fun H3 q s3 hq hL=>hRr _ _ (s3 _ _ (Same.new ht2 _ _ I.at_)) ⟨bs++[q],(Yw _ _).symm,?_⟩⟩
   rw[Nat.min_self]at hL
   have:=I.snoc hD ((Same.new ht2).trans s3) ((Same.new ht2).free hq) hL
   rw[Yw]at this
   exact this
  ·rintro ys H' hyl ⟨bs,rfl,I⟩
   rw[Za,Za,Za,Z5,hR.len]at hyl
   exact k H' D bs (s1.trans I.same) (I.rows (by omega))
noncomputable def Py(p:Nat->Nat->Bool):Nat->Nat->Bool:=fun i j=>p i j&&p (i+1) j
theorem Px{C_both:Prop}{H:Hp}{R D:Addr}{as:List Addr}{n m v:Nat}{p:Nat->Nat->Bool}{te:TE}{σ:L2.St}{Qd:Hp->Prop}(hR:XM H R as n m p)(hn:n<=40)(hm:m<=40)(hD:H D=none)(hw:∀x:V,wipe ((wipe σ [v]).set v (some x)) [v]=wipe σ [v])
  (hs:∀(a:Addr)(f:Nat->Bool) H'(R':VK),LI H' a (rowP n f)->(∀H'' q,Same H' H''->H' q=none->LI H'' q (rowP (n-1) fun i=>f i&&f (i+1))->R' (.ref q) H'')->te ((wipe σ [v]).set v (some (.ref a))) H' R')
  (hd:∀H' bs,Same H H'->XM H' D bs (n-1) m (Py p)->Qd H'):
  ∃W:Nat->Nat->Hp->Prop,(∃m,W 0 m (L2.upd H D (.lst [])))/\∀i m H,W i m H->
   ((Itl K R).stop i H/\Qd H)\/((Itl K R).go i H/\∃Nx:Hp->Prop,(∀H',Nx H'->∃m',m'<m/\W (i+1) m' H')/\∀x H',(Itl K R).yld i H x H'->VD v x (wipe σ [v]) H' fun σ2 H2=>wipe σ2 [v]=wipe σ [v]/\tYes σ2 H2 fun b H3=>
    if b=true then te σ2 H3 fun y H4=>∃acc,H4 D=some (.lst acc)/\acc.length<sizeLine/\Nx (L2.upd H4 D (.lst (acc++[y])))else Nx H3):=by
 refine T7 (K:=K) (a:=R) (xs:=ZV as) (fun ys H'=>∃bs,ys=ZV bs/\Uc H D (fun j=>rowP (n-1) fun i=>p i j&&p (i+1) j) bs H') ⟨[],rfl,Uc.start hD⟩
  (fun ys H' ⟨_,_,I⟩=>SqL.of (I.same _ _ hR.at_)) (by rw[Za,hR.len];exact Zi hm (by decide)) hw (fun ys H' ⟨bs,e,I⟩=>by rw[e];exact I.at_) ?_ ?_
 ·rintro ys x H' Rr hx ⟨bs,rfl,I⟩ hRr
  rw[Za]at hx
  obtain⟨a,ha,rfl⟩:=Xr hx
  refine hs a _ H' Rr (I.same _ _ (hR.row _ a ha)) fun H'' q s2 hq hL=>hRr _ _ (s2 _ _ I.at_) ⟨bs++[q],(Yw _ _).symm,?_⟩
  have:=I.snoc hD s2 hq hL
  rw[Yw]at this
  exact this
 ·rintro ys H' hyl ⟨bs,rfl,I⟩
  rw[Za,Za,hR.len]at hyl
  exact hd H' bs I.same (I.rows hyl)
noncomputable abbrev PU:Stmt:=top 20
theorem scPrIn:ZP ["rows","side_by_side","row"] ["rows"] (Zh PU):=⟨rfl,rfl,rfl,by decide +kernel,rfl,by decide +kernel,by decide +kernel⟩
noncomputable def Ra(n m:Nat)(p:Nat->Nat->Bool):Nat:=cnt (n-1) m (Py p)+cnt n (m-1) fun i j=>p i j&&p i (j+1)
noncomputable def OU:Sp:=fun vs H Q _=>∃(R:Addr)(as:List Addr)(n m:Nat)(p:Nat->Nat->Bool),vs=[.ref R]/\XM H R as n m p/\n<=40/\m<=40/\∀H',Same H H'->Q (.int ((Ra n m p:Nat):Int)) H'
theorem ok_prIn{f:Addr}{fd:FuncData}(F:Fun K "pairs_in" "pairs_in" PU f fd)(T:TxtQ mg)(C_both:Callee P w K mg base "both" 1 ["one","other"] (Qo K))(C_painted_in:Callee P w K mg base "painted_in" 1 ["rows"] Ql)(C_stacked:Callee P w K mg base "stacked" 2 ["rows"] Lv):FnOk P w K mg base CX0 3 f fd ["rows"] OU:=by
 refine F.ok scPrIn (fun vs H Q E h=>?_) (fun cdv A outer s H vs Q E hr h=>?_)
 ·obtain⟨R,as,n,m,p,rfl,_⟩:=h
  rfl
 ·obtain⟨R,as,n,m,p,rfl,hR,hn,hm,k⟩:=h
  have nd:=scPrIn.nd
  refine⟨_,(Zk (Sk (i:=1) rfl nd rfl rfl (RP rfl rfl rfl rfl) (YN (pv 0)) (own:=[("row",2)]) (Yr (by kernel_rfl)) (fun _ _ _ _ _=>(Z2 (i:=2) nd rfl (Or.inl rfl))) (fun _ _ _ _ _=>Y4) (fun _ _ _ _ _=>(ZU C_both hr rfl (Zb (pv 2) (Zb (XD (NF (K:=K) rfl) (pv 2) (XY ZE) Wc) Zn)))))
   (Zr (ZN (Xf Vi (ZU C_painted_in hr rfl (Zb (pv 1) Zn)) (ZU C_painted_in hr rfl (Zb (ZU C_stacked hr rfl (Zb (pv 0) Zn)) Zn)))))),?_⟩
  refine⟨_,rfl,R,rfl,⟨_,SqL.of hR.at_⟩,fun D hD=>Px (C_both:=True) hR hn hm hD (fun _=>rfl) (fun a x H' R' hL hR'=>?_) (fun H1 bs s1 hB=>?_)⟩
  ·refine⟨_,rfl,_,rfl,_,rfl,a,_,rfl,SqL.of hL,fun t ht=>⟨a,t,n,n-1,x,_,rfl,Same.new ht _ _ hL,Oc hL ht,hn,fun H'' q s2 hq hL2=>hR' _ _ ((Same.new ht).trans s2) ((Same.new ht).free hq) ?_⟩⟩
   rw[Nat.min_eq_right (Nat.sub_le _ _)]at hL2
   exact hL2
  ·refine⟨_,rfl,D,bs,n-1,m,_,rfl,hB,by omega,hm,fun H2 s2=>⟨_,rfl,R,as,n,m,p,rfl,hR.same (s1.trans s2),hn,hm,fun H3 q cs s3 hC=>⟨q,cs,n,m-1,_,rfl,hC,hn,by omega,fun H4 s4=>⟨_,_,rfl,rfl,?_⟩⟩⟩⟩
   have:=k H4 (((s1.trans s2).trans s3).trans s4)
   unfold Ra at this
   rw[Int.natCast_add]at this
   exact this
noncomputable abbrev PM:Stmt:=top 21
theorem scSqIn:ZP ["rows","row"] ["rows"] (Zh PM):=⟨rfl,rfl,rfl,by decide +kernel,rfl,by decide +kernel,by decide +kernel⟩
noncomputable def Qe(n m:Nat)(p:Nat->Nat->Bool):Nat:=cnt (n-1) (m-1) (Py fun i j=>p i j&&p i (j+1))
noncomputable def MB:Sp:=fun vs H Q _=>∃(R:Addr)(as:List Addr)(n m:Nat)(p:Nat->Nat->Bool),vs=[.ref R]/\XM H R as n m p/\n<=40/\m<=40/\∀H',Same H H'->Q (.int ((Qe n m p:Nat):Int)) H'
theorem ok_sqIn{f:Addr}{fd:FuncData}(F:Fun K "squares_in" "squares_in" PM f fd)(T:TxtQ mg)(C_both:Callee P w K mg base "both" 1 ["one","other"] (Qo K))(C_painted_in:Callee P w K mg base "painted_in" 1 ["rows"] Ql)(C_stacked:Callee P w K mg base "stacked" 2 ["rows"] Lv):FnOk P w K mg base CX0 3 f fd ["rows"] MB:=by
 refine F.ok scSqIn (fun vs H Q E h=>?_) (fun cdv A outer s H vs Q E hr h=>?_)
 ·obtain⟨R,as,n,m,p,rfl,_⟩:=h
  rfl
 ·obtain⟨R,as,n,m,p,rfl,hR,hn,hm,k⟩:=h
  have nd:=scSqIn.nd
  refine⟨_,(Zr (ZN (ZU C_painted_in hr rfl (Zb (X1 rfl nd (YN (ZU C_stacked hr rfl (Zb (pv 0) Zn))) (own:=[("row",1)]) (Yr (by kernel_rfl)) (fun _ _ _ _ _=>(Z2 (i:=1) nd rfl (Or.inl rfl))) (fun _ _ _ _ _=>Y4) (fun _ _ _ _ _=>(ZU C_both hr rfl (Zb (pv 1) (Zb (XD (NF (K:=K) rfl) (pv 1) (XY ZE) Wc) Zn))))) Zn)))),?_⟩
  refine⟨_,rfl,R,as,n,m,p,rfl,hR,hn,hm,fun H1 q cs s1 hC=>⟨q,rfl,⟨_,SqL.of hC.at_⟩,fun D hD=>Px (C_both:=True) hC hn (Zi (Nat.sub_le _ _) hm) hD (fun _=>rfl) (fun a x H' R' hL hR'=>?_) (fun H2 bs s2 hB=>?_)⟩⟩
  ·refine⟨_,rfl,_,rfl,_,rfl,a,_,rfl,SqL.of hL,fun t ht=>⟨a,t,n,n-1,x,_,rfl,Same.new ht _ _ hL,Oc hL ht,hn,fun H'' q s2 hq hL2=>hR' _ _ ((Same.new ht).trans s2) ((Same.new ht).free hq) ?_⟩⟩
   rw[Nat.min_eq_right (Nat.sub_le _ _)]at hL2
   exact hL2
  ·exact⟨D,bs,n-1,m-1,_,rfl,hB,by omega,by omega,fun H3 s3=>k H3 ((s1.trans s2).trans s3)⟩
noncomputable abbrev P5:Stmt:=top 24
theorem scEdge:ZP ["rows"] ["rows"] (Zh P5):=⟨rfl,rfl,rfl,by decide +kernel,rfl,by decide +kernel,by decide +kernel⟩
noncomputable def ML:Sp:=fun vs H Q _=>∃(R:Addr)(as:List Addr)(n m:Nat)(p:Nat->Nat->Bool),vs=[.ref R]/\XM H R as n m p/\n<=40/\m<=40/\∀H',Same H H'->Q (.int (4*((cnt n m p:Nat):Int)-2*((Ra n m p:Nat):Int))) H'
theorem ok_edge{f:Addr}{fd:FuncData}(F:Fun K "edge_of" "edge_of" P5 f fd)(C_painted_in:Callee P w K mg base "painted_in" 1 ["rows"] Ql)(C_pairs_in:Callee P w K mg base "pairs_in" 3 ["rows"] OU):FnOk P w K mg base CX0 4 f fd ["rows"] ML:=by
 refine F.ok scEdge (fun vs H Q E h=>?_) (fun cdv A outer s H vs Q E hr h=>?_)
 ·obtain⟨R,as,n,m,p,rfl,_⟩:=h
  rfl
 ·obtain⟨R,as,n,m,p,rfl,hR,hn,hm,k⟩:=h
  have nd:=scEdge.nd
  refine⟨_,(Zr (ZN (Xf VA (Xf O9 ZE (ZU C_painted_in hr rfl (Zb (pv 0) Zn))) (Xf O9 ZE (ZU C_pairs_in hr rfl (Zb (pv 0) Zn)))))),?_⟩
  refine⟨_,rfl,R,as,n,m,p,rfl,hR,hn,hm,fun H1 s1=>⟨_,_,rfl,rfl,.inl (by decide),_,rfl,R,as,n,m,p,rfl,hR.same s1,hn,hm,fun H2 s2=>⟨_,_,rfl,rfl,.inl (by decide),_,_,rfl,rfl,k H2 (s1.trans s2)⟩⟩⟩
theorem Oj{G:Vamato.Grid}(hG:GOk G):Ra G.width G.height G.painted=Vamato.pairsIn G:=by
 unfold Ra Vamato.pairsIn
 rw[Wm,Wm,Mg hG.w1 (fun j=>?_),Mh hG.h1 (fun i=>?_)]
 ·rfl
 ·show(G.painted i (G.height-1)&&G.painted i (G.height-1+1))=false
  rw[X2 (j:=G.height-1+1) (.inr (by have:=hG.h1;omega)),X4]
 ·show(G.painted (G.width-1) j&&G.painted (G.width-1+1) j)=false
  rw[X2 (i:=G.width-1+1) (.inl (by have:=hG.w1;omega)),X4]
theorem NC{G:Vamato.Grid}(hG:GOk G):Qe G.width G.height G.painted=Vamato.squaresIn G:=by
 unfold Qe Vamato.squaresIn
 have h1:=hG.w1
 have h2:=hG.h1
 rw[Wm,Mg h1 (fun j=>?_),Mh h2 (fun i=>?_)]
 ·refine Ws fun i j _ _=>?_
  unfold Py
  dsimp only
  cases G.painted i j<;>cases G.painted (i+1) j<;>cases G.painted i (j+1)<;>rfl
 ·unfold Py
  dsimp only
  rw[X2 (i:=i) (j:=G.height-1+1) (.inr (by omega)),X4,Bool.false_and]
 ·unfold Py
  dsimp only
  rw[X2 (i:=G.width-1+1) (j:=j) (.inl (by omega)),Bool.false_and,X4]
theorem edgeP_eq{G:Vamato.Grid}(hG:GOk G):4*((cnt G.width G.height G.painted:Nat):Int)-2*((Ra G.width G.height G.painted:Nat):Int)=((Vamato.edgeOf G:Nat):Int):=by
 rw[Oj hG]
 have h:=O7 G
 have h2:Ma.sumTo G.height (fun j=>Ma.sumTo G.width fun i=>if G.painted i j=true then nbs G i j else 0)<=4*cnt G.width G.height G.painted:=by
  rw[VJ]
  have step:∀(n:Nat)(f g:Nat->Nat),(∀i,f i<=4*g i)->Ma.sumTo n f<=4*Ma.sumTo n g:=fun n f g hfg=>by
   induction n with
   |zero=>exact Zl _
   |succ n ih=>rw[Ma.sumTo,Ma.sumTo];have:=hfg n;omega
  refine step _ _ _ fun j=>step _ _ _ fun i=>?_
  have:=Kd G i j
  cases G.painted i j
  ·simp[b2n]
  ·simp[b2n];omega
 unfold Vamato.edgeOf
 rw[Nq]
 omega
end
end Cp
end
section
namespace Cp
open PySem PySem.Spec PyProof.Rows L2 Ma
section
variable{P:Program}{w:World}{K:PySem.W.Frag}{mg:Str->Option Value}{base:Heap}
noncomputable def TQ(rs:List (Nat×Nat)):List Int:=rs.flatMap fun r=>[(r.1:Int),(r.2:Int)]
theorem Lb(rs:List (Nat×Nat))(r:Nat×Nat):TQ (rs++[r])=TQ rs++[(r.1:Int),(r.2:Int)]:=by
 unfold TQ
 rw[List.flatMap_append]
 simp
theorem OC(rs:List (Nat×Nat)):(TQ rs).length=2*rs.length:=by
 induction rs with
 |nil=>rfl
 |cons r rs ih=>
  unfold TQ at ih⊢
  rw[List.flatMap_cons,Zj,ih]
  simp only[Zo,Yc]
  omega
noncomputable def rowB(n:Nat)(f:Nat->Bool):List Bool:=(List.range n).map f
theorem S7{n k:Nat}{f:Nat->Bool}(h:k<n):(rowB n f).drop k=f k::(rowB n f).drop (k+1):=by
 unfold rowB
 rw[List.drop_eq_getElem_cons (by simpa using h)]
 simp
noncomputable def rest(n:Nat)(f:Nat->Bool)(k L:Nat):List (Nat×Nat):=if k<=n then Vamato.runsFrom k (if L=0 then none else some (k-L)) ((rowB n f).drop k)else[]
theorem rest_on{n k L:Nat}{f:Nat->Bool}(hk:k<n)(hL:L<=k)(h:f k=true):rest n f k L=rest n f (k+1) (L+1):=by
 unfold rest
 rw[if_pos (show k<=n by omega),if_pos (show k+1<=n by omega),S7 hk,if_neg (Nat.succ_ne_zero L),h]
 by_cases e:L=0
 ·subst e
  rw[if_pos rfl,Vamato.runsFrom,if_pos rfl]
  rfl
 ·rw[if_neg e,Vamato.runsFrom,if_pos rfl]
  congr 2
  omega
theorem rest_off{n k L:Nat}{f:Nat->Bool}(hk:k<=n)(hL:L<=k)(h0:0<L)(h:k<n->f k=false):rest n f k L=(k-L,L)::rest n f (k+1) 0:=by
 unfold rest
 rw[if_pos hk,if_neg (show¬L=0 by omega),if_pos rfl]
 by_cases e:k<n
 ·rw[if_pos (by omega),S7 e,h e,Vamato.runsFrom,if_neg (by simp)]
  congr 2
  omega
 ·rw[if_neg (by omega),Vd (by unfold rowB;simp;omega),Vamato.runsFrom]
  congr 2
  omega
theorem rest_no{n k:Nat}{f:Nat->Bool}(hk:k<=n)(h:k<n->f k=false):rest n f k 0=rest n f (k+1) 0:=by
 unfold rest
 rw[if_pos hk,if_pos rfl]
 by_cases e:k<n
 ·rw[if_pos (by omega),S7 e,h e,Vamato.runsFrom,if_neg (by simp),if_pos rfl]
 ·rw[if_neg (by omega),Vd (by unfold rowB;simp;omega),Vamato.runsFrom]
  split<;>rfl
noncomputable abbrev PQ:Stmt:=top 25
theorem scRuns:ZP ["row","runs","length","i","cell"] ["row"] (Zh PQ):=⟨rfl,rfl,rfl,by decide +kernel,rfl,by decide +kernel,by decide +kernel⟩
noncomputable def MD:Sp:=fun vs H Q _=>∃(a:Addr)(n:Nat)(f:Nat->Bool),vs=[.ref a]/\LI H a (rowP n f)/\n<=40/\∀(H':Hp)(q:Addr),Same H H'->H q=none->LI H' q (TQ (Vamato.runsFrom 0 none (rowB n f)))->(TQ (Vamato.runsFrom 0 none (rowB n f))).length<=90->Q (.ref q) H'
theorem ok_runs{f:Addr}{fd:FuncData}(F:Fun K "runs_of" "runs_of" PQ f fd)(T:TxtQ mg):FnOk P w K mg base CX0 1 f fd ["row"] MD:=by
 refine F.ok scRuns (fun vs H Q E h=>?_) (fun cdv A outer s H vs Q E hr h=>?_)
 ·obtain⟨a,n,f,rfl,_⟩:=h
  rfl
 ·obtain⟨a,n,f,rfl,hL,hn,k⟩:=h
  have nd:=scRuns.nd
  refine⟨_,(Zk (ZZ (i:=1) nd rfl (Or.inl rfl) (Yp Zn))
   (Zk (ZZ (i:=2) nd rfl (Or.inl rfl) ZE)
   (Zk (VU YH rfl (Sm (by rfl) T.n_enumerate (Zb (Xf T4 (pv 0) (Yp (Zb (pe_g rfl T.g_CLEAR) Zn))) Zn)) (Qv (n:=2) rfl (YO (Z2 (i:=3) nd rfl (Or.inl rfl)) (YO (Z2 (i:=4) nd rfl (Or.inl rfl)) WD)))
   (Zr (Xm (Yx UG (pv 4) (pe_g rfl T.g_PAINTED) (YU _)) (Zr (MO (i:=2) nd rfl (Or.inl rfl) ZE M8)) (Zr (Xm (Yx Qy (pv 2) ZE (YU _)) (Zk (Xx (Um Z9 XS XT Uo (pv 1) (Zb (Yp (Zb (Xf VA (pv 3) (pv 2)) (Zb (pv 2) Zn))) Zn)))
   (Zr (ZZ (i:=2) nd rfl (Or.inl rfl) ZE))) Yy)))))
   (Zr (ZN (pv 1)))))),?_⟩
  refine⟨ZG _,fun p hp=>?_⟩
  have s0:Same H (L2.upd H p (.lst [])):=Same.new hp
  have hp0:L2.upd H p (.lst []) p=some (.lst []):=Zf
  generalize L2.upd H p (.lst [])=H0 at s0 hp0⊢
  refine⟨_,rfl,Xa _,fun c hc=>⟨a,c,_,_,rfl,rfl,Same.new hc _ _ (s0 _ _ hL),Zf,?_,fun q hq=>?_⟩⟩
  ·rw[Za,Yh]
   exact Zi (show _<=50 by simp only[Zo,Yc];omega) (by decide)
  have s1:=(Same.new (o:=.lst [V.int 0]) hc).trans (Same.new (o:=.lst (ZQ (rowP n f)++[V.int 0])) hq)
  have hq1:(L2.upd (L2.upd H0 c (.lst [V.int 0])) q (.lst (ZQ (rowP n f)++[V.int 0]))) q=some (.lst (ZQ (rowP n f++[0]))):=by
   rw[Zf]
   simp[ZQ]
  have npq:q≠p:=Yq (ZD (show(L2.upd H0 c (.lst [V.int 0])) p=_ from Same.new hc _ _ hp0) hq)
  generalize L2.upd (L2.upd H0 c (.lst [V.int 0])) q (.lst (ZQ (rowP n f)++[V.int 0]))=H1 at s1 hq1⊢
  have hp1:=s1 _ _ hp0
  have s01:=s0.trans s1
  have eget:∀i,i<=n->(rowP n f++[0])[i]?=some (b2i (decide (i<n)&&f i)):=fun i hi=>by
   by_cases e:i<n
   ·rw[Xk (by rw[Yh];exact e),X6 e,decide_eq_true e,Bool.true_and]
   ·have:i=n:=by omega
    subst this
    rw[XI (by rw[Yh];exact Zl _),Yh,Nat.sub_self,decide_eq_false e]
    rfl
  refine⟨q,_,rfl,SqL.of hq1,N8 (K:=K) (a:=q) (xs:=ZQ (rowP n f++[0]))
   (fun i σ H'=>∃(v3 v4:Option V)(rs:List (Nat×Nat))(L:Nat),σ=[some (.ref a),some (.ref p),some (.int (L:Int)),v3,v4]/\L<=i/\rs.length<=i/\But p H1 H'/\LI H' p (TQ rs)/\rs++rest n f i L=Vamato.runsFrom 0 none (rowB n f))
   ⟨none,none,[],0,rfl,Zl _,Zl _,fun _ _ e _=>e,hp1,?_⟩ (fun i σ H' _ ⟨_,_,_,_,_,_,_,bt,_⟩=>SqL.of (bt _ _ hq1 npq)) ?_ ?_⟩
  ·unfold rest
   rw[if_pos (ZG _),if_pos rfl]
   rfl
  ·rintro i x σ H' t hx ⟨v3,v4,rs,L,rfl,hLi,hrl,bt,hLI,er⟩ ht
   obtain⟨z,hz,rfl⟩:=int_at hx
   have hin:i<=n:=by
    have:=(Zd.mp hz).1
    rw[Zj,Yh]at this
    simp only[Zo,Yc]at this
    omega
   rw[eget i hin]at hz
   cases hz
   have bt2:But p H1 (L2.upd H' t (.tup [.int (i:Int),.int (b2i (decide (i<n)&&f i))])):=fun b o e n=>Same.new ht _ _ (bt _ _ e n)
   have hLI2:LI (L2.upd H' t (.tup [.int (i:Int),.int (b2i (decide (i<n)&&f i))])) p (TQ rs):=Same.new ht _ _ hLI
   generalize L2.upd H' t (.tup [.int (i:Int),.int (b2i (decide (i<n)&&f i))])=H2 at bt2 hLI2⊢
   refine⟨_,rfl,rfl,_,rfl,ite2 (fun e=>?_) (fun e=>?_)⟩
   ·have e':(decide (i<n)&&f i)=true:=by
     cases q:(decide (i<n)&&f i)with
     |true=>rfl
     |false=>rw[q]at e;simp[b2i]at e
    rw[Zv,decide_eq_true_eq]at e'
    refine⟨_,rfl,_,_,rfl,rfl,some (.int (i:Int)),some (.int (b2i (decide (i<n)&&f i))),rs,L+1,?_,by omega,by omega,bt2,hLI2,?_⟩
    ·show[some (V.ref a),some (.ref p),some (.int ((L:Int)+1)),_,_]=_
     rw[show(L:Int)+1=((L+1:Nat):Int) by omega]
    ·rw[<-rest_on e'.1 hLi e'.2]
     exact er
   ·have e':i<n->f i=false:=fun h=>by
     cases q:f i with
     |false=>rfl
     |true=>rw[q,decide_eq_true h]at e;simp[b2i]at e
    refine⟨_,rfl,_,_,rfl,rfl,_,rfl,ite2 (fun e2=>?_) (fun e2=>?_)⟩
    ·have hL0:0<L:=by have:=of_decide_eq_true e2;omega
     refine⟨_,rfl,.inl ⟨rfl,_,SqL.of hLI2⟩,_,rfl,_,rfl,_,_,rfl,rfl,_,rfl,Ww _ _,fun d hd=>⟨p,d,_,_,rfl,rfl,Same.new hd _ _ hLI2,Zf,?_,_,_,rs++[(i-L,L)],0,rfl,ZG _,by rw[Zj];simp only[Zo,Yc];omega,fun b o e n=>?_,?_,?_⟩⟩
     ·rw[Za,OC]
      exact Zi (show _<=100 by simp only[Zo,Yc];omega) (by decide)
     ·rw[Zt n]
      exact Same.new hd _ _ (bt2 _ _ e n)
     ·show L2.upd _ p _ p=_
      rw[Zf,Lb]
      show some (HO.lst (ZQ (TQ rs)++[.int ((i:Int)-(L:Int)),.int (L:Int)]))=_
      rw[show(i:Int)-(L:Int)=((i-L:Nat):Int) by omega]
      simp[ZQ]
     ·rw[Xv,List.singleton_append,<-rest_off hin hLi hL0 e']
      exact er
    ·have hL0:L=0:=by simp at e2;omega
     subst hL0
     refine⟨_,_,rs,0,rfl,ZG _,by omega,bt2,hLI2,?_⟩
     rw[<-rest_no hin e']
     exact er
  ·rintro σ H' ⟨v3,v4,rs,L,rfl,hLi,hrl,bt,hLI,er⟩
   rw[Za,Zj,Yh]at hrl
   have er':rs=Vamato.runsFrom 0 none (rowB n f):=by
    rw[<-er]
    unfold rest
    rw[if_neg (by rw[Za,Zj,Yh];simp),Y6]
   rw[er']at hLI hrl
   simp only[Zo,Yc]at hrl
   refine⟨_,rfl,k H' p (fun b o e=>bt _ _ (s01 _ _ e) (ZD e hp)) hp hLI ?_⟩
   rw[OC]
   omega
end
end Cp
end
section
namespace Cp
open PySem PySem.Spec PyProof.Rows L2 Ma
section
variable{P:Program}{w:World}{K:PySem.W.Frag}{mg:Str->Option Value}{base:Heap}{cGrid cSrc cBox aSIGN aRULE:Addr}
noncomputable abbrev Ob:Stmt:=top 77
theorem scArea:ZP ["grid","source"] ["grid","source"] (Zh Ob):=⟨rfl,rfl,rfl,by decide +kernel,rfl,by decide +kernel,by decide +kernel⟩
theorem ok_area{f:Addr}{fd:FuncData}(F:Fun K "area" "area" Ob f fd)(TC:TxtC K mg cGrid)(T:TxtM mg)(C_painted_in:Callee P w K mg base "painted_in" 1 ["rows"] Ql):FnOk P w K mg base CX0 8 f fd ["grid","source"] (Yi K cGrid cSrc 10):=by
 refine F.ok scArea (fun vs H Q E h=>?_) (fun cdv A outer s0 H vs Q E hr h=>?_)
 ·obtain⟨g,s,a,G,R,as,l,i,c,t,rfl,_⟩:=h
  rfl
 ·obtain⟨g,s,a,G,R,as,l,i,c,t,rfl,W,hgv,k⟩:=h
  obtain⟨rfl,rfl⟩:=U1 hgv rfl
  obtain⟨dx,hg⟩:=W.grid.at_
  have ok:=W.grid.ok
  have est:VamatoNeutral.step G [[10]]=(G,[0,Vamato.nat G.area]):=rfl
  rw[est]at k
  refine⟨_,(Zr (ZN (Yp (Zb ZE (Zb (ZU C_painted_in hr rfl (Zb (YT (pv 0) rfl) Zn)) Zn))))),?_⟩
  refine⟨_,rfl,g,cGrid,dx,_,_,rfl,hg,TC.cl,TC.a_rows,Wr G R,R,as,G.width,G.height,G.painted,rfl,W.grid.rows,ok.w2,ok.h2,fun H1 s1=>⟨Ww _ _,fun q hq=>?_⟩⟩
  have f1:Fm g s R as R as H H1:=Fm.same s1
  refine k _ q R as i ((W.same s1).fin hq) rfl (f1.fin hq) (f1.sf hq) ?_
  show L2.upd _ q _ q=_
  rw[Zf,Nq]
  rfl
noncomputable abbrev S0:Stmt:=top 84
theorem scCEdge:ZP ["grid","source"] ["grid","source"] (Zh S0):=⟨rfl,rfl,rfl,by decide +kernel,rfl,by decide +kernel,by decide +kernel⟩
theorem ok_cedge{f:Addr}{fd:FuncData}(F:Fun K "edge" "edge" S0 f fd)(TC:TxtC K mg cGrid)(T:TxtM mg)(C_edge_of:Callee P w K mg base "edge_of" 4 ["rows"] ML):FnOk P w K mg base CX0 8 f fd ["grid","source"] (Yi K cGrid cSrc 17):=by
 refine F.ok scCEdge (fun vs H Q E h=>?_) (fun cdv A outer s0 H vs Q E hr h=>?_)
 ·obtain⟨g,s,a,G,R,as,l,i,c,t,rfl,_⟩:=h
  rfl
 ·obtain⟨g,s,a,G,R,as,l,i,c,t,rfl,W,hgv,k⟩:=h
  obtain⟨rfl,rfl⟩:=U1 hgv rfl
  obtain⟨dx,hg⟩:=W.grid.at_
  have ok:=W.grid.ok
  have est:VamatoNeutral.step G [[17]]=(G,[0,Vamato.nat (Vamato.edgeOf G)]):=rfl
  rw[est]at k
  refine⟨_,(Zr (ZN (Yp (Zb ZE (Zb (ZU C_edge_of hr rfl (Zb (YT (pv 0) rfl) Zn)) Zn))))),?_⟩
  refine⟨_,rfl,g,cGrid,dx,_,_,rfl,hg,TC.cl,TC.a_rows,Wr G R,R,as,G.width,G.height,G.painted,rfl,W.grid.rows,ok.w2,ok.h2,fun H1 s1=>⟨Ww _ _,fun q hq=>?_⟩⟩
  have f1:Fm g s R as R as H H1:=Fm.same s1
  refine k _ q R as i ((W.same s1).fin hq) rfl (f1.fin hq) (f1.sf hq) ?_
  show L2.upd _ q _ q=_
  rw[Zf,edgeP_eq ok]
  rfl
noncomputable abbrev SU:Stmt:=top 85
theorem scCount:ZP ["grid","source","c","p","q"] ["grid","source"] (Zh SU):=⟨rfl,rfl,rfl,by decide +kernel,rfl,by decide +kernel,by decide +kernel⟩
theorem ok_count{f:Addr}{fd:FuncData}(F:Fun K "count" "count" SU f fd)(TC:TxtC K mg cGrid)(T:TxtM mg)(C_painted_in:Callee P w K mg base "painted_in" 1 ["rows"] Ql)(C_pairs_in:Callee P w K mg base "pairs_in" 3 ["rows"] OU)(C_squares_in:Callee P w K mg base "squares_in" 3 ["rows"] MB):
  FnOk P w K mg base CX0 8 f fd ["grid","source"] (Yi K cGrid cSrc 18):=by
 refine F.ok scCount (fun vs H Q E h=>?_) (fun cdv A outer s0 H vs Q E hr h=>?_)
 ·obtain⟨g,s,a,G,R,as,l,i,c,t,rfl,_⟩:=h
  rfl
 ·obtain⟨g,s,a,G,R,as,l,i,c,t,rfl,W,hgv,k⟩:=h
  obtain⟨rfl,rfl⟩:=U1 hgv rfl
  obtain⟨dx,hg⟩:=W.grid.at_
  have ok:=W.grid.ok
  have nd:=scCount.nd
  have est:VamatoNeutral.step G [[18]]=(G,[0,Vamato.nat G.area,Vamato.nat (Vamato.pairsIn G),Vamato.nat (Vamato.squaresIn G),Vamato.nat G.area-Vamato.nat (Vamato.pairsIn G)+Vamato.nat (Vamato.squaresIn G)]):=rfl
  rw[est]at k
  refine⟨_,(Zk (ZZ (i:=2) nd rfl (Or.inl rfl) (ZU C_painted_in hr rfl (Zb (YT (pv 0) rfl) Zn)))
   (Zk (ZZ (i:=3) nd rfl (Or.inl rfl) (ZU C_pairs_in hr rfl (Zb (YT (pv 0) rfl) Zn)))
   (Zk (ZZ (i:=4) nd rfl (Or.inl rfl) (ZU C_squares_in hr rfl (Zb (YT (pv 0) rfl) Zn)))
   (Zr (ZN (Yp (Zb ZE (Zb (pv 2) (Zb (pv 3) (Zb (pv 4) (Zb (Xf Vi (Xf VA (pv 2) (pv 3)) (pv 4)) Zn))))))))))),?_⟩
  refine⟨_,rfl,g,cGrid,dx,_,_,rfl,hg,TC.cl,TC.a_rows,Wr G R,R,as,G.width,G.height,G.painted,rfl,W.grid.rows,ok.w2,ok.h2,fun H1 s1=>?_⟩
  refine⟨_,rfl,g,cGrid,dx,_,_,rfl,s1 _ _ hg,TC.cl,TC.a_rows,Wr G R,R,as,G.width,G.height,G.painted,rfl,W.grid.rows.same s1,ok.w2,ok.h2,fun H2 s2=>?_⟩
  have s2:=s1.trans s2
  refine⟨_,rfl,g,cGrid,dx,_,_,rfl,s2 _ _ hg,TC.cl,TC.a_rows,Wr G R,R,as,G.width,G.height,G.painted,rfl,W.grid.rows.same s2,ok.w2,ok.h2,fun H3 s3=>?_⟩
  have s3:=s2.trans s3
  refine⟨_,rfl,_,rfl,_,rfl,_,rfl,_,rfl,_,_,rfl,rfl,_,rfl,_,_,rfl,rfl,(by show 5<=sizeLine;decide),fun q hq=>?_⟩
  have f3:Fm g s R as R as H H3:=Fm.same s3
  refine k _ q R as i ((W.same s3).fin hq) rfl (f3.fin hq) (f3.sf hq) ?_
  show L2.upd _ q _ q=_
  rw[Zf,Nq,Oj ok,NC ok]
  rfl
theorem M7{G:Vamato.Grid}(h:GOk G)(j:Int):Vamato.isCell G 0 j=RG G j:=by
 unfold Vamato.isCell RG
 have:=h.w1
 rw[decide_eq_true (show(0:Int)<=0 by omega),decide_eq_true (show(0:Int)<(G.width:Int) by omega)]
 rfl
noncomputable abbrev SW:Stmt:=top 78
theorem scCRuns:ZP ["grid","source","j"] ["grid","source"] (Zh SW):=⟨rfl,rfl,rfl,by decide +kernel,rfl,by decide +kernel,by decide +kernel⟩
theorem ok_cruns{f:Addr}{fd:FuncData}(F:Fun K "runs" "runs" SW f fd)(TC:TxtC K mg cGrid)(T:TxtM mg)(M_Source_take_number:Y5 P w K mg base cSrc "take_number" 1 ["self"] (WO K cSrc))(M_Grid_has_row:Y5 P w K mg base cGrid "has_row" 1 ["self","j"] (OW cGrid))
  (C_runs_of:Callee P w K mg base "runs_of" 1 ["row"] MD):FnOk P w K mg base CX0 8 f fd ["grid","source"] (Yi K cGrid cSrc 11):=by
 refine F.ok scCRuns (fun vs H Q E h=>?_) (fun cdv A outer s0 H vs Q E hr h=>?_)
 ·obtain⟨g,s,a,G,R,as,l,i,c,t,rfl,_⟩:=h
  rfl
 ·obtain⟨g,s,a,G,R,as,l,i,c,t,rfl,W,hgv,k⟩:=h
  obtain⟨x,hx,rfl,rfl⟩:=Nj hgv rfl
  have nd:=scCRuns.nd
  have ok:=W.grid.ok
  have est:VamatoNeutral.step G [[11,x]]=(G,if Vamato.isCell G 0 x=false then[-2]else 0::(Vamato.runsOf G x.toNat).flatMap fun r=>[Vamato.nat r.1,Vamato.nat r.2]):=rfl
  rw[est,M7 ok]at k
  refine⟨_,(Zk (ZZ (i:=2) nd rfl (Or.inl rfl) (Yu (pv 1) M_Source_take_number hr))
   (Zk (Xm (Vh (Wj (YW (pv 0) M_Grid_has_row hr (Zb (pv 2) Zn)))) (Zr (ZN (Yp (Zb (pe_g rfl T.g_NOT_ON_GRID) Zn)))) Yy)
   (Zr (ZN (Xf T4 (Yp (Zb ZE Zn)) (ZU C_runs_of hr rfl (Zb (Xt YQ (YT (pv 0) rfl) (pv 2) (fun _ _=>rfl)) Zn))))))),?_⟩
  refine WZ W (k:=1) rfl hx fun H1 W1 f1=>?_
  obtain⟨dx,hg⟩:=W1.grid.at_
  refine⟨_,rfl,g,dx,_,rfl,hg,Wl G R,_,rfl,g,G,R,as,x,rfl,W1.grid,_,rfl,ite2 (fun e=>?_) (fun e=>?_)⟩
  ·have e':=UB e
   rw[if_pos e']at k
   exact⟨Xa _,fun q hq=>k _ q R as (i+1) (W1.fin hq) rfl (f1.fin hq) (f1.sf hq) Zf⟩
  ·have e':=UC e
   rw[if_neg (by rw[e'];simp)]at k
   have e2:=e'
   unfold RG at e2
   rw[Zv,decide_eq_true_eq,decide_eq_true_eq]at e2
   obtain⟨n,rfl⟩:∃n:Nat,x=(n:Int):=⟨x.toNat,by omega⟩
   have hn:n<G.height:=by omega
   obtain⟨rw',hrw⟩:∃r,as[n]?=some r:=⟨_,Zu (by rw[W.grid.rows.len];exact hn)⟩
   refine⟨Xa _,fun c hc=>?_⟩
   have sc:Same H1 (L2.upd H1 c (.lst [.int 0])):=Same.new hc
   have hcc:L2.upd H1 c (.lst [.int 0]) c=some (.lst [.int 0]):=Zf
   generalize L2.upd H1 c (.lst [.int 0])=H2 at sc hcc⊢
   have W2:=W1.same sc
   refine⟨_,rfl,g,cGrid,dx,_,_,rfl,sc _ _ hg,TC.cl,TC.a_rows,Wr G R,_,rfl,R,_,_,_,rfl,rfl,SqL.of W2.grid.rows.at_,Xu (j:=n) (v:=.ref rw') rfl (by rw[ZA,hrw];rfl),rw',G.width,_,rfl,W2.grid.rows.row n rw' hrw,ok.w2,fun H3 q3 s3 hq3 hL3 hlen=>⟨c,q3,_,_,rfl,rfl,s3 _ _ hcc,hL3,?_,fun q hq=>?_⟩⟩
   ·rw[Za]
    exact Zi (show _<=100 by simp only[Zo,Yc];omega) (by decide)
   ·have f3:=f1.trans (Fm.same (sc.trans s3))
    refine k _ q R as (i+1) ((W2.same s3).fin hq) rfl (f3.fin hq) (f3.sf hq) ?_
    show L2.upd _ q _ q=_
    rw[Zf]
    rfl
end
end Cp
end
section
namespace Cp
open PySem PySem.Spec PyProof.Rows L2 Ma
section
variable{P:Program}{w:World}{K:PySem.W.Frag}{mg:Str->Option Value}{base:Heap}{cGrid aNB aMT:Addr}
structure TxtW(K:PySem.W.Frag)(mg:Str->Option Value)(aNB:Addr)(aMT:Addr):Prop where
 n_len:mg "len"=none
 n_any:mg "any"=none
 n_dict:mg "dict"=none
 g_CLEAR:GV mg "CLEAR" (.int 0)
 g_PAINTED:GV mg "PAINTED" (.int 1)
 g_TO_NEIGHBOURS:GV mg "TO_NEIGHBOURS" (.ref aNB)
 g_TO_MEETING:GV mg "TO_MEETING" (.ref aMT)
 s_NB:UE K aNB [(-1,0),(1,0),(0, -1),(0,1)]
 s_MT:UE K aMT [(-1, -1),(-1,0),(-1,1),(0, -1),(0,1),(1, -1),(1,0),(1,1)]
noncomputable def kI(x y:Int):List Key:=[.inl x,.inl y]
noncomputable def kc(c:Nat×Nat):List Key:=kI (c.1:Int) (c.2:Int)
theorem kI_inj{x y a b:Int}(h:kI x y=kI a b):x=a/\y=b:=by
 unfold kI at h
 injection h with h1 h2
 injection h2 with h2 _
 injection h1 with h1
 injection h2 with h2
 exact⟨h1,h2⟩
theorem QK{c d:Nat×Nat}(h:kc c=kc d):c=d:=by
 obtain⟨h1,h2⟩:=kI_inj h
 obtain⟨a,b⟩:=c
 obtain⟨x,y⟩:=d
 simp only at h1 h2
 have e1:a=x:=by omega
 have e2:b=y:=by omega
 rw[e1,e2]
noncomputable def XV(ls:List (Nat×Nat)):List (List Key×V):=ls.map fun c=>(kc c,.bl true)
theorem Nf{ls:List (Nat×Nat)}{c:Nat×Nat}(h:c∈ls):valV (XV ls) (kc c)=some (.bl true):=by
 induction ls with
 |nil=>cases h
 |cons d r ih=>
  unfold XV
  rw[ZB]
  by_cases e:d=c
  ·rw[R7 (by rw[e])]
  ·rw[Se (fun z=>e (QK z))]
   exact ih ((Zw.mp h).resolve_left fun z=>e z.symm)
theorem N0{ls:List (Nat×Nat)}{k:List Key}(h:∀c∈ls,kc c≠k):valV (XV ls) k=none:=by
 induction ls with
 |nil=>rfl
 |cons d r ih=>
  unfold XV
  rw[ZB,Se (h d Zm)]
  exact ih fun c hc=>h c (Ze _ hc)
theorem Ov(ls:List (Nat×Nat))(c:Nat×Nat):W7 (XV ls) (kc c)=XV (ls.filter fun d=>decide (d≠c)):=by
 induction ls with
 |nil=>rfl
 |cons d r ih=>
  unfold XV at ih⊢
  rw[ZB]
  by_cases e:d=c
  ·rw[OD (by rw[e]),Yk (by simp[e])]
   exact ih
  ·rw[OE (fun z=>e (QK z)),Yl (by simpa using e),ZB,ih]
noncomputable def R4(cor:Bool)(ss:List (Int×Int)):Prop:=∀c d:Nat×Nat,(∃s∈ss,(c.1:Int)+s.1=(d.1:Int)/\(c.2:Int)+s.2=(d.2:Int))↔Adj cor c d
theorem st0{a b:Nat}:(a:Int)+0=(b:Int)↔a=b:=by omega
theorem stP{a b:Nat}:(a:Int)+1=(b:Int)↔b=a+1:=by omega
theorem stM{a b:Nat}:(a:Int)+(-1)=(b:Int)↔a=b+1:=by omega
theorem steps_nb:R4 false [(-1,0),(1,0),(0, -1),(0,1)]:=fun⟨a,b⟩ ⟨c,d⟩=>by
 unfold Adj
 simp only[Zw,Xe,or_false,exists_eq_or_imp,exists_eq_left,ZR,false_and,st0,stP,stM]
 constructor
 ·rintro(⟨rfl,rfl⟩|⟨rfl,rfl⟩|⟨rfl,rfl⟩|⟨rfl,rfl⟩)
  ·exact .inr ⟨rfl,.inl rfl⟩
  ·exact .inr ⟨rfl,.inr rfl⟩
  ·exact .inl ⟨rfl,.inl rfl⟩
  ·exact .inl ⟨rfl,.inr rfl⟩
 ·rintro(⟨rfl,(rfl|rfl)⟩|⟨rfl,(rfl|rfl)⟩)
  ·exact .inr (.inr (.inl ⟨rfl,rfl⟩))
  ·exact .inr (.inr (.inr ⟨rfl,rfl⟩))
  ·exact .inl ⟨rfl,rfl⟩
  ·exact .inr (.inl ⟨rfl,rfl⟩)
theorem steps_mt:R4 true [(-1, -1),(-1,0),(-1,1),(0, -1),(0,1),(1, -1),(1,0),(1,1)]:=fun⟨a,b⟩ ⟨c,d⟩=>by
 unfold Adj
 simp only[Zw,Xe,or_false,exists_eq_or_imp,exists_eq_left,true_and,st0,stP,stM]
 constructor
 ·rintro(⟨rfl,rfl⟩|⟨rfl,rfl⟩|⟨rfl,rfl⟩|⟨rfl,rfl⟩|⟨rfl,rfl⟩|⟨rfl,rfl⟩|⟨rfl,rfl⟩|⟨rfl,rfl⟩)
  ·exact .inr (.inr ⟨.inl rfl,.inl rfl⟩)
  ·exact .inr (.inl ⟨rfl,.inl rfl⟩)
  ·exact .inr (.inr ⟨.inl rfl,.inr rfl⟩)
  ·exact .inl ⟨rfl,.inl rfl⟩
  ·exact .inl ⟨rfl,.inr rfl⟩
  ·exact .inr (.inr ⟨.inr rfl,.inl rfl⟩)
  ·exact .inr (.inl ⟨rfl,.inr rfl⟩)
  ·exact .inr (.inr ⟨.inr rfl,.inr rfl⟩)
 ·rintro(⟨rfl,(rfl|rfl)⟩|⟨rfl,(rfl|rfl)⟩|⟨(rfl|rfl),(rfl|rfl)⟩)
  ·exact .inr (.inr (.inr (.inl ⟨rfl,rfl⟩)))
  ·exact .inr (.inr (.inr (.inr (.inl ⟨rfl,rfl⟩))))
  ·exact .inr (.inl ⟨rfl,rfl⟩)
  ·exact .inr (.inr (.inr (.inr (.inr (.inr (.inl ⟨rfl,rfl⟩))))))
  ·exact .inl ⟨rfl,rfl⟩
  ·exact .inr (.inr (.inl ⟨rfl,rfl⟩))
  ·exact .inr (.inr (.inr (.inr (.inr (.inl ⟨rfl,rfl⟩)))))
  ·exact .inr (.inr (.inr (.inr (.inr (.inr (.inr ⟨rfl,rfl⟩))))))
theorem nodup_len{α:Type}[DecidableEq α]:∀{l m:List α},l.Nodup->(∀x∈l,x∈m)->l.length<=m.length
 |[],_,_,_=>ZG _
 |x::l,m,hn,h=>by
  rw[YB]at hn
  have hx:=h x Zm
  have ih:=nodup_len (m:=m.erase x) hn.2 fun y hy=>(List.mem_erase_of_ne (show y≠x from fun e=>hn.1 (e▸hy))).mpr (h y (Ze _ hy))
  rw[List.length_erase_of_mem hx]at ih
  have:0<m.length:=Vc hx
  rw[Zo]
  omega
structure Grow(wd ht:Nat)(cor:Bool)(al:Nat->Nat->Bool)(ls:List (Nat×Nat))(c0:Nat×Nat)(cs:List (Nat×Nat))(dn:Nat):Prop where
 nd:cs.Nodup
 has:c0∈cs
 sub:∀d∈cs,d∈ls/\Comp wd ht cor al c0 d
 le:dn<=cs.length
 cl:∀d∈cs.take dn,∀e∈ls,Adj cor d e->e∈cs
section
variable{wd ht:Nat}{cor:Bool}{al:Nat->Nat->Bool}{ls:List (Nat×Nat)}{c0:Nat×Nat}{cs:List (Nat×Nat)}{dn:Nat}
theorem Grow.add(h:Grow wd ht cor al ls c0 cs dn)(hls:∀c∈ls,c.1<wd/\c.2<ht/\al c.1 c.2=true){d e:Nat×Nat}(hd:d∈cs)(he:e∈ls)(hn:e∉cs)(ad:Adj cor d e):Grow wd ht cor al ls c0 (cs++[e]) dn:=by
 refine⟨Nc h.nd hn,Yo _ h.has,fun x hx=>?_,by rw[Zj];have:=h.le;omega,fun x hx y hy a=>?_⟩
 ·rcases Zs.mp hx with hx|hx
  ·exact h.sub x hx
  ·have:x=e:=by simpa using hx
   subst this
   have:=hls x he
   exact⟨he,.step (h.sub d hd).2 ad this.1 this.2.1 this.2.2⟩
 ·rw[List.take_append_of_le_length h.le]at hx
  exact Yo _ (h.cl x hx y hy a)
theorem Grow.next(h:Grow wd ht cor al ls c0 cs dn){c:Nat×Nat}(hc:cs[dn]?=some c)(hcl:∀e∈ls,Adj cor c e->e∈cs):Grow wd ht cor al ls c0 cs (dn+1):=by
 refine⟨h.nd,h.has,h.sub,(Zd.mp hc).1,fun x hx y hy a=>?_⟩
 rw[take_snoc hc]at hx
 rcases Zs.mp hx with hx|hx
 ·exact h.cl x hx y hy a
 ·have:x=c:=by simpa using hx
  subst this
  exact hcl y hy a
theorem Grow.le2(h:Grow wd ht cor al ls c0 cs dn):cs.length<=ls.length:=nodup_len h.nd fun x hx=>(h.sub x hx).1
end
noncomputable def WK(ls cs:List (Nat×Nat)):List (Nat×Nat):=ls.filter fun d=>decide (d∉cs)
theorem mem_minus{ls cs:List (Nat×Nat)}{d:Nat×Nat}:d∈WK ls cs↔d∈ls/\d∉cs:=by
 unfold WK
 rw[Yv,decide_eq_true_eq]
theorem QC(ls cs:List (Nat×Nat))(e:Nat×Nat):(WK ls cs).filter (fun d=>decide (d≠e))=WK ls (cs++[e]):=by
 unfold WK
 rw[List.filter_filter]
 refine List.filter_congr fun d _=>?_
 rw[Yd]
 simp only[Zv,decide_eq_true_eq,Zs,ZI,not_or]
 exact and_comm
theorem Rf(ls:List (Nat×Nat)):WK ls []=ls:=by
 unfold WK
 rw[List.filter_eq_self.mpr]
 intro a _
 simp
noncomputable abbrev SJ:Stmt:=top 31
theorem scTaken:ZP ["first","left_over","steps","part","done","cell","place"] ["first","left_over","steps"] (Zh SJ):=⟨rfl,rfl,rfl,by decide +kernel,rfl,by decide +kernel,by decide +kernel⟩
noncomputable def OR(K:PySem.W.Frag):Sp:=fun vs H Q _=>∃(t0 dl st:Addr)(c0:Nat×Nat)(ls:List (Nat×Nat))(ss:List (Int×Int))(wd ht:Nat)(cor:Bool)(al:Nat->Nat->Bool),vs=[.ref t0,.ref dl,.ref st]/\Tup H t0 c0/\H dl=some (.dT (XV ls))/\c0∈ls/\ls.length<=1600/\
 (∀c∈ls,c.1<wd/\c.2<ht/\al c.1 c.2=true)/\UE K st ss/\ss.length<=8/\R4 cor ss/\
 ∀H' p ts cs,But dl H H'->H p=none->YR H' p ts cs->Grow wd ht cor al ls c0 cs cs.length->H' dl=some (.dT (XV (WK ls cs)))->Q (.ref p) H'
theorem ok_taken{f:Addr}{fd:FuncData}(F:Fun K "taken_part" "taken_part" SJ f fd)(T:TxtW K mg aNB aMT)(C_stepped:Callee P w K mg base "stepped" 1 ["i","j","steps"] (OS K)):FnOk P w K mg base CX0 2 f fd ["first","left_over","steps"] (OR K):=by
 refine F.ok scTaken (fun vs H Q E h=>?_) (fun cdv A outer s H vs Q E hr h=>?_)
 ·obtain⟨t0,dl,st,c0,ls,ss,wd,ht,cor,al,rfl,_⟩:=h
  rfl
 ·obtain⟨t0,dl,st,c0,ls,ss,wd,ht,cor,al,rfl,ht0,hdl,hc0,hll,hls,hst,hsl,hso,k⟩:=h
  have nd:=scTaken.nd
  have hu:=hu_of hr
  refine⟨_,(Zk (Xx (NS hu (pv 1) (pv 0) ⟨rfl,rfl,rfl,rfl⟩))
   (Zk (ZZ (i:=3) nd rfl (Or.inl rfl) (Yp (Zb (pv 0) Zn)))
   (Zk (ZZ (i:=4) nd rfl (Or.inl rfl) ZE)
   (Zk (NP YH (Yx TH (pv 4) (Yf Yn (by rfl) T.n_len Xz (Zb (pv 3) Zn)) (YU _))
   (Zk (ZZ (i:=5) nd rfl (Or.inl rfl) (Xt YQ (pv 3) (pv 4) (fun _ _=>rfl)))
   (Zk (VU YH rfl (YN (ZU C_stepped hr rfl (Zb (Xt M5 (pv 5) ZE (fun _ _=>rfl)) (Zb (Xt M5 (pv 5) ZE (fun _ _=>rfl)) (Zb (pv 2) Zn))))) (Z2 (i:=6) nd rfl (Or.inl rfl))
   (Zr (Xm (TY (pc_din hu (pv 6) (pv 1))) (Zk (Xx (NS hu (pv 1) (pv 6) ⟨rfl,rfl,rfl,rfl⟩))
   (Zr (Xx (Um Z9 YK YL WJ (pv 3) (Zb (pv 6) Zn))))) Yy)))
   (Zr (MO (i:=4) nd rfl (Or.inl rfl) ZE M8)))))
   (Zr (ZN (pv 3))))))),?_⟩
  refine⟨_,rfl,dl,rfl,.inr ⟨_,.inl hdl⟩,_,rfl,XV ls,kc c0,t0,_,hdl,rfl,ht0,Nf hc0,?_⟩
  have b1:But dl H (L2.upd H dl (.dT (W7 (XV ls) (kc c0)))):=fun b o e n=>by rw[Zt n];exact e
  have hdl1:L2.upd H dl (.dT (W7 (XV ls) (kc c0))) dl=some (.dT (XV (WK ls [c0]))):=by
   rw[Zf,Ov,<-Rf ls,QC,Rf]
   rfl
  have fr1:∀q,L2.upd H dl (.dT (W7 (XV ls) (kc c0))) q=none->H q=none:=fun q hq=>by
   by_cases e:q=dl
   ·rw[e,Zf]at hq;cases hq
   ·rw[Zt e]at hq;exact hq
  generalize L2.upd H dl (.dT (W7 (XV ls) (kc c0)))=H1 at b1 hdl1 fr1⊢
  refine⟨_,rfl,Xa _,fun p hp=>?_⟩
  have hpH:=fr1 p hp
  have ntd:t0≠dl:=We ht0 hdl (by intro z;cases z)
  have npd:p≠dl:=fun z=>by rw[z,hdl1]at hp;cases hp
  let Iv:Nat->L2.St->Hp->Prop:=fun m σ H'=>∃(v5 v6:Option V)(dn:Nat)(ts:List Addr)(cs:List (Nat×Nat)),σ=[some (.ref t0),some (.ref dl),some (.ref st),some (.ref p),some (.int (dn:Int)),v5,v6]/\YR H' p ts cs/\H' dl=some (.dT (XV (WK ls cs)))/\But dl H H'/\Grow wd ht cor al ls c0 cs dn/\m=ls.length-dn
  refine⟨Iv,⟨ls.length,none,none,0,[t0],[c0],rfl,⟨Zf,.cons ?_ .nil⟩,by rw[Zt (Yq npd)];exact hdl1,fun b o e n=>?_,⟨by simp,ZI.mpr rfl,fun d hd=>?_,ZG _,fun d hd=>?_⟩,rfl⟩,?_⟩
  ·show L2.upd _ p _ t0=_
   rw[Zt (ZD (b1 _ _ ht0 ntd) hp)]
   exact b1 _ _ ht0 ntd
  ·rw[Zt (ZD (b1 _ _ e n) hp)]
   exact b1 _ _ e n
  ·have:d=c0:=by simpa using hd
   subst this
   exact⟨hc0,.refl⟩
  ·simp at hd
  rintro m σ H2 ⟨v5,v6,dn,ts,cs,rfl,hC,hD,hB,hG,rfl⟩
  have hlen:=Zy hC.each
  refine⟨_,rfl,_,rfl,p,_,rfl,.inl (SqL.of hC.at_),_,_,rfl,rfl,_,rfl,ite2 (fun e=>?_) (fun e=>?_)⟩
  ·have e:dn<cs.length:=by
    have:=of_decide_eq_true e
    rw[Za]at this
    omega
   have hle:=hG.le2
   obtain⟨c,hc⟩:∃c,cs[dn]?=some c:=⟨_,Zu e⟩
   obtain⟨t,htg⟩:∃t,ts[dn]?=some t:=⟨_,Zu (by rw[hlen];exact e)⟩
   obtain⟨c',hc',htup⟩:=Z4 hC.each htg
   have:c'=c:=ZC (hc'.symm.trans hc)
   subst this
   refine⟨fun σ' H'=>∃m',m'<ls.length-dn/\Iv m' σ' H',fun σ' H' h=>h,?_⟩
   refine⟨_,rfl,_,rfl,p,_,_,_,rfl,rfl,SqL.of hC.at_,Xu (j:=dn) (v:=.ref t) rfl (by rw[ZA,htg];rfl),?_⟩
   refine⟨_,rfl,t,_,_,_,rfl,rfl,SqT.of htup,Xu (j:=0) rfl rfl,_,rfl,t,_,_,_,rfl,rfl,SqT.of htup,Xu (j:=1) rfl rfl,_,rfl,(c'.1:Int),(c'.2:Int),st,ss,rfl,hst,hsl,fun H3 q ps s3 hq hq3 hps=>?_⟩
   have hpsl:=Zy hps
   have npq:q≠p:=fun z=>by rw[z,hC.at_]at hq;cases hq
   refine⟨q,rfl,⟨_,SqL.of hq3⟩,V0 (K:=K) (a:=q) (xs:=ZV ps)
    (fun n σ H'=>∃(v6:Option V)(ts:List Addr)(cs:List (Nat×Nat)),σ=[some (.ref t0),some (.ref dl),some (.ref st),some (.ref p),some (.int (dn:Int)),some (.ref t),v6]/\YR H' p ts cs/\H' dl=some (.dT (XV (WK ls cs)))/\But dl H H'/\(∀b o,H3 b=some o->b≠p->b≠dl->H' b=some o)/\Grow wd ht cor al ls c0 cs dn/\cs[dn]?=some c'/\
     ∀e∈ls,(∃s∈ss.take n,(c'.1:Int)+s.1=(e.1:Int)/\(c'.2:Int)+s.2=(e.2:Int))->e∈cs)
    ⟨v6,ts,cs,rfl,hC.same s3,s3 _ _ hD,fun b o e n=>s3 _ _ (hB b o e n),fun b o e _ _=>e,hG,hc,fun e _ h=>by simp at h⟩ (fun n σ H' _ ⟨_,_,_,_,_,_,_,kp,_⟩=>SqL.of (kp _ _ hq3 npq (We hq3 (s3 _ _ hD) (by intro z;cases z)))) ?_ ?_⟩
   ·rintro n y σ H4 hy ⟨v6,ts,cs,rfl,hC4,hD4,hB4,kp,hG4,hc4,hcl⟩
    obtain⟨t2,ht2,rfl⟩:=Xr hy
    obtain⟨d,hd,htup3⟩:=Z4 hps ht2
    have hlen4:=Zy hC4.each
    have htup4:=kp _ _ htup3 (We htup3 ((hC.same s3).at_) (by intro z;cases z)) (We htup3 (s3 _ _ hD) (by intro z;cases z))
    refine⟨_,rfl,_,rfl,dl,_,rfl,DGet.t (k:=kI ((c'.1:Int)+d.1) ((c'.2:Int)+d.2)) hD4 htup4,_,rfl,?_⟩
    by_cases he:∃e∈WK ls cs,kc e=kI ((c'.1:Int)+d.1) ((c'.2:Int)+d.2)
    ·obtain⟨e,hem,hek⟩:=he
     obtain⟨he1,he2⟩:=mem_minus.mp hem
     obtain⟨ex,ey⟩:=kI_inj hek
     have hv:=Nf hem
     rw[hek]at hv
     rw[hv]
     refine iteT ?_
     refine⟨_,rfl,dl,rfl,.inr ⟨_,.inl hD4⟩,_,rfl,_,kI ((c'.1:Int)+d.1) ((c'.2:Int)+d.2),t2,_,hD4,rfl,htup4,hv,?_⟩
     have hD5:L2.upd H4 dl (.dT (W7 (XV (WK ls cs)) (kI ((c'.1:Int)+d.1) ((c'.2:Int)+d.2)))) dl=some (.dT (XV (WK ls (cs++[e])))):=by
      rw[Zf,<-hek,Ov,QC]
     have kp5:∀b o,H4 b=some o->b≠dl->L2.upd H4 dl (.dT (W7 (XV (WK ls cs)) (kI ((c'.1:Int)+d.1) ((c'.2:Int)+d.2)))) b=some o:=fun b o e n=>by rw[Zt n];exact e
     generalize L2.upd H4 dl (.dT (W7 (XV (WK ls cs)) (kI ((c'.1:Int)+d.1) ((c'.2:Int)+d.2))))=H5 at hD5 kp5⊢
     have hp5:=kp5 _ _ hC4.at_ npd
     have htup5:=kp5 _ _ htup4 (We htup4 hD4 (by intro z;cases z))
     have hel:∀t c,Tup H4 t c->Tup H5 t c:=fun t c q=>kp5 _ _ q (We q hD4 (by intro z;cases z))
     refine⟨_,rfl,.inl ⟨rfl,_,SqL.of hp5⟩,_,rfl,p,_,_,rfl,rfl,hp5,?_,?_⟩
     ·rw[Za,hlen4]
      exact Z3 (Zi hG4.le2 hll) (by decide)
     ·have hlt:dn<cs.length:=(Zd.mp hc4).1
      refine⟨_,ts++[t2],cs++[e],rfl,⟨by rw[Zf,Yw],V8 (XR hp5 (pimp hC4.each fun t c _ q=>hel t c q)) ?_⟩,by rw[Zt (Yq npd)];exact hD5,fun b o eb nb=>?_,fun b o eb n1 n2=>?_,hG4.add hls (Zp hc4) he1 he2 ((hso c' e).mp ⟨d,Zp hd,ex.symm,ey.symm⟩),?_,?_⟩
      ·show L2.upd _ p _ t2=_
       rw[Zt (We htup5 hp5 (by intro z;cases z)),htup5,<-ex,<-ey]
      ·rw[Zt (ZD eb hpH)]
       exact kp5 _ _ (hB4 b o eb nb) nb
      ·rw[Zt n1]
       exact kp5 _ _ (kp b o eb n1 n2) n2
      ·rw[Xk hlt]
       exact hc4
      ·intro e' he' hs
       rw[take_snoc hd]at hs
       obtain⟨s',hs',h1,h2⟩:=hs
       rcases Zs.mp hs' with hs'|hs'
       ·exact Yo _ (hcl e' he' ⟨s',hs',h1,h2⟩)
       ·have:s'=d:=by simpa using hs'
        subst this
        have:e'=e:=by
         obtain⟨a1,a2⟩:=e'
         obtain⟨b1,b2⟩:=e
         simp only at h1 h2 ex ey
         have z1:a1=b1:=by omega
         have z2:a2=b2:=by omega
         rw[z1,z2]
        rw[this]
        exact YA _ (ZI.mpr rfl)
    ·have hv:valV (XV (WK ls cs)) (kI ((c'.1:Int)+d.1) ((c'.2:Int)+d.2))=none:=N0 fun e he' z=>he ⟨e,he',z⟩
     rw[hv]
     refine iteF ?_
     refine⟨_,ts,cs,rfl,hC4,hD4,hB4,kp,hG4,hc4,?_⟩
     intro e' he' hs
     rw[take_snoc hd]at hs
     obtain⟨s',hs',h1,h2⟩:=hs
     rcases Zs.mp hs' with hs'|hs'
     ·exact hcl e' he' ⟨s',hs',h1,h2⟩
     ·have:s'=d:=by simpa using hs'
      subst this
      refine ZY fun hn=>he ⟨e',mem_minus.mpr ⟨he',hn⟩,?_⟩
      unfold kc
      rw[h1,h2]
   ·rintro σ H4 ⟨v6,ts,cs,rfl,hC4,hD4,hB4,kp,hG4,hc4,hcl⟩
    rw[Za,hpsl,YM]at hcl
    refine⟨_,rfl,_,_,rfl,rfl,ls.length-(dn+1),?_,some (.ref t),v6,dn+1,ts,cs,?_,hC4,hD4,hB4,hG4.next hc4 fun e he ad=>hcl e he ((hso c' e).mpr ad),rfl⟩
    ·omega
    ·show[some (V.ref t0),some (.ref dl),some (.ref st),some (.ref p),some (.int ((dn:Int)+1)),some (.ref t),v6]=_
     rw[show(dn:Int)+1=((dn+1:Nat):Int) by omega]
  ·have e:cs.length<=dn:=by
    have:=e
    simp only[decide_eq_true_eq,Za]at this
    omega
   have ed:dn=cs.length:=Nat.le_antisymm hG.le e
   subst ed
   exact⟨_,rfl,k H2 p ts cs hB hpH hC hG hD⟩
end
end Cp
end
section
namespace Cp
open PySem PySem.Spec PyProof.Rows L2 Ma
section
variable{P:Program}{w:World}{K:PySem.W.Frag}{mg:Str->Option Value}{base:Heap}{cGrid aNB aMT:Addr}
structure VL(H:Hp)(p:Addr)(ps:List Addr)(css:List (List (Nat×Nat))):Prop where
 at_:H p=some (.lst (ZV ps))
 each:Paired (fun a cs=>∃ts,YR H a ts cs) ps css
theorem VL.same{H H':Hp}{p:Addr}{ps:List Addr}{css:List (List (Nat×Nat))}(h:VL H p ps css)(s:Same H H'):VL H' p ps css:=⟨s _ _ h.at_,pimp h.each fun _ _ _ ⟨ts,q⟩=>⟨ts,q.same s⟩⟩
noncomputable def Xo(cs:List (Nat×Nat))(p:Vamato.Grid):Prop:=cs.Nodup/\∀c:Nat×Nat,c∈cs↔p.painted c.1 c.2=true
noncomputable def TN(G:Vamato.Grid)(cor:Bool)(al:Nat->Nat->Bool)(cs:List (Nat×Nat)):List Vamato.Grid:=cs.foldl (Xj G cor al) []
theorem QU(G:Vamato.Grid)(cor:Bool)(al:Nat->Nat->Bool)(cs:List (Nat×Nat))(c:Nat×Nat):TN G cor al (cs++[c])=Xj G cor al (TN G cor al cs) c:=by
 unfold TN
 rw[Vb]
 rfl
theorem U2(G:Vamato.Grid)(cor:Bool)(al:Nat->Nat->Bool):∀(cs:List (Nat×Nat))(l:List Vamato.Grid),(cs.filter fun c=>al c.1 c.2).foldl (Xj G cor al) l=cs.foldl (Xj G cor al) l
 |[],_=>rfl
 |c::cs,l=>by
  cases h:al c.1 c.2 with
  |true=>rw[Yl (by exact h),Y7,Y7];exact U2 G cor al cs _
  |false=>
   rw[Yk (by rw[h];simp),Y7]
   have:Xj G cor al l c=l:=by
    unfold Xj
    rw[h,if_pos (by simp)]
   rw[this]
   exact U2 G cor al cs l
noncomputable def WS(ls:List (Nat×Nat))(css:List (List (Nat×Nat))):List (Nat×Nat):=WK ls css.flatten
theorem Pe(ls:List (Nat×Nat))(css:List (List (Nat×Nat)))(cs:List (Nat×Nat)):WK (WS ls css) cs=WS ls (css++[cs]):=by
 unfold WS WK
 rw[List.filter_filter,List.flatten_append]
 refine List.filter_congr fun d _=>?_
 rw[Yd]
 simp only[Zv,decide_eq_true_eq,Zs,XW,List.flatten_nil,Y6,not_or]
 exact and_comm
theorem Xy{α β:Type}{F:α->β->Prop}:∀{l:List α}{m:List β},Paired F l m->∀{a},a∈l->∃b∈m,F a b
 |_,_,.nil,_,h=>nomatch h
 |_,_,.cons r t,_,h=>by
  rcases Zw.mp h with rfl|h
  ·exact⟨_,Zm,r⟩
  ·obtain⟨b,hb,q⟩:=Xy t h
   exact⟨b,Ze _ hb,q⟩
theorem Uw{α β:Type}{F:α->β->Prop}:∀{l:List α}{m:List β},Paired F l m->∀{b},b∈m->∃a∈l,F a b
 |_,_,.nil,_,h=>nomatch h
 |_,_,.cons r t,_,h=>by
  rcases Zw.mp h with rfl|h
  ·exact⟨_,Zm,r⟩
  ·obtain⟨b,hb,q⟩:=Uw t h
   exact⟨b,Ze _ hb,q⟩
theorem part_is{G:Vamato.Grid}{cor:Bool}{al:Nat->Nat->Bool}{ls done:List (Nat×Nat)}{css:List (List (Nat×Nat))}{c:Nat×Nat}{cs:List (Nat×Nat)}(hls:∀c,c∈ls↔c.1<G.width/\c.2<G.height/\al c.1 c.2=true)(hm:Made G cor al done (TN G cor al done))(hp:Paired Xo css (TN G cor al done))
  (hg:Grow G.width G.height cor al (WS ls css) c cs cs.length):Xo cs (Vamato.pieceAt G cor al c):=by
 have hc:=(mem_minus.mp ((hg.sub c hg.has).1)).1
 have hcG:=(hls c).mp hc
 refine⟨hg.nd,fun d=>?_⟩
 have key:=Q2 (w:=G.width) (h:=G.height) (corners:=cor) (allowed:=al) (c:=c) (S:=fun d=>d∈cs) hg.has (fun d hd=>(hg.sub d hd).2) (fun d e hd ad h1 h2 h3=>?_) d
 ·rw[XA ⟨hcG.1,hcG.2.1⟩]
  exact key
 ·by_cases he:e∈WS ls css
  ·have:=hg.cl d (by rw[YM];exact hd) e he ad
   exact this
  ·exfalso
   have he':e∈css.flatten:=ZY fun z=>he (mem_minus.mpr ⟨(hls e).mpr ⟨h1,h2,h3⟩,z⟩)
   obtain⟨cs',hcs',hecs⟩:=Xp.mp he'
   obtain⟨q,hq,hqi⟩:=Xy hp hcs'
   have hqe:=(hqi.2 e).mp hecs
   have hdm:=mem_minus.mp (hg.sub d hd).1
   have hdG:=(hls d).mp hdm.1
   have hqd:=((hm.each q hq).comp hqe d).mpr (.step Comp.refl ad.symm hdG.1 hdG.2.1 hdG.2.2)
   exact hdm.2 (Xp.mpr ⟨cs',hcs',(hqi.2 d).mpr hqd⟩)
noncomputable abbrev SN:Stmt:=top 30
theorem scParts:ZP ["cells","steps","left_over","parts","cell"] ["cells","steps"] (Zh SN):=⟨rfl,rfl,rfl,by decide +kernel,rfl,by decide +kernel,by decide +kernel⟩
noncomputable def RS(K:PySem.W.Frag):Sp:=fun vs H Q _=>∃(l st:Addr)(ts:List Addr)(ss:List (Int×Int))(G:Vamato.Grid)(cor:Bool)(al:Nat->Nat->Bool),vs=[.ref l,.ref st]/\YR H l ts ((Vamato.cellsOf G.width G.height).filter fun c=>al c.1 c.2)/\G.width<=40/\G.height<=40/\UE K st ss/\ss.length<=8/\R4 cor ss/\
 ∀H' p ps css,Same H H'->H p=none->(∀a∈ps,H a=none)->VL H' p ps css->Paired Xo css (Vamato.piecesBy G cor al)->Q (.ref p) H'
theorem ok_parts{f:Addr}{fd:FuncData}(F:Fun K "parts_of" "parts_of" SN f fd)(T:TxtW K mg aNB aMT)(C_taken_part:Callee P w K mg base "taken_part" 2 ["first","left_over","steps"] (OR K)):FnOk P w K mg base CX0 3 f fd ["cells","steps"] (RS K):=by
 refine F.ok scParts (fun vs H Q E h=>?_) (fun cdv A outer s H vs Q E hr h=>?_)
 ·obtain⟨l,st,ts,ss,G,cor,al,rfl,_⟩:=h
  rfl
 ·obtain⟨l,st,ts,ss,G,cor,al,rfl,hC,hw,hh,hst,hsl,hso,k⟩:=h
  have nd:=scParts.nd
  have hu:=hu_of hr
  have hls:∀c,c∈((Vamato.cellsOf G.width G.height).filter fun c=>al c.1 c.2)↔c.1<G.width/\c.2<G.height/\al c.1 c.2=true:=fun c=>by
   rw[Yv,Ua,and_assoc]
  have hnd:((Vamato.cellsOf G.width G.height).filter fun c=>al c.1 c.2).Nodup:=List.Sublist.nodup List.filter_sublist (Ug _ _)
  have hll:((Vamato.cellsOf G.width G.height).filter fun c=>al c.1 c.2).length<=1600:=by
   refine Zi (YS _ _) ?_
   rw[YI]
   exact YE hh hw
  have hfin:TN G cor al ((Vamato.cellsOf G.width G.height).filter fun c=>al c.1 c.2)=Vamato.piecesBy G cor al:=by
   rw[RA]
   exact U2 G cor al _ _
  have hmade:∀n,Made G cor al (((Vamato.cellsOf G.width G.height).filter fun c=>al c.1 c.2).take n) (TN G cor al (((Vamato.cellsOf G.width G.height).filter fun c=>al c.1 c.2).take n)):=fun n=>by
   have:=Rh (g:=G) (corners:=cor) (allowed:=al) (((Vamato.cellsOf G.width G.height).filter fun c=>al c.1 c.2).take n) [] [] (fun c hc=>by
    have:=(hls c).mp (XX hc)
    exact⟨this.1,this.2.1⟩) QE
   rw[VQ]at this
   exact this
  generalize ((Vamato.cellsOf G.width G.height).filter fun c=>al c.1 c.2)=ls at *
  have hlen:=Zy hC.each
  refine⟨_,(Zk (ZZ (i:=2) nd rfl (Or.inl rfl) (Kl (Lk hr.units rfl) (by rfl) T.n_dict boot_dict (Zb (X1 rfl nd (YN (pv 0)) (own:=[("cell",4)]) (Yr (by kernel_rfl)) (fun _ _ _ _ _=>(Z2 (i:=4) nd rfl (Or.inl rfl))) (fun _ _ _ _ _=>Y4) (fun _ _ _ _ _=>(Ue (Zb (pv 4) (Zb pe_bl Zn))))) Zn)))
   (Zk (ZZ (i:=3) nd rfl (Or.inl rfl) (Yp Zn))
   (Zk (VU YH rfl (YN (pv 0)) (Z2 (i:=4) nd rfl (Or.inl rfl))
   (Zr (Xm (TY (pc_din hu (pv 4) (pv 2))) (Zr (Xx (Um Z9 YK YL WJ (pv 3) (Zb (ZU C_taken_part hr rfl (Zb (pv 4) (Zb (pv 2) (Zb (pv 1) Zn)))) Zn)))) Yy)))
   (Zr (ZN (pv 3)))))),?_⟩
  refine⟨_,rfl,l,rfl,⟨_,SqL.of hC.at_⟩,fun D hD=>T7 (K:=K) (a:=l) (xs:=ZV ts)
   (fun ys H'=>∃us,ys=ZV us/\Same H H'/\H' D=some (.lst ys)/\Paired (fun u (q:Addr×Nat×Nat)=>H' u=some (.tup [.ref q.1,.bl true])) us ((ts.zip ls).take us.length)) ⟨[],rfl,Same.new hD,Zf,.nil⟩
   (fun ys H' ⟨us,e,s1,_⟩=>SqL.of (s1 _ _ hC.at_)) (by rw[Za,hlen];exact Zi hll (by decide)) (fun _=>rfl) (fun ys H' ⟨us,e,s1,h,_⟩=>h) ?_ ?_⟩
  ·rintro ys x H' Rr hx ⟨us,rfl,s1,hDD,hp⟩ hR
   obtain⟨t,ht,rfl⟩:=Xr hx
   obtain⟨c,hc,htup⟩:=Z4 hC.each ht
   rw[Za]at ht hc
   have hz:(ts.zip ls)[us.length]?=some (t,c):=by
    rw[WC]
    exact⟨ht,hc⟩
   refine⟨_,rfl,Ww _ _,fun u hu=>hR _ _ (by rw[Zt (ZD hDD hu)];exact hDD) ⟨us++[u],(Yw _ _).symm,Xg hD (s1.trans (Same.new hu)),Zf,?_⟩⟩
   rw[Zj,Z6,take_snoc hz]
   refine V8 (pimp hp fun u' q _ h=>?_) ?_
   ·have h2:=Same.new (o:=.tup [.ref t,.bl true]) hu _ _ h
    rw[Zt (We h2 (Same.new (o:=.tup [.ref t,.bl true]) hu _ _ hDD) (by intro z;cases z))]
    exact h2
   ·rw[Zt (Yq (ZD hDD hu)),Zf]
  ·rintro ys H1 hyl ⟨us,rfl,s1,hDD,hp⟩
   rw[Za,Za]at hyl
   rw[Ya (by rw[List.length_zip];omega)]at hp
   have hC1:=hC.same s1
   have hpr:Paired (PrT K H1) us ((ts.zip ls).map fun q=>(q.1,kc q.2,V.bl true)):=by
    have:∀{us:List Addr}{qs:List (Addr×Nat×Nat)},Paired (fun u (q:Addr×Nat×Nat)=>H1 u=some (.tup [.ref q.1,.bl true])) us qs->(∀q∈qs,Tup H1 q.1 q.2)->Paired (PrT K H1) us (qs.map fun q=>(q.1,kc q.2,V.bl true)):=by
     intro us qs h
     induction h with
     |nil=>intro _;exact .nil
     |cons r _ ih=>intro hq;rw[ZB];exact .cons ⟨SqT.of r,hq _ Zm⟩ (ih fun q h=>hq q (Ze _ h))
    refine this hp fun q hq=>?_
    obtain⟨j,hj⟩:=Zx.mp hq
    obtain⟨h1,h2⟩:=WC.mp hj
    obtain⟨c,hc,htup⟩:=Z4 hC1.each h1
    have:c=q.2:=ZC (hc.symm.trans h2)
    rw[<-this]
    exact htup
   have e1:((ts.zip ls).map fun q=>(q.1,kc q.2,V.bl true)).map (fun q=>q.2)=XV ls:=by
    rw[Yg]
    have:((fun q:Addr×List Key×V=>q.2)∘fun q:Addr×Nat×Nat=>(q.1,kc q.2,V.bl true))=(fun c:Nat×Nat=>(kc c,V.bl true))∘Prod.snd:=rfl
    rw[this,<-Yg,List.map_snd_zip (by omega)]
    rfl
   have e2:(((ts.zip ls).map fun q=>(q.1,kc q.2,V.bl true)).map fun q=>q.2.1).Nodup:=by
    rw[Yg]
    have:((fun q:Addr×List Key×V=>q.2.1)∘fun q:Addr×Nat×Nat=>(q.1,kc q.2,V.bl true))=kc∘Prod.snd:=rfl
    rw[this,<-Yg,List.map_snd_zip (by omega)]
    exact List.Pairwise.map _ (fun a b hab z=>hab (QK z)) hnd
   refine⟨D,us,_,rfl,SqL.of hDD,hpr,e2,fun dl hdl=>?_⟩
   rw[e1]
   have s2:Same H1 (L2.upd H1 dl (.dT (XV ls))):=Same.new hdl
   have hdl2:L2.upd H1 dl (.dT (XV ls)) dl=some (.dT (XV ls)):=Zf
   generalize L2.upd H1 dl (.dT (XV ls))=H2 at s2 hdl2⊢
   refine⟨ZG _,fun p hpn=>?_⟩
   have s02:=s1.trans s2
   have hpH:H p=none:=s02.free hpn
   have hdlH:H dl=none:=s1.free hdl
   have npd:p≠dl:=fun z=>by rw[z,hdl2]at hpn;cases hpn
   have nld:l≠dl:=ZD hC1.at_ hdl
   have nlp:l≠p:=ZD (s02 _ _ hC.at_) hpn
   refine⟨_,rfl,l,rfl,⟨_,SqL.of (Same.new hpn _ _ (s02 _ _ hC.at_))⟩,V0 (K:=K) (a:=l) (xs:=ZV ts)
    (fun n σ H'=>∃(v4:Option V)(ps:List Addr)(css:List (List (Nat×Nat))),σ=[some (.ref l),some (.ref st),some (.ref dl),some (.ref p),v4]/\(∀b o,H b=some o->H' b=some o)/\VL H' p ps css/\p∉ps/\(∀a∈ps,H a=none)/\ps.length<=n/\H' dl=some (.dT (XV (WS ls css)))/\Paired Xo css (TN G cor al (ls.take n)))
    ⟨none,[],[],rfl,fun b o e=>Same.new hpn _ _ (s02 _ _ e),⟨Zf,.nil⟩,by simp,fun a h=>(nomatch h),ZG _,?_,.nil⟩ (fun n σ H' _ ⟨_,_,_,_,kp,_⟩=>SqL.of (kp _ _ hC.at_)) ?_ ?_⟩
   ·rw[Zt (Yq npd),hdl2]
    unfold WS
    rw[List.flatten_nil,Rf]
   ·rintro n y σ H3 hy ⟨v4,ps,css,rfl,kp,hP,hpp,hps,hpl,hD3,hpi⟩
    obtain⟨t,ht,rfl⟩:=Xr hy
    obtain⟨c,hc,htup⟩:=Z4 hC.each ht
    have htup3:=kp _ _ htup
    have hcl:=Zp hc
    have hnl:n<ls.length:=(Zd.mp hc).1
    refine⟨_,rfl,_,rfl,dl,_,rfl,DGet.t (k:=kc c) hD3 htup3,_,rfl,?_⟩
    by_cases hin:c∈WS ls css
    ·rw[Nf hin]
     refine iteT ?_
     have hmm:=mem_minus.mp hin
     refine⟨_,rfl,.inl ⟨rfl,_,SqL.of hP.at_⟩,_,rfl,_,rfl,_,rfl,t,dl,st,c,WS ls css,ss,G.width,G.height,cor,al,rfl,htup3,hD3,hin,Zi (YS _ _) hll,fun d hd=>(hls d).mp (mem_minus.mp hd).1,hst,hsl,hso,fun H4 q us4 cs bt hq hC4 hg hD4=>?_⟩
     have hp4:=bt _ _ hP.at_ npd
     have npq:p≠q:=ZD hP.at_ hq
     refine⟨p,_,_,rfl,rfl,hp4,?_,?_⟩
     ·rw[Za]
      exact Z3 (show ps.length<=1600 by omega) (by decide)
     ·have keepP:∀{a:Addr}{ts':List Addr}{cs':List (Nat×Nat)},a≠p->a≠dl->YR H3 a ts' cs'->YR (L2.upd H4 p (.lst (ZV ps++[V.ref q]))) a ts' cs':=fun n1 n2 h=>
       ⟨by rw[Zt n1];exact bt _ _ h.at_ n2,XR hp4 (pimp h.each fun t c _ z=>bt _ _ z (We z hD3 (by intro z;cases z)))⟩
      refine⟨_,ps++[q],css++[cs],rfl,fun b o e=>?_,⟨by rw[Zf,Yw],V8 (pimp hP.each fun a cs' ha ⟨ts',h⟩=>⟨ts',keepP (fun z=>hpp (z▸ha)) (We h.at_ hD3 (by intro z;cases z)) h⟩) ⟨us4,?_⟩⟩,?_,?_,by rw[Zj];simp only[Zo,Yc];omega,?_,?_⟩
      ·rw[Zt (ZD e hpH)]
       exact bt _ _ (kp b o e) (ZD e hdlH)
      ·exact⟨by rw[Zt (Yq npq)];exact hC4.at_,XR hp4 hC4.each⟩
      ·intro z
       rcases Zs.mp z with z|z
       ·exact hpp z
       ·exact npq (by simpa using z)
      ·intro a ha
       rcases Zs.mp ha with z|z
       ·exact hps a z
       ·have:a=q:=by simpa using z
        subst this
        cases e:H a with
        |none=>rfl
        |some o=>rw[kp _ _ e]at hq;cases hq
      ·rw[Zt (Yq npd),hD4,Pe]
      ·rw[take_snoc hc,QU]
       rcases XQ (g:=G) (corners:=cor) (allowed:=al) (TN G cor al (ls.take n)) c with⟨_,h⟩|⟨e,_,_⟩
       ·exfalso
        rcases h with h|⟨q',hq',hqc⟩
        ·rw[((hls c).mp hcl).2.2]at h;cases h
        ·obtain⟨cs',hcs',hi⟩:=Uw hpi hq'
         exact hmm.2 (Xp.mpr ⟨cs',hcs',(hi.2 c).mpr hqc⟩)
       ·rw[e]
        exact V8 hpi (part_is hls (hmade n) hpi hg)
    ·rw[N0 fun d hd z=>hin (by rw[<-QK z];exact hd)]
     refine iteF ⟨_,ps,css,rfl,kp,hP,hpp,hps,by omega,hD3,?_⟩
     rw[take_snoc hc,QU]
     rcases XQ (g:=G) (corners:=cor) (allowed:=al) (TN G cor al (ls.take n)) c with⟨e,_⟩|⟨_,_,hn⟩
     ·rw[e]
      exact hpi
     ·exfalso
      have hf:c∈css.flatten:=ZY fun z=>hin (mem_minus.mpr ⟨hcl,z⟩)
      obtain⟨cs',hcs',hcc⟩:=Xp.mp hf
      obtain⟨q',hq',hi⟩:=Xy hpi hcs'
      have:=hn q' hq'
      rw[(hi.2 c).mp hcc]at this
      cases this
   ·rintro σ H3 ⟨v4,ps,css,rfl,kp,hP,hpp,hps,hpl,hD3,hpi⟩
    rw[Za,hlen,YM,hfin]at hpi
    exact⟨_,rfl,k H3 p ps css kp hpH hps hP hpi⟩
noncomputable abbrev sPcs:Stmt:=top 27
theorem scPcs:ZP ["grid"] ["grid"] (Zh sPcs):=⟨rfl,rfl,rfl,by decide +kernel,rfl,by decide +kernel,by decide +kernel⟩
noncomputable def Pu(C:Addr):Sp:=fun vs H Q _=>∃(g:Addr)(G:Vamato.Grid)(R:Addr)(as:List Addr),vs=[.ref g]/\Ys C H g G R as/\
 ∀H' p ps css,Same H H'->H p=none->(∀a∈ps,H a=none)->VL H' p ps css->Paired Xo css (Vamato.piecesOf G)->Q (.ref p) H'
theorem ok_pcs{f:Addr}{fd:FuncData}(F:Fun K "pieces_of" "pieces_of" sPcs f fd)(T:TxtW K mg aNB aMT)(M_Grid_cells_that_are:Y5 P w K mg base cGrid "cells_that_are" 1 ["self","way"] (NE cGrid))(C_parts_of:Callee P w K mg base "parts_of" 3 ["cells","steps"] (RS K)):FnOk P w K mg base CX0 4 f fd ["grid"] (Pu cGrid):=by
 refine F.ok scPcs (fun vs H Q E h=>?_) (fun cdv A outer s H vs Q E hr h=>?_)
 ·obtain⟨g,G,R,as,rfl,_⟩:=h
  rfl
 ·obtain⟨g,G,R,as,rfl,hG,k⟩:=h
  have nd:=scPcs.nd
  obtain⟨dx,hg⟩:=hG.at_
  refine⟨_,(Zr (ZN (ZU C_parts_of hr rfl (Zb (YW (pv 0) M_Grid_cells_that_are hr (Zb (pe_g rfl T.g_PAINTED) Zn)) (Zb (pe_g rfl T.g_TO_NEIGHBOURS) Zn))))),?_⟩
  refine⟨_,rfl,g,dx,_,rfl,hg,Wl G R,g,G,R,as,true,rfl,hG,fun H1 l ts s1 hl hC=>⟨l,aNB,ts,_,G,false,(fun i j=>G.painted i j==true),rfl,hC,hG.ok.w2,hG.ok.h2,T.s_NB,(by decide),steps_nb,fun H2 p ps css s2 hp hps hP hpi=>k H2 p ps css (s1.trans s2) (s1.free hp) (fun a ha=>s1.free (hps a ha)) hP ?_⟩⟩
  have e:(fun i j=>G.painted i j==true)=G.painted:=funext fun i=>funext fun j=>by cases G.painted i j<;>rfl
  rw[e]at hpi
  exact hpi
noncomputable abbrev P2:Stmt:=top 29
theorem scInsd:ZP ["grid","part","i","j"] ["grid","part"] (Zh P2):=⟨rfl,rfl,rfl,by decide +kernel,rfl,by decide +kernel,by decide +kernel⟩
noncomputable def MK(C:Addr):Sp:=fun vs H Q _=>∃(g:Addr)(G:Vamato.Grid)(R:Addr)(as:List Addr)(l:Addr)(ts:List Addr)(cs:List (Nat×Nat)),vs=[.ref g,.ref l]/\Ys C H g G R as/\YR H l ts cs/\cs.length<=1600/\∀H',Same H H'->Q (.bl (!cs.any fun c=>WV G c)) H'
theorem Ml{G:Vamato.Grid}(c:Nat×Nat):Mm G (c.1:Int) (c.2:Int)=WV G c:=by
 unfold Mm WV
 rw[Yd]
 simp only[Bool.or_eq_true,decide_eq_true_eq,beq_iff_eq]
 omega
theorem ok_insd{f:Addr}{fd:FuncData}(F:Fun K "is_inside" "is_inside" P2 f fd)(T:TxtW K mg aNB aMT)(M_Grid_is_at_border:Y5 P w K mg base cGrid "is_at_border" 1 ["self","i","j"] (MM cGrid)):FnOk P w K mg base CX0 2 f fd ["grid","part"] (MK cGrid):=by
 refine F.ok scInsd (fun vs H Q E h=>?_) (fun cdv A outer s H vs Q E hr h=>?_)
 ·obtain⟨g,G,R,as,l,ts,cs,rfl,_⟩:=h
  rfl
 ·obtain⟨g,G,R,as,l,ts,cs,rfl,hG,hC,hcl,k⟩:=h
  have nd:=scInsd.nd
  have hlen:=Zy hC.each
  refine⟨_,(Zr (ZN (pe_not (Yf (cr_any rfl) (by rfl) T.n_any boot_any (Zb (X1 rfl nd (YN (pv 1)) (own:=[("i",2),("j",3)]) (Yr (by kernel_rfl)) (fun _ _ _ _ _=>(V9 (K:=K) (n:=2) rfl rfl (YO (Z2 (i:=2) nd rfl (Or.inl rfl)) (YO (Z2 (i:=3) nd rfl (Or.inl rfl)) WD)))) (fun _ _ _ _ _=>Y4) (fun _ _ _ _ _=>(YW (pv 0) M_Grid_is_at_border hr (Zb (pv 2) (Zb (pv 3) Zn))))) Zn))))),?_⟩
  refine⟨_,rfl,l,rfl,⟨_,SqL.of hC.at_⟩,fun D hD=>LM (K:=K) (a:=l) (xs:=ZV ts) (n1:=2) (n2:=3)
   (fun ys H'=>Same H H'/\H' D=some (.lst ys)/\ys=((cs.take ys.length).map fun c=>WV G c).map V.bl) ⟨Same.new hD,Zf,rfl⟩
   (fun ys H' ⟨s1,_⟩=>SqL.of (s1 _ _ hC.at_)) (by rw[Za,hlen];exact Zi hcl (by decide)) (fun _ _=>rfl) ?_ ?_⟩
  ·rintro ys x H' Rr hx ⟨s1,hDD,ey⟩
   obtain⟨t,ht,rfl⟩:=Xr hx
   obtain⟨c,hc,htup⟩:=Z4 hC.each ht
   have hG1:=hG.same s1
   obtain⟨dx,hg⟩:=hG1.at_
   refine⟨t,_,_,rfl,SqT.of (s1 _ _ htup),fun hR=>⟨_,rfl,g,dx,_,rfl,hg,Wl G R,_,rfl,_,rfl,g,G,R,as,(c.1:Int),(c.2:Int),rfl,hG1,fun H2 s2=>hR _ _ (s2 _ _ hDD) ⟨Xg hD (s1.trans s2),Zf,?_⟩⟩⟩
   rw[Zj,Z6,take_snoc hc,ZJ,ZJ,<-ey,Ml]
   rfl
  ·rintro ys H' hyl ⟨s1,hDD,ey⟩
   rw[Za]at hyl
   rw[Ya (by omega)]at ey
   refine⟨D,cs.map fun c=>WV G c,rfl,SqL.of (by rw[hDD,ey]),_,rfl,?_⟩
   have:=k H' s1
   rw[List.any_map]
   exact this
noncomputable abbrev sHls:Stmt:=top 28
theorem scHls:ZP ["grid","parts","part"] ["grid"] (Zh sHls):=⟨rfl,rfl,rfl,by decide +kernel,rfl,by decide +kernel,by decide +kernel⟩
noncomputable def Ly(C:Addr):Sp:=fun vs H Q _=>∃(g:Addr)(G:Vamato.Grid)(R:Addr)(as:List Addr),vs=[.ref g]/\Ys C H g G R as/\
 ∀H' p ps css,Same H H'->H p=none->(∀a∈ps,H a=none)->VL H' p ps css->Paired Xo css (Vamato.holesOf G)->Q (.ref p) H'
theorem NR{G:Vamato.Grid}{cor:Bool}{al:Nat->Nat->Bool}{cs:List (Nat×Nat)}{p:Vamato.Grid}(hp:WX G cor al p)(h:Xo cs p):(!cs.any fun c=>WV G c)=UI G p:=by
 rw[Yd,Uq (fun d hd=>let z:=hp.ok hd;⟨z.1,z.2.1⟩),Xw,W9]
 constructor
 ·intro q c hc
  have:=q c ((h.2 c).mpr hc)
  simpa using this
 ·intro q c hc
  rw[q c ((h.2 c).mp hc)]
  simp
theorem Tn{G:Vamato.Grid}{cor:Bool}{al:Nat->Nat->Bool}{cs:List (Nat×Nat)}{p:Vamato.Grid}(hp:WX G cor al p)(h:Xo cs p):cs.length<=G.width*G.height:=by
 have h1:cs.length<=(Vamato.cellsOf G.width G.height).length:=nodup_len h.1 fun c hc=>Ua.mpr (let z:=hp.ok ((h.2 c).mp hc);⟨z.1,z.2.1⟩)
 rw[YI,Y0]at h1
 exact h1
theorem QV:∀{css:List (List (Nat×Nat))}{gs:List Vamato.Grid},Paired Xo css gs->gs.Pairwise (fun p q=>∀c:Nat×Nat,p.painted c.1 c.2=true->q.painted c.1 c.2=false)->css.flatten.Nodup
 |_,_,.nil,_=>Wv
 |_,_,.cons r t,hp=>by
  rw[List.pairwise_cons]at hp
  rw[XW]
  refine Va.mpr ⟨r.1,QV t hp.2,fun a ha b hb e=>?_⟩
  subst e
  obtain⟨cs,h1,h2⟩:=Xp.mp hb
  obtain⟨q,hq,hi⟩:=Xy t h1
  have:=hp.1 q hq a ((r.2 a).mp ha)
  rw[(hi.2 a).mp h2]at this
  cases this
theorem flat_len{css:List (List (Nat×Nat))}(h:∀cs∈css,0<cs.length):css.length<=css.flatten.length:=by
 induction css with
 |nil=>exact ZG _
 |cons cs r ih=>
  rw[XW,Zj,Zo]
  have:=h cs Zm
  have:=ih fun c hc=>h c (Ze _ hc)
  omega
theorem TZ{G:Vamato.Grid}{cor:Bool}{al:Nat->Nat->Bool}{cells:List (Nat×Nat)}{css:List (List (Nat×Nat))}{gs:List Vamato.Grid}(hm:Made G cor al cells gs)(hpi:Paired Xo css gs):gs.length<=G.width*G.height:=by
 have h2:css.flatten.length<=(Vamato.cellsOf G.width G.height).length:=nodup_len (QV hpi hm.apart) fun c hc=>by
  obtain⟨cs,h1,h2⟩:=Xp.mp hc
  obtain⟨q,hq,hi⟩:=Xy hpi h1
  have:=(hm.each q hq).ok ((hi.2 c).mp h2)
  exact Ua.mpr ⟨this.1,this.2.1⟩
 have h3:css.length<=css.flatten.length:=flat_len fun cs hc=>by
  obtain⟨q,hq,hi⟩:=Xy hpi hc
  obtain⟨c,hcc,rfl⟩:=hm.each q hq
  exact Vc ((hi.2 c).mpr ((XA ⟨hcc.1,hcc.2.1⟩).mpr Comp.refl))
 rw[YI]at h2
 have h4:=Zy hpi
 rw[Y0]
 omega
theorem ok_hls{f:Addr}{fd:FuncData}(F:Fun K "holes_of" "holes_of" sHls f fd)(T:TxtW K mg aNB aMT)(M_Grid_cells_that_are:Y5 P w K mg base cGrid "cells_that_are" 1 ["self","way"] (NE cGrid))(C_parts_of:Callee P w K mg base "parts_of" 3 ["cells","steps"] (RS K))
  (C_is_inside:Callee P w K mg base "is_inside" 2 ["grid","part"] (MK cGrid)):FnOk P w K mg base CX0 4 f fd ["grid"] (Ly cGrid):=by
 refine F.ok scHls (fun vs H Q E h=>?_) (fun cdv A outer s H vs Q E hr h=>?_)
 ·obtain⟨g,G,R,as,rfl,_⟩:=h
  rfl
 ·obtain⟨g,G,R,as,rfl,hG,k⟩:=h
  have nd:=scHls.nd
  have ok:=hG.ok
  obtain⟨dx,hg⟩:=hG.at_
  refine⟨_,(Zk (ZZ (i:=1) nd rfl (Or.inl rfl) (ZU C_parts_of hr rfl (Zb (YW (pv 0) M_Grid_cells_that_are hr (Zb (pe_g rfl T.g_CLEAR) Zn)) (Zb (pe_g rfl T.g_TO_MEETING) Zn))))
   (Zr (ZN (X1 rfl nd (YN (pv 1)) (own:=[("part",2)]) (Yr (by kernel_rfl)) (fun _ _ _ _ _=>(Z2 (i:=2) nd rfl (Or.inl rfl))) (fun _ _ _ _ _=>(Sj (Wj (ZU C_is_inside hr rfl (Zb (pv 0) (Zb (pv 2) Zn)))))) (fun _ _ _ _ _=>(pv 2)))))),?_⟩
  refine⟨_,rfl,g,dx,_,rfl,hg,Wl G R,g,G,R,as,false,rfl,hG,fun H1 l ts s1 hl hC=>⟨l,aMT,ts,_,G,true,(fun i j=>G.painted i j==false),rfl,hC,ok.w2,ok.h2,T.s_MT,(by decide),steps_mt,fun H2 p ps css s2 hp hps hP hpi=>?_⟩⟩
  have e:(fun i j=>G.painted i j==false)=clear G:=funext fun i=>funext fun j=>by unfold clear;cases G.painted i j<;>rfl
  rw[e]at hpi
  have s02:=s1.trans s2
  have hp0:=s1.free hp
  have hps0:∀a∈ps,H a=none:=fun a ha=>s1.free (hps a ha)
  have hm:=Vp (g:=G) (corners:=true) (allowed:=clear G)
  rw[QP]at k
  generalize Vamato.piecesBy G true (clear G)=gs at hpi hm k
  have hlen1:=Zy hP.each
  have hlen2:=Zy hpi
  have hcs:∀(n:Nat) cs,css[n]?=some cs->∃q,gs[n]?=some q/\Xo cs q/\WX G true (clear G) q:=fun n cs h=>by
   obtain⟨q,hq,hi⟩:=Z4 hpi h
   exact⟨q,hq,hi,hm.each q (Zp hq)⟩
  have hgs:gs.length<=1600:=Zi (TZ hm hpi) (YE ok.w2 ok.h2)
  have hG2:=hG.same s02
  refine⟨_,rfl,p,rfl,⟨_,SqL.of hP.at_⟩,fun D hD=>Tp (K:=K) (xs:=ZV ps) (fun n H'=>∃qs dss,Same H2 H'/\VL H' D qs dss/\(∀a∈qs,a∈ps)/\qs.length<=n/\Paired Xo dss ((gs.take n).filter (UI G)))
   ⟨[],[],Same.new hD,⟨Zf,.nil⟩,fun a h=>(nomatch h),Zl _,.nil⟩ (fun n H' _ ⟨_,_,s3,_⟩=>SqL.of (s3 _ _ hP.at_)) (fun n x H' hx ⟨qs,dss,s3,hQ,hsub,hql,hpi'⟩=>?_) (fun H' ⟨qs,dss,s3,hQ,hsub,hql,hpi'⟩=>?_)⟩
  ·obtain⟨a,ha,rfl⟩:=Xr hx
   obtain⟨cs,hcsn,ts',hC'⟩:=Z4 hP.each ha
   obtain⟨q,hq,hi,hip⟩:=hcs n cs hcsn
   have hnl:n<ps.length:=(Zd.mp ha).1
   have hG3:=hG2.same s3
   have hcl:cs.length<=1600:=Zi (Tn hip hi) (YE ok.w2 ok.h2)
   refine⟨rfl,_,rfl,_,rfl,g,G,R,as,a,ts',cs,rfl,hG3,hC'.same s3,hcl,fun H4 s4=>⟨_,rfl,?_⟩⟩
   rw[NR hip hi]
   have hQ4:=hQ.same s4
   have hC4:=(hC'.same s3).same s4
   refine ite2 (fun e=>?_) (fun e=>?_)
   ·refine⟨_,rfl,_,hQ4.at_,?_,qs++[a],dss++[cs],Xg hD (s3.trans s4),⟨by rw[Zf,Yw],V8 (pimp hQ4.each fun b ds hb ⟨tb,h⟩=>⟨tb,?_⟩) ⟨ts',?_⟩⟩,?_,by rw[Zj];simp only[Zo,Yc];omega,?_⟩
    ·rw[Za]
     exact Z3 (show qs.length<=1600 by omega) (by decide)
    ·have nb:b≠D:=fun z=>by
      have:=hsub b hb
      obtain⟨j,hj⟩:=Zx.mp this
      obtain⟨_,_,_,h'⟩:=Z4 hP.each hj
      rw[z]at h'
      rw[h'.at_]at hD
      cases hD
     exact⟨by rw[Zt nb];exact h.at_,XR hQ4.at_ h.each⟩
    ·have na:a≠D:=ZD hC'.at_ hD
     exact⟨by rw[Zt na];exact hC4.at_,XR hQ4.at_ hC4.each⟩
    ·intro b hb
     rcases Zs.mp hb with hb|hb
     ·exact hsub b hb
     ·have:b=a:=by simpa using hb
      rw[this]
      exact Zp ha
    ·rw[take_snoc hq,Y9,Yl (by exact e),VR]
     exact V8 hpi' hi
   ·refine⟨qs,dss,s3.trans s4,hQ4,hsub,by omega,?_⟩
    rw[take_snoc hq,Y9,Yk (by exact e),VR,Y6]
    exact hpi'
  ·rw[Za,hlen1,hlen2,YM]at hpi'
   exact k H' D qs dss (s02.trans s3) (s02.free hD) (fun a ha=>hps0 a (hsub a ha)) hQ hpi'
end
end Cp
end
section
namespace Cp
open PySem PySem.Spec PyProof.Rows L2 Ma
section
variable{P:Program}{w:World}{K:PySem.W.Frag}{mg:Str->Option Value}{base:Heap}{cGrid cSrc cBox aSIGN aRULE:Addr}
theorem MQ{cs:List (Nat×Nat)}{p:Vamato.Grid}(h:Xo cs p):cs.length=p.area:=by
 unfold Vamato.Grid.area Vamato.Grid.cells
 have nd2:((Vamato.cellsOf p.width p.height).filter fun c=>p.painted c.1 c.2).Nodup:=List.Sublist.nodup List.filter_sublist (Ug _ _)
 have hin:∀c:Nat×Nat,p.painted c.1 c.2=true->c.1<p.width/\c.2<p.height:=fun c hc=>by
  refine⟨ZY fun z=>?_,ZY fun z=>?_⟩
  ·rw[X2 (.inl z)]at hc;cases hc
  ·rw[X2 (.inr z)]at hc;cases hc
 refine Nat.le_antisymm (nodup_len h.1 fun c hc=>?_) (nodup_len nd2 fun c hc=>?_)
 ·have:=(h.2 c).mp hc
  rw[Yv,Ua]
  exact⟨hin c this,this⟩
 ·exact(h.2 c).mpr (Yv.mp hc).2
theorem WI(G:Vamato.Grid):Made G false G.painted G.cells (Vamato.piecesOf G):=Vp (g:=G) (corners:=false) (allowed:=G.painted)
theorem Tl{G:Vamato.Grid}(ok:GOk G){css:List (List (Nat×Nat))}(hpi:Paired Xo css (Vamato.piecesOf G)):css.length<=1600:=by
 rw[Zy hpi]
 exact Zi (TZ (WI G) hpi) (YE ok.w2 ok.h2)
noncomputable abbrev P6:Stmt:=top 79
theorem scCPcs:ZP ["grid","source","cells"] ["grid","source"] (Zh P6):=⟨rfl,rfl,rfl,by decide +kernel,rfl,by decide +kernel,by decide +kernel⟩
theorem ok_cpcs{f:Addr}{fd:FuncData}(F:Fun K "pieces" "pieces" P6 f fd)(T:TxtM mg)(C_pieces_of:Callee P w K mg base "pieces_of" 4 ["grid"] (Pu cGrid)):FnOk P w K mg base CX0 8 f fd ["grid","source"] (Yi K cGrid cSrc 12):=by
 refine F.ok scCPcs (fun vs H Q E h=>?_) (fun cdv A outer s0 H vs Q E hr h=>?_)
 ·obtain⟨g,s,a,G,R,as,l,i,c,t,rfl,_⟩:=h
  rfl
 ·obtain⟨g,s,a,G,R,as,l,i,c,t,rfl,W,hgv,k⟩:=h
  obtain⟨rfl,rfl⟩:=U1 hgv rfl
  have ok:=W.grid.ok
  have nd:=scCPcs.nd
  have est:VamatoNeutral.step G [[12]]=(G,0::(Vamato.piecesOf G).map fun p=>Vamato.nat p.area):=rfl
  rw[est]at k
  refine⟨_,(Zr (ZN (Xf T4 (Yp (Zb ZE Zn)) (X1 rfl nd (YN (ZU C_pieces_of hr rfl (Zb (pv 0) Zn))) (own:=[("cells",2)]) (Yr (by kernel_rfl)) (fun _ _ _ _ _=>(Z2 (i:=2) nd rfl (Or.inl rfl))) (fun _ _ _ _ _=>Y4) (fun _ _ _ _ _=>(Yf (KW (K:=K) rfl) (by rfl) T.n_len Xz (Zb (pv 2) Zn))))))),?_⟩
  refine⟨Xa _,fun z hz=>?_⟩
  have sc:Same H (L2.upd H z (.lst [.int 0])):=Same.new hz
  have hcc:L2.upd H z (.lst [.int 0]) z=some (.lst [.int 0]):=Zf
  generalize L2.upd H z (.lst [.int 0])=H1 at sc hcc⊢
  refine⟨_,rfl,g,G,R,as,rfl,W.grid.same sc,fun H2 p ps css s2 hp hps hP hpi=>?_⟩
  have hlen:=Zy hP.each
  have hle:=Tl ok hpi
  refine⟨p,rfl,⟨_,SqL.of hP.at_⟩,fun D hD=>T7 (K:=K) (a:=p) (xs:=ZV ps) (fun ys H'=>Same H2 H'/\H' D=some (.lst ys)/\ys=ZQ ((css.take ys.length).map fun cs=>(cs.length:Int))) ⟨Same.new hD,Zf,rfl⟩
   (fun ys H' ⟨s3,_⟩=>SqL.of (s3 _ _ hP.at_)) (by rw[Za,hlen];exact Zi hle (by decide)) (fun _=>rfl) (fun ys H' ⟨_,h,_⟩=>h) ?_ ?_⟩
  ·rintro ys x H' Rr hx ⟨s3,hDD,ey⟩ hR
   obtain⟨b,hb,rfl⟩:=Xr hx
   obtain⟨cs,hcs,ts,hC⟩:=Z4 hP.each hb
   refine⟨_,rfl,b,_,rfl,.inl (SqL.of (s3 _ _ hC.at_)),hR _ _ hDD ⟨Xg hD s3,Zf,?_⟩⟩
   rw[Zj,Z6,take_snoc hcs,ZJ]
   unfold ZQ at ey⊢
   rw[ZJ,<-ey,Za,Zy hC.each]
   rfl
  ·rintro ys H' hyl ⟨s3,hDD,ey⟩
   rw[Za]at hyl
   rw[Ya (by omega)]at ey
   refine⟨z,D,_,_,rfl,rfl,s3 _ _ (s2 _ _ hcc),hDD,?_,fun q hq=>?_⟩
   ·rw[hyl,hlen]
    exact Zi (show _<=1700 by simp only[Zo,Yc];omega) (by decide)
   ·have s03:=(sc.trans s2).trans s3
    have f1:Fm g s R as R as H H':=Fm.same s03
    refine k _ q R as i ((W.same s03).fin hq) rfl (f1.fin hq) (f1.sf hq) ?_
    show L2.upd _ q _ q=_
    rw[Zf,ey]
    have e:(css.map fun cs=>(cs.length:Int))=(Vamato.piecesOf G).map fun p=>Vamato.nat p.area:=by
     have:∀{css:List (List (Nat×Nat))}{gs:List Vamato.Grid},Paired Xo css gs->(css.map fun cs=>(cs.length:Int))=gs.map fun p=>Vamato.nat p.area:=by
      intro css gs h
      induction h with
      |nil=>rfl
      |cons r _ ih=>rw[ZB,ZB,ih,MQ r];rfl
     exact this hpi
    rw[e]
    rfl
theorem range_one{hit:Nat->Bool}{k0:Nat}:∀{n:Nat},k0<n->hit k0=true->(∀k,k<n->hit k=true->k=k0)->(List.range n).filter hit=[k0]
 |0,h,_,_=>absurd h (WN _)
 |n+1,h,h0,hu=>by
  rw[YC,Y9]
  by_cases e:k0=n
  ·subst e
   have:(List.range k0).filter hit=[]:=by
    rw[List.filter_eq_nil_iff]
    intro k hk hh
    have:=hu k (by have:=Ye.mp hk;omega) hh
    have:=Ye.mp hk
    omega
   rw[this,Yl h0]
   rfl
  ·have hn:¬hit n=true:=fun z=>e (hu n (by omega) z).symm
   rw[range_one (by omega) h0 fun k hk hh=>hu k (by omega) hh,Yk hn]
   rfl
noncomputable def hitC(css:List (List (Nat×Nat)))(c:Nat×Nat)(k:Nat):Bool:=match css[k]? with
 |some cs=>decide (c∈cs)
 |none=>false
noncomputable def idxC(css:List (List (Nat×Nat)))(c:Nat×Nat)(n:Nat):List Int:=((List.range n).filter (hitC css c)).map fun(k:Nat)=>(k:Int)
theorem Oy(css:List (List (Nat×Nat)))(c:Nat×Nat)(n:Nat):idxC css c (n+1)=idxC css c n++(if hitC css c n=true then[(n:Int)]else[]):=by
 unfold idxC
 rw[YC,Y9,ZJ]
 congr 1
 by_cases h:hitC css c n=true
 ·rw[if_pos h,Yl h];rfl
 ·rw[if_neg h,Yk h];rfl
theorem idxC_len(css:List (List (Nat×Nat)))(c:Nat×Nat)(n:Nat):(idxC css c n).length<=n:=by
 unfold idxC
 rw[Za]
 refine Zi (YS _ _) ?_
 rw[YF]
 exact Zl _
theorem O5{G:Vamato.Grid}{css:List (List (Nat×Nat))}(hpi:Paired Xo css (Vamato.piecesOf G)){c:Nat×Nat}(h1:c.1<G.width)(h2:c.2<G.height)(hc:G.painted c.1 c.2=true):
  ∃k0:Nat,((Vamato.piecesOf G).findIdx? fun p=>p.painted c.1 c.2)=some k0/\idxC css c css.length=[(k0:Int)]:=by
 have hm:=WI G
 obtain⟨p,hp,hpc⟩:=hm.all c (Ua.mpr ⟨h1,h2⟩) hc
 obtain⟨k0,hk0⟩:=Zx.mp hp
 have hit_iff:∀k,hitC css c k=true↔∃q,(Vamato.piecesOf G)[k]?=some q/\q.painted c.1 c.2=true:=fun k=>by
  unfold hitC
  cases e:css[k]? with
  |none=>
   have:(Vamato.piecesOf G)[k]?=none:=by
    rw[List.getElem?_eq_none_iff]at e⊢
    rw[<-Zy hpi]
    exact e
   rw[this]
   simp
  |some cs=>
   obtain⟨q,hq,hi⟩:=Z4 hpi e
   rw[hq]
   simp only[decide_eq_true_eq,Option.some.injEq,exists_eq_left']
   exact hi.2 c
 have uniq:∀k q,(Vamato.piecesOf G)[k]?=some q->q.painted c.1 c.2=true->k=k0:=fun k q hq hqc=>by
  rcases Nat.lt_trichotomy k k0 with h|h|h
  ·exfalso
   obtain⟨ha,ea⟩:=Zd.mp hq
   obtain⟨hb,eb⟩:=Zd.mp hk0
   have:=(Xl.mp hm.apart) k k0 ha hb h c (by rw[ea];exact hqc)
   rw[eb,hpc]at this
   cases this
  ·exact h
  ·exfalso
   obtain⟨ha,ea⟩:=Zd.mp hq
   obtain⟨hb,eb⟩:=Zd.mp hk0
   have:=(Xl.mp hm.apart) k0 k hb ha h c (by rw[eb];exact hpc)
   rw[ea,hqc]at this
   cases this
 have hk0l:k0<(Vamato.piecesOf G).length:=(Zd.mp hk0).1
 refine⟨k0,?_,?_⟩
 ·rw[List.findIdx?_eq_some_iff_getElem]
  refine⟨hk0l,?_,fun j hj=>?_⟩
  ·rw[(Zd.mp hk0).2]
   exact hpc
  ·intro z
   have:=uniq j _ (Zu (by omega)) z
   omega
 ·unfold idxC
  rw[range_one (k0:=k0) (by rw[Zy hpi];exact hk0l) ((hit_iff k0).mpr ⟨p,hk0,hpc⟩) fun k _ hk=>by
   obtain⟨q,hq,hqc⟩:=(hit_iff k).mp hk
   exact uniq k q hq hqc]
  rfl
theorem no_piece{G:Vamato.Grid}{c:Nat×Nat}(hc:G.painted c.1 c.2=false):((Vamato.piecesOf G).findIdx? fun p=>p.painted c.1 c.2)=none:=by
 rw[List.findIdx?_eq_none_iff]
 intro p hp
 cases h:p.painted c.1 c.2 with
 |false=>rfl
 |true=>
  have:=((WI G).each p hp).ok h
  rw[this.2.2]at hc
  cases hc
noncomputable abbrev sCPc:Stmt:=top 80
theorem scCPc:ZP ["grid","source","i","j","k","cells"] ["grid","source"] (Zh sCPc):=⟨rfl,rfl,rfl,by decide +kernel,rfl,by decide +kernel,by decide +kernel⟩
theorem ok_cpc{f:Addr}{fd:FuncData}(F:Fun K "piece" "piece" sCPc f fd)(TC:TxtC K mg cGrid)(T:TxtM mg)(M_Source_take_number:Y5 P w K mg base cSrc "take_number" 1 ["self"] (WO K cSrc))(M_Grid_has_cell:Y5 P w K mg base cGrid "has_cell" 2 ["self","i","j"] (Pw cGrid))
  (C_pieces_of:Callee P w K mg base "pieces_of" 4 ["grid"] (Pu cGrid)):FnOk P w K mg base CX0 8 f fd ["grid","source"] (Yi K cGrid cSrc 13):=by
 refine F.ok scCPc (fun vs H Q E h=>?_) (fun cdv A outer s0 H vs Q E hr h=>?_)
 ·obtain⟨g,s,a,G,R,as,l,i,c,t,rfl,_⟩:=h
  rfl
 ·obtain⟨g,s,a,G,R,as,l,i,c,t,rfl,W,hgv,k⟩:=h
  obtain⟨x,y,hx,hy,rfl,rfl⟩:=given2 hgv rfl
  have nd:=scCPc.nd
  have ok:=W.grid.ok
  have est:VamatoNeutral.step G [[13,x,y]]=(G,Vamato.pieceAnswer G x y):=rfl
  rw[est]at k
  unfold Vamato.pieceAnswer at k
  refine⟨_,(Zk (ZZ (i:=2) nd rfl (Or.inr rfl) (Yu (pv 1) M_Source_take_number hr))
   (Zk (ZZ (i:=3) nd rfl (Or.inr rfl) (Yu (pv 1) M_Source_take_number hr))
   (Zk (Xm (Vh (Wj (YW (pv 0) M_Grid_has_cell hr (Zb (pv 2) (Zb (pv 3) Zn))))) (Zr (ZN (Yp (Zb (pe_g rfl T.g_NOT_ON_GRID) Zn)))) Yy)
   (Zk (Xm (Yx UG (Xt YQ (Xt YQ (YT (pv 0) rfl) (pv 3) (fun _ _=>rfl)) (pv 2) (fun _ _=>rfl)) (pe_g rfl T.g_CLEAR) (YU _)) (Zr (ZN (Yp (Zb (pe_g rfl T.g_NO_PIECE) Zn)))) Yy)
   (Zr (ZN (Xf T4 (Yp (Zb ZE Zn)) (X1 rfl nd (Sm (by rfl) T.n_enumerate (Zb (ZU C_pieces_of hr rfl (Zb (pv 0) Zn)) Zn)) (own:=[("k",4),("cells",5)]) (Yr (by kernel_rfl)) (fun _ _ _ _ _=>(V9 (K:=K) (n:=2) rfl rfl (YO (Z2 (i:=4) nd rfl (Or.inl rfl)) (YO (Z2 (i:=5) nd rfl (Or.inl rfl)) WD)))) (fun _ _ _ _ _=>(Sj (Yx (op_inTK (K:=K) rfl hr.units) (Ue (Zb (pv 2) (Zb (pv 3) Zn))) (pv 5) (by with_unfolding_all rfl)))) (fun _ _ _ _ _=>(pv 4)))))))))),?_⟩
  refine WZ W (k:=1) rfl hx fun H1 W1 f1=>WZ W1 (k:=1) rfl hy fun H2 W2 f2=>?_
  have f2:=f1.trans f2
  obtain⟨dx,hg⟩:=W2.grid.at_
  refine⟨_,rfl,g,dx,_,rfl,hg,Wl G R,_,rfl,_,rfl,g,G,R,as,x,y,rfl,W2.grid,_,rfl,ite2 (fun e=>?_) (fun e=>?_)⟩
  ·have e':=UB e
   rw[if_pos e']at k
   exact⟨Xa _,fun q hq=>k _ q R as (i+2) (W2.fin hq) rfl (f2.fin hq) (f2.sf hq) Zf⟩
  ·have e':=UC e
   rw[if_neg (by rw[e'];simp)]at k
   obtain⟨m,n,rfl,rfl,hm,hn⟩:=isCell_iff.mp e'
   rw[show((m:Int)).toNat=m from rfl,show((n:Int)).toNat=n from rfl]at k
   obtain⟨rw',hrw⟩:∃r,as[n]?=some r:=⟨_,Zu (by rw[W.grid.rows.len];exact hn)⟩
   refine⟨_,rfl,g,cGrid,dx,_,_,rfl,hg,TC.cl,TC.a_rows,Wr G R,_,rfl,R,_,_,_,rfl,rfl,SqL.of W2.grid.rows.at_,Xu (j:=n) (v:=.ref rw') rfl (by rw[ZA,hrw];rfl),_,rfl,rw',_,_,_,rfl,rfl,SqL.of (W2.grid.rows.row n rw' hrw),
    Xu (j:=m) (v:=.int (b2i (G.painted m n))) rfl (by rw[ZA,X6 hm];rfl),rfl,_,rfl,ite2 (fun e2=>?_) (fun e2=>?_)⟩
   ·have hf:G.painted m n=false:=by
     cases z:G.painted m n with
     |false=>rfl
     |true=>rw[z]at e2;simp[b2i]at e2
    rw[no_piece (c:=(m,n)) hf]at k
    exact⟨Xa _,fun q hq=>k _ q R as (i+2) (W2.fin hq) rfl (f2.fin hq) (f2.sf hq) Zf⟩
   ·have hf:G.painted m n=true:=by
     cases z:G.painted m n with
     |true=>rfl
     |false=>rw[z]at e2;simp[b2i]at e2
    refine⟨Xa _,fun z hz=>?_⟩
    have sc:Same H2 (L2.upd H2 z (.lst [.int 0])):=Same.new hz
    have hcc:L2.upd H2 z (.lst [.int 0]) z=some (.lst [.int 0]):=Zf
    generalize L2.upd H2 z (.lst [.int 0])=H3 at sc hcc⊢
    refine⟨_,rfl,g,G,R,as,rfl,W2.grid.same sc,fun H4 p ps css s4 hp hps hP hpi=>?_⟩
    have hlen:=Zy hP.each
    have hle:=Tl ok hpi
    obtain⟨k0,hk1,hk2⟩:=O5 hpi (c:=(m,n)) hm hn hf
    rw[hk1]at k
    refine⟨p,_,rfl,SqL.of hP.at_,fun D hD=>Nh (K:=K) (a:=p) (xs:=ZV ps) (n1:=4) (n2:=5) (fun n' H'=>Same H4 H'/\H' D=some (.lst (ZQ (idxC css (m,n) n')))) ⟨Same.new hD,Zf⟩
     (fun n' H' _ ⟨s5,_⟩=>SqL.of (s5 _ _ hP.at_)) (fun _ _=>rfl) ?_ ?_⟩
    ·rintro n' x H5 t5 hx ⟨s5,hDD⟩ ht5
     obtain⟨b,hb,rfl⟩:=Xr hx
     obtain⟨cs,hcs,ts,hC⟩:=Z4 hP.each hb
     have s6:Same H5 (L2.upd H5 t5 (.tup [.int (n':Int),.ref b])):=Same.new ht5
     have hDD6:=s6 _ _ hDD
     have s46:=s5.trans s6
     generalize L2.upd H5 t5 (.tup [.int (n':Int),.ref b])=H6 at s6 hDD6 s46⊢
     refine⟨_,rfl,_,rfl,Ww _ _,fun t7 ht7=>?_⟩
     have s7:Same H6 (L2.upd H6 t7 (.tup [.int (m:Int),.int (n:Int)])):=Same.new ht7
     have ht7':L2.upd H6 t7 (.tup [.int (m:Int),.int (n:Int)]) t7=some (.tup (([(m:Int),(n:Int)]:List Int).map V.int)):=Zf
     generalize L2.upd H6 t7 (.tup [.int (m:Int),.int (n:Int)])=H7 at s7 ht7'⊢
     have hC7:=hC.same (s46.trans s7)
     have hDD7:=s7 _ _ hDD6
     have hpr:Paired (fun u d=>SqT K H7 u (d.map V.int)) ts (cs.map fun c:Nat×Nat=>[(c.1:Int),(c.2:Int)]):=by
      have:∀{ts:List Addr}{cs:List (Nat×Nat)},Paired (Tup H7) ts cs->Paired (fun u d=>SqT K H7 u (d.map V.int)) ts (cs.map fun c:Nat×Nat=>[(c.1:Int),(c.2:Int)]):=by
       intro ts cs h
       induction h with
       |nil=>exact .nil
       |cons r _ ih=>rw[ZB];exact .cons (SqT.of r) ih
      exact this hC7.each
     refine⟨_,rfl,t7,b,[(m:Int),(n:Int)],ts,_,rfl,rfl,SqT.of ht7',SqL.of hC7.at_,hpr,(show 2<=4 by decide),fun d hd=>?_,_,rfl,?_⟩
     ·obtain⟨c,_,rfl⟩:=ZS.mp hd
      exact(by decide:2<=4)
     ·have eh:((cs.map fun c:Nat×Nat=>[(c.1:Int),(c.2:Int)]).any fun d=>decide (d=[(m:Int),(n:Int)]))=hitC css (m,n) n':=by
       unfold hitC
       rw[hcs,Yd,WA]
       simp only[decide_eq_true_eq,ZS]
       constructor
       ·rintro⟨d,⟨c,hc,rfl⟩,e⟩
        injection e with e1 e2
        injection e2 with e2 _
        have:c=(m,n):=by
         obtain⟨c1,c2⟩:=c
         simp only at e1 e2
         have z1:c1=m:=by omega
         have z2:c2=n:=by omega
         rw[z1,z2]
        rw[<-this]
        exact hc
       ·intro h
        exact⟨_,⟨(m,n),h,rfl⟩,rfl⟩
      rw[eh]
      refine ite2 (fun e=>?_) (fun e=>?_)
      ·refine⟨_,rfl,_,hDD7,?_,Xg hD (s46.trans s7),?_⟩
       ·rw[Za]
        have h1:=idxC_len css (m,n) n'
        have h2:n'<ps.length:=(Zd.mp hb).1
        exact Z3 (show _<=1600 by omega) (by decide)
       ·rw[Zf,Oy,if_pos e]
        unfold ZQ
        rw[ZJ]
        rfl
      ·refine⟨s46.trans s7,?_⟩
       rw[Oy,if_neg e,Y6]
       exact hDD7
    ·rintro H5 ⟨s5,hDD⟩
     rw[Za,hlen,hk2]at hDD
     refine⟨z,D,_,_,rfl,rfl,s5 _ _ (s4 _ _ hcc),hDD,(by show 1+1<=sizeLine;decide),fun q hq=>?_⟩
     have s25:=(sc.trans s4).trans s5
     have f5:=f2.trans (Fm.same s25)
     refine k _ q R as (i+2) ((W2.same s25).fin hq) rfl (f5.fin hq) (f5.sf hq) ?_
     show L2.upd _ q _ q=_
     rw[Zf]
     rfl
theorem Pl{H1:Hp}{p D g R:Addr}{G:Vamato.Grid}{as ps:List Addr}{css:List (List (Nat×Nat))}{v:Bool}{sl:Nat}{te:TE}{σ:L2.St}{Qd:Hp->Prop}(hG:Ys cGrid H1 g G R as)(hP:VL H1 p ps css)(hI:∀cs∈css,Ins G cs/\cs.length<=1600)(hpa:p∉as)(hpsa:∀a∈ps,a∉as)(hl:ps.length<=1600)(hD:H1 D=none)
  (hw:∀x:V,wipe ((wipe σ [sl]).set sl (some x)) [sl]=wipe σ [sl])
  (hs:∀(a:Addr)(ts:List Addr)(cs:List (Nat×Nat))(q:Nat->Nat->Bool)(H':Hp)(R':VK),Ys cGrid H' g (G.with q) R as->YR H' a ts cs->Ins G cs->a∉as->cs.length<=1600->
   (∀H'' q'(n:Nat),Ys cGrid H'' g (G.with q') R as->over (G.with q).painted v (fun i j=>(i,j)∈cs) q' G.width G.height->n+cnt G.width G.height (fun i j=>(G.with q).painted i j==v)=cnt G.width G.height (fun i j=>q' i j==v)->Xi as H' H''->R' (.int (n:Int)) H'')->te ((wipe σ [sl]).set sl (some (.ref a))) H' R')
  (hd:∀H' zs q(c:Nat),Ys cGrid H' g (G.with q) R as->over G.painted v (fun i j=>(i,j)∈css.flatten) q G.width G.height->c+cnt G.width G.height (fun i j=>G.painted i j==v)=cnt G.width G.height (fun i j=>q i j==v)->LI H' D zs->zs.sum=(c:Int)->Xi as H1 H'->Qd H'):
  ∃W:Nat->Nat->Hp->Prop,(∃m,W 0 m (L2.upd H1 D (.lst [])))/\∀i m H,W i m H->
   ((Itl K p).stop i H/\Qd H)\/((Itl K p).go i H/\∃Nx:Hp->Prop,(∀H',Nx H'->∃m',m'<m/\W (i+1) m' H')/\∀x H',(Itl K p).yld i H x H'->VD sl x (wipe σ [sl]) H' fun σ2 H2=>wipe σ2 [sl]=wipe σ [sl]/\tYes σ2 H2 fun b H3=>
    if b=true then te σ2 H3 fun y H4=>∃acc,H4 D=some (.lst acc)/\acc.length<sizeLine/\Nx (L2.upd H4 D (.lst (acc++[y])))else Nx H3):=by
 obtain⟨n1,n2,n3⟩:=Ss hG hD
 have hlen:=Zy hP.each
 refine T7 (K:=K) (a:=p) (xs:=ZV ps)
  (fun ys H'=>∃(zs:List Int)(c:Nat)(q:Nat->Nat->Bool),ys=ZQ zs/\zs.sum=(c:Int)/\Ys cGrid H' g (G.with q) R as/\over G.painted v (fun i j=>(i,j)∈(css.take ys.length).flatten) q G.width G.height/\c+cnt G.width G.height (fun i j=>G.painted i j==v)=cnt G.width G.height (fun i j=>q i j==v)/\H' D=some (.lst ys)/\Xi as H1 H')
  ⟨[],0,G.painted,rfl,rfl,by rw[Ui hG.ok.told];exact hG.same (Same.new hD),fun i j _ _=>⟨fun z=>by simp at z,fun _=>rfl⟩,by omega,Zf,Xi.of_same (Same.new hD)⟩
  (fun ys H' ⟨_,_,_,_,_,_,_,_,_,h7⟩=>SqL.of (h7 _ _ hP.at_ hpa)) (by rw[Za];exact Zi hl (by decide)) hw (fun ys H' ⟨_,_,_,_,_,_,_,_,h6,_⟩=>h6) ?_ ?_
 ·rintro ys x H' Rr hx ⟨zs,c,q,rfl,h2,h3,h4,h5,h6,h7⟩ hR
  obtain⟨a,ha,rfl⟩:=Xr hx
  obtain⟨cs,hcs,ts,hC⟩:=Z4 hP.each ha
  have hic:=hI cs (Zp hcs)
  have haa:=hpsa a (Zp ha)
  refine hs a ts cs q H' Rr h3 (hC.but hG.rows haa h7) hic.1 haa hic.2 fun H'' q' n hG'' ho hc hbr=>hR _ _ (hbr _ _ h6 n3) ?_
  have hc':cnt G.width G.height (fun i j=>(G.with q).painted i j==v)=cnt G.width G.height (fun i j=>q i j==v):=Ws fun i j hi hj=>by rw[Y3 hi hj]
  refine⟨zs++[(n:Int)],c+n,q',by simp[ZQ],by simp[h2],hG''.upd_other n1 n2 n3,?_,by omega,Zf,?_⟩
  ·refine(h4.more ho).congr fun i j _ _=>?_
   rw[Zj,Z6,take_snoc hcs,List.flatten_append]
   simp
  ·intro x o e n
   rw[Zt (ZD e hD)]
   exact hbr _ _ (h7 _ _ e n) n
 ·rintro ys H' hyl ⟨zs,c,q,rfl,h2,h3,h4,h5,h6,h7⟩
  have hyl:(ZQ zs).length=ps.length:=by rw[hyl];exact Za ..
  rw[Ya (by omega)]at h4
  exact hd H' zs q c h3 h4 h5 h6 h2 h7
theorem holes_le{G:Vamato.Grid}(ok:GOk G){css:List (List (Nat×Nat))}(hpi:Paired Xo css (Vamato.holesOf G)):css.length<=1600/\∀cs∈css,Ins G cs/\cs.length<=1600:=by
 have hm:=Vp (g:=Vamato.holeCells G) (corners:=true) (allowed:=(Vamato.holeCells G).painted)
 have e:Vamato.piecesBy (Vamato.holeCells G) true (Vamato.holeCells G).painted=Vamato.holesOf G:=rfl
 rw[e]at hm
 have hw:(Vamato.holeCells G).width*(Vamato.holeCells G).height<=1600:=YE ok.w2 ok.h2
 refine⟨by rw[Zy hpi];exact Zi (TZ hm hpi) hw,fun cs hc=>?_⟩
 obtain⟨q,hq,hi⟩:=Xy hpi hc
 have hp:=hm.each q hq
 exact⟨fun c hcc=>let z:=hp.ok ((hi.2 c).mp hcc);⟨z.1,z.2.1⟩,Zi (Tn hp hi) hw⟩
noncomputable abbrev P7:Stmt:=top 82
theorem scCHls:ZP ["grid","source"] ["grid","source"] (Zh P7):=⟨rfl,rfl,rfl,by decide +kernel,rfl,by decide +kernel,by decide +kernel⟩
theorem ok_chls{f:Addr}{fd:FuncData}(F:Fun K "holes" "holes" P7 f fd)(T:TxtM mg)(C_holes_of:Callee P w K mg base "holes_of" 4 ["grid"] (Ly cGrid)):FnOk P w K mg base CX0 8 f fd ["grid","source"] (Yi K cGrid cSrc 15):=by
 refine F.ok scCHls (fun vs H Q E h=>?_) (fun cdv A outer s0 H vs Q E hr h=>?_)
 ·obtain⟨g,s,a,G,R,as,l,i,c,t,rfl,_⟩:=h
  rfl
 ·obtain⟨g,s,a,G,R,as,l,i,c,t,rfl,W,hgv,k⟩:=h
  obtain⟨rfl,rfl⟩:=U1 hgv rfl
  have ok:=W.grid.ok
  have est:VamatoNeutral.step G [[15]]=(G,[0,Vamato.nat (Vamato.holesOf G).length]):=rfl
  rw[est]at k
  refine⟨_,(Zr (ZN (Yp (Zb ZE (Zb (Yf Yn (by rfl) T.n_len Xz (Zb (ZU C_holes_of hr rfl (Zb (pv 0) Zn)) Zn)) Zn))))),?_⟩
  refine⟨_,rfl,g,G,R,as,rfl,W.grid,fun H1 p ps css s1 hp hps hP hpi=>⟨p,_,rfl,.inl (SqL.of hP.at_),Ww _ _,fun q hq=>?_⟩⟩
  have f1:Fm g s R as R as H H1:=Fm.same s1
  refine k _ q R as i ((W.same s1).fin hq) rfl (f1.fin hq) (f1.sf hq) ?_
  show L2.upd _ q _ q=_
  rw[Zf,Za,Zy hP.each,Zy hpi]
  rfl
theorem due_fill{G:Vamato.Grid}{css:List (List (Nat×Nat))}{q:Nat->Nat->Bool}{c:Nat}(hpi:Paired Xo css (Vamato.holesOf G))(ho:over G.painted true (fun i j=>(i,j)∈css.flatten) q G.width G.height)
  (hc:c+cnt G.width G.height (fun i j=>G.painted i j==true)=cnt G.width G.height (fun i j=>q i j==true)):Vamato.become G (Vamato.filled G)=(G.with q,[0,(c:Int)]):=by
 have eq:Vamato.filled G=G.with q:=by
  show G.with (fun i j=>G.painted i j||(Vamato.holeCells G).painted i j)=G.with q
  refine Tr fun i j hi hj=>?_
  have h2:=ho i j hi hj
  have h1:(Vamato.holeCells G).painted i j=true↔(i,j)∈css.flatten:=by
   rw[hole_iff G (i,j),<-QP]
   constructor
   ·rintro⟨p,hp,hpc⟩
    obtain⟨cs,hcs,hi⟩:=Uw hpi hp
    exact Xp.mpr ⟨cs,hcs,(hi.2 (i,j)).mpr hpc⟩
   ·intro h
    obtain⟨cs,hcs,hcc⟩:=Xp.mp h
    obtain⟨p,hp,hi⟩:=Xy hpi hcs
    exact⟨p,hp,(hi.2 (i,j)).mp hcc⟩
  by_cases z:(i,j)∈css.flatten
  ·rw[h2.1 z,h1.mpr z,Bool.or_true]
  ·rw[h2.2 z]
   cases e:(Vamato.holeCells G).painted i j with
   |false=>rw[Bool.or_false]
   |true=>exact(z (h1.mp e)).elim
 rw[eq]
 have hch:=Tv (v:=true) (fun i j hi hj e=>by
  by_cases z:(i,j)∈css.flatten
  ·exact(ho i j hi hj).1 z
  ·rw[(ho i j hi hj).2 z];exact e) hc
 unfold Vamato.become
 rw[hch]
 rfl
noncomputable abbrev SZ:Stmt:=top 83
theorem scCFill:ZP ["grid","source","cells"] ["grid","source"] (Zh SZ):=⟨rfl,rfl,rfl,by decide +kernel,rfl,by decide +kernel,by decide +kernel⟩
theorem ok_cfill{f:Addr}{fd:FuncData}(F:Fun K "fill" "fill" SZ f fd)(T:TxtM mg)(M_Grid_turn_all:Y5 P w K mg base cGrid "turn_all" 2 ["self","cells","way"] (Qh cGrid))(C_holes_of:Callee P w K mg base "holes_of" 4 ["grid"] (Ly cGrid)):FnOk P w K mg base CX0 8 f fd ["grid","source"] (Yi K cGrid cSrc 16):=by
 refine F.ok scCFill (fun vs H Q E h=>?_) (fun cdv A outer s0 H vs Q E hr h=>?_)
 ·obtain⟨g,s,a,G,R,as,l,i,c,t,rfl,_⟩:=h
  rfl
 ·obtain⟨g,s,a,G,R,as,l,i,c,t,rfl,W,hgv,k⟩:=h
  obtain⟨rfl,rfl⟩:=U1 hgv rfl
  have ok:=W.grid.ok
  have nd:=scCFill.nd
  have est:VamatoNeutral.step G [[16]]=Vamato.become G (Vamato.filled G):=rfl
  rw[est]at k
  refine⟨_,(Zr (ZN (Yp (Zb ZE (Zb (Yf (Rm rfl) (by rfl) T.n_sum boot_sum (Zb (X1 rfl nd (YN (ZU C_holes_of hr rfl (Zb (pv 0) Zn))) (own:=[("cells",2)]) (Yr (by kernel_rfl)) (fun _ _ _ _ _=>(Z2 (i:=2) nd rfl (Or.inl rfl))) (fun _ _ _ _ _=>Y4) (fun _ _ _ _ _=>(YW (pv 0) M_Grid_turn_all hr (Zb (pv 2) (Zb (pe_g rfl T.g_PAINTED) Zn))))) Zn)) Zn))))),?_⟩
  refine⟨_,rfl,g,G,R,as,rfl,W.grid,fun H1 p ps css s1 hp hps hP hpi=>?_⟩
  obtain⟨hle,hI⟩:=holes_le ok hpi
  have W1:=W.same s1
  have f1:Fm g s R as R as H H1:=Fm.same s1
  have hlen:=Zy hP.each
  refine⟨p,rfl,⟨_,SqL.of hP.at_⟩,fun D hD=>Pl (v:=true) W1.grid hP hI (W.grid.rows.no_none hp) (fun a ha=>W.grid.rows.no_none (hps a ha)) (by omega) hD (fun _=>rfl) (fun b ts cs q H' R' hGq hC hIn hba hcl hR=>?_) (fun H2 zs q c hGq ho hc hL hz hbr=>?_)⟩
  ·obtain⟨dx,hg⟩:=hGq.at_
   exact⟨_,rfl,g,dx,_,rfl,hg,Wl _ R,_,rfl,g,G.with q,R,as,b,ts,cs,true,rfl,hGq,hC,hIn,hba,hcl,fun H'' q' n h1 h2 h3 h4=>hR H'' q' n h1 h2 h3 h4⟩
  ·rw[due_fill hpi ho hc]at k
   refine⟨D,zs,rfl,SqL.of hL,Ww _ _,fun z hz2=>?_⟩
   have W2:=W1.rows hGq hbr
   have f2:=f1.trans (Fm.rows hbr)
   refine k _ z R as i (W2.fin hz2) rfl (f2.fin hz2) (f2.sf hz2) ?_
   show L2.upd _ z _ z=some (.lst (ZQ [0,(c:Int)]))
   rw[Zf,hz]
   rfl
theorem RC{α β:Type}{F:α->β->Prop}:∀{l:List α}{m:List β},Paired F l m->∀n,Paired F (l.take n) (m.take n)
 |_,_,.nil,n=>by rw[List.take_nil,List.take_nil];exact .nil
 |_,_,.cons r t,0=>.nil
 |_,_,.cons r t,n+1=>.cons r (RC t n)
theorem RD{α β:Type}{F:α->β->Prop}:∀{l:List α}{m:List β},Paired F l m->∀n,Paired F (l.drop n) (m.drop n)
 |_,_,.nil,n=>by rw[List.drop_nil,List.drop_nil];exact .nil
 |_,_,.cons r t,0=>.cons r t
 |_,_,.cons r t,n+1=>RD t n
theorem due_keep{G:Vamato.Grid}(hT:Told G){css:List (List (Nat×Nat))}{q:Nat->Nat->Bool}{c n:Nat}{p:Vamato.Grid}(hpi:Paired Xo css (Vamato.piecesOf G))(hp:(Vamato.piecesOf G)[n]?=some p)(ho:over G.painted false (fun i j=>(i,j)∈(css.take n++css.drop (n+1)).flatten) q G.width G.height)
  (hc:c+cnt G.width G.height (fun i j=>G.painted i j==false)=cnt G.width G.height (fun i j=>q i j==false)):Vamato.become G p=(G.with q,[0,(c:Int)]):=by
 have hm:=WI G
 have hpp:=hm.each p (Zp hp)
 have key:∀i j,(i,j)∈(css.take n++css.drop (n+1)).flatten↔∃m q,m≠n/\(Vamato.piecesOf G)[m]?=some q/\q.painted i j=true:=fun i j=>by
  rw[Xp]
  constructor
  ·rintro⟨cs,hcs,hcc⟩
   rcases Zs.mp hcs with h|h
   ·obtain⟨m,hm⟩:=Zx.mp h
    rw[List.getElem?_take]at hm
    by_cases z:m<n
    ·rw[if_pos z]at hm
     obtain⟨q,hq,hi⟩:=Z4 hpi hm
     exact⟨m,q,by omega,hq,(hi.2 (i,j)).mp hcc⟩
    ·rw[if_neg z]at hm;cases hm
   ·obtain⟨m,hm⟩:=Zx.mp h
    rw[XJ]at hm
    obtain⟨q,hq,hi⟩:=Z4 hpi hm
    exact⟨_,q,by omega,hq,(hi.2 (i,j)).mp hcc⟩
  ·rintro⟨m,q,hmn,hq,hqc⟩
   have hlt:m<css.length:=by rw[Zy hpi];exact(Zd.mp hq).1
   obtain⟨cs,hcs⟩:∃cs,css[m]?=some cs:=⟨_,Zu hlt⟩
   obtain⟨q',hq',hi⟩:=Z4 hpi hcs
   have:q'=q:=ZC (hq'.symm.trans hq)
   subst this
   refine⟨cs,?_,(hi.2 (i,j)).mpr hqc⟩
   rw[Zs]
   by_cases z:m<n
   ·refine .inl (Zx.mpr ⟨m,?_⟩)
    rw[List.getElem?_take,if_pos z]
    exact hcs
   ·refine .inr (Zx.mpr ⟨m-(n+1),?_⟩)
    rw[XJ,show n+1+(m-(n+1))=m by omega]
    exact hcs
 have apart:∀{m1 m2:Nat}{p1 p2:Vamato.Grid}{i j:Nat},(Vamato.piecesOf G)[m1]?=some p1->(Vamato.piecesOf G)[m2]?=some p2->p1.painted i j=true->p2.painted i j=true->m1=m2:=fun{m1 m2 p1 p2 i j} h1 h2 e1 e2=>by
  obtain⟨ha,ea⟩:=Zd.mp h1
  obtain⟨hb,eb⟩:=Zd.mp h2
  rcases Nat.lt_trichotomy m1 m2 with h|h|h
  ·exfalso
   have:=(Xl.mp hm.apart) m1 m2 ha hb h (i,j) (by rw[ea];exact e1)
   rw[eb,e2]at this;cases this
  ·exact h
  ·exfalso
   have:=(Xl.mp hm.apart) m2 m1 hb ha h (i,j) (by rw[eb];exact e2)
   rw[ea,e1]at this;cases this
 have hsub:∀i j,i<G.width->j<G.height->G.painted i j=false->q i j=false:=fun i j hi hj e=>by
  by_cases z:(i,j)∈(css.take n++css.drop (n+1)).flatten
  ·exact(ho i j hi hj).1 z
  ·rw[(ho i j hi hj).2 z];exact e
 have eq:p=G.with q:=by
  obtain⟨s1,s2,s3,s4,s5⟩:=hpp.same
  refine Su s1 s2 s3 s4 s5 hpp.told (VN G q) fun i j hi hj=>?_
  rw[s3]at hi
  rw[s4]at hj
  rw[Y3 hi hj]
  have h2:=ho i j hi hj
  by_cases z:(i,j)∈(css.take n++css.drop (n+1)).flatten
  ·rw[h2.1 z]
   obtain⟨m,q',hmn,hq',hqc⟩:=(key i j).mp z
   cases e:p.painted i j with
   |false=>rfl
   |true=>exact(hmn (apart hq' hp hqc e)).elim
  ·rw[h2.2 z]
   cases e:G.painted i j with
   |false=>
    cases e2:p.painted i j with
    |false=>rfl
    |true=>
     have:=(hpp.ok (d:=(i,j)) e2).2.2
     rw[e]at this;cases this
   |true=>
    obtain⟨q',hq',hqc⟩:=hm.all (i,j) (Ua.mpr ⟨hi,hj⟩) e
    obtain⟨m,hmq⟩:=Zx.mp hq'
    have:m=n:=ZY fun y=>z ((key i j).mpr ⟨m,q',y,hmq,hqc⟩)
    subst this
    have:q'=p:=ZC (hmq.symm.trans hp)
    rw[<-this]
    exact hqc
 rw[eq]
 have hch:=Tv (v:=false) hsub hc
 unfold Vamato.become
 rw[hch]
 rfl
noncomputable abbrev SY:Stmt:=top 81
theorem scCKeep:ZP ["grid","source","k","found","others","cells"] ["grid","source"] (Zh SY):=⟨rfl,rfl,rfl,by decide +kernel,rfl,by decide +kernel,by decide +kernel⟩
theorem ok_ckeep{f:Addr}{fd:FuncData}(F:Fun K "keep" "keep" SY f fd)(T:TxtM mg)(M_Source_take_number:Y5 P w K mg base cSrc "take_number" 1 ["self"] (WO K cSrc))(M_Grid_turn_all:Y5 P w K mg base cGrid "turn_all" 2 ["self","cells","way"] (Qh cGrid))(C_pieces_of:Callee P w K mg base "pieces_of" 4 ["grid"] (Pu cGrid)):
  FnOk P w K mg base CX0 8 f fd ["grid","source"] (Yi K cGrid cSrc 14):=by
 refine F.ok scCKeep (fun vs H Q E h=>?_) (fun cdv A outer s0 H vs Q E hr h=>?_)
 ·obtain⟨g,s,a,G,R,as,l,i,c,t,rfl,_⟩:=h
  rfl
 ·obtain⟨g,s,a,G,R,as,l,i,c,t,rfl,W,hgv,k⟩:=h
  obtain⟨x,hx,rfl,rfl⟩:=Nj hgv rfl
  have nd:=scCKeep.nd
  have ok:=W.grid.ok
  have est:VamatoNeutral.step G [[14,x]]=(match Vamato.pieceNumber G x with|none=>(G,[-3])|some p=>Vamato.become G p):=rfl
  rw[est]at k
  unfold Vamato.pieceNumber at k
  refine⟨_,(Zk (ZZ (i:=2) nd rfl (Or.inl rfl) (Yu (pv 1) M_Source_take_number hr))
   (Zk (ZZ (i:=3) nd rfl (Or.inl rfl) (ZU C_pieces_of hr rfl (Zb (pv 0) Zn)))
   (Zk (Xm (Vh (US X7 TH ZE (pv 2) (Yf Yn (by rfl) T.n_len Xz (Zb (pv 3) Zn)))) (Zr (ZN (Yp (Zb (pe_g rfl T.g_NO_PIECE) Zn)))) Yy)
   (Zk (ZZ (i:=4) nd rfl (Or.inl rfl) (Xf T4 (XD Wb (pv 3) Wc (XY (pv 2))) (XD Wb (pv 3) (XY (Xf Vi (pv 2) ZE)) Wc)))
   (Zr (ZN (Yp (Zb ZE (Zb (Yf (Rm rfl) (by rfl) T.n_sum boot_sum (Zb (X1 rfl nd (YN (pv 4)) (own:=[("cells",5)]) (Yr (by kernel_rfl)) (fun _ _ _ _ _=>(Z2 (i:=5) nd rfl (Or.inl rfl))) (fun _ _ _ _ _=>Y4) (fun _ _ _ _ _=>(YW (pv 0) M_Grid_turn_all hr (Zb (pv 5) (Zb (pe_g rfl T.g_CLEAR) Zn))))) Zn)) Zn))))))))),?_⟩
  refine WZ W (k:=1) rfl hx fun H1 W1 f1=>?_
  refine⟨_,rfl,g,G,R,as,rfl,W1.grid,fun H2 p ps css s2 hp hps hP hpi=>?_⟩
  have hlen:=Zy hP.each
  have hlen2:=Zy hpi
  have hle:=Tl ok hpi
  have W2:=W1.same s2
  have f2:=f1.trans (Fm.same s2)
  have no:¬(0<=x/\x<(ps.length:Int))->∀q,H2 q=none->Q (.ref q) (L2.upd H2 q (.lst [.int (-3)])):=fun e q hq=>by
   have e1:(if x<0 then none else(Vamato.piecesOf G)[x.toNat]?)=none:=by
    by_cases z:x<0
    ·rw[if_pos z]
    ·rw[if_neg z,Z7]
     omega
   rw[e1]at k
   exact k _ q R as (i+1) (W2.fin hq) rfl (f2.fin hq) (f2.sf hq) Zf
  refine⟨_,rfl,_,_,rfl,rfl,_,rfl,ite2 (fun e1=>?_) (fun e1=>?_)⟩
  ·have e1':0<=x:=of_decide_eq_true e1
   refine⟨_,rfl,p,_,rfl,.inl (SqL.of hP.at_),_,_,rfl,rfl,_,rfl,ite2 (fun e2=>?_) (fun e2=>?_)⟩
   ·have e2':¬x<(ps.length:Int):=by
     have:=UB e2
     rw[decide_eq_false_iff_not,Za]at this
     exact this
    exact⟨Xa _,fun q hq=>no (fun z=>e2' z.2) q hq⟩
   ·have e2':x<(ps.length:Int):=by
     have:=UC e2
     rw[decide_eq_true_eq,Za]at this
     exact this
    obtain⟨n,rfl⟩:∃n:Nat,x=(n:Int):=⟨x.toNat,by omega⟩
    have hn:n<ps.length:=by omega
    obtain⟨pc,hpc⟩:∃pc,(Vamato.piecesOf G)[n]?=some pc:=⟨_,Zu (by omega)⟩
    have e3:(if(n:Int)<0 then none else(Vamato.piecesOf G)[((n:Int)).toNat]?)=some pc:=by
     rw[if_neg (by omega)]
     exact hpc
    rw[e3]at k
    refine⟨_,rfl,_,rfl,_,rfl,p,_,rfl,SqL.of hP.at_,fun b1 hb1=>?_⟩
    have s3:Same H2 (L2.upd H2 b1 (.lst (cutV (ZV ps) none (some (n:Int))))):=Same.new hb1
    have hb1':L2.upd H2 b1 (.lst (cutV (ZV ps) none (some (n:Int)))) b1=some (.lst (ZV (ps.take n))):=by
     rw[Zf,cut_to]
     unfold ZV
     rw[List.map_take]
    generalize L2.upd H2 b1 (.lst (cutV (ZV ps) none (some (n:Int))))=H3 at s3 hb1'⊢
    refine⟨_,rfl,_,rfl,_,_,rfl,rfl,_,rfl,p,_,rfl,SqL.of (s3 _ _ hP.at_),fun b2 hb2=>?_⟩
    have ecut:cutV (ZV ps) (some ((n:Int)+1)) none=ZV (ps.drop (n+1)):=by
     rw[show(n:Int)+1=((n+1:Nat):Int) by omega,QZ]
     unfold ZV
     rw[WM]
    have s4:Same H3 (L2.upd H3 b2 (.lst (cutV (ZV ps) (some ((n:Int)+1)) none))):=Same.new hb2
    have hb2':L2.upd H3 b2 (.lst (cutV (ZV ps) (some ((n:Int)+1)) none)) b2=some (.lst (ZV (ps.drop (n+1)))):=by
     rw[Zf,ecut]
    generalize L2.upd H3 b2 (.lst (cutV (ZV ps) (some ((n:Int)+1)) none))=H4 at s4 hb2'⊢
    refine⟨b1,b2,_,_,rfl,rfl,s4 _ _ hb1',hb2',?_,fun o ho=>?_⟩
    ·rw[Za,Za,Yj,Z5]
     exact Zi (show _<=3300 by omega) (by decide)
    have s5:Same H4 (L2.upd H4 o (.lst (ZV (ps.take n)++ZV (ps.drop (n+1))))):=Same.new ho
    have ho':L2.upd H4 o (.lst (ZV (ps.take n)++ZV (ps.drop (n+1)))) o=some (.lst (ZV (ps.take n++ps.drop (n+1)))):=by
     rw[Zf]
     unfold ZV
     rw[ZJ]
    have s35:=(s3.trans s4).trans s5
    have hon:H2 o=none:=(s3.trans s4).free ho
    generalize L2.upd H4 o (.lst (ZV (ps.take n)++ZV (ps.drop (n+1))))=H5 at s5 ho' s35⊢
    have hP5:VL H5 o (ps.take n++ps.drop (n+1)) (css.take n++css.drop (n+1)):=⟨ho',Ux (RC (hP.same s35).each n) (RD (hP.same s35).each (n+1))⟩
    have W5:=W2.same s35
    have f5:=f2.trans (Fm.same s35)
    have hsubp:∀a∈ps.take n++ps.drop (n+1),a∈ps:=fun a ha=>by
     rcases Zs.mp ha with h|h
     ·exact XX h
     ·exact VF h
    have hI:∀cs∈css.take n++css.drop (n+1),Ins G cs/\cs.length<=1600:=fun cs hc=>by
     have hcs:cs∈css:=by
      rcases Zs.mp hc with h|h
      ·exact XX h
      ·exact VF h
     obtain⟨q,hq,hi⟩:=Xy hpi hcs
     have hip:=(WI G).each q hq
     exact⟨fun c hcc=>let z:=hip.ok ((hi.2 c).mp hcc);⟨z.1,z.2.1⟩,Zi (Tn hip hi) (YE ok.w2 ok.h2)⟩
    refine⟨_,rfl,o,rfl,⟨_,SqL.of hP5.at_⟩,fun D hD=>Pl (v:=false) W5.grid hP5 hI (W2.grid.rows.no_none hon) (fun a ha=>W1.grid.rows.no_none (hps a (hsubp a ha))) (by rw[Zj,Yj,Z5];omega) hD (fun _=>rfl) (fun b ts cs q H' R' hGq hC hIn hba hcl hR=>?_) (fun H6 zs q c hGq ho6 hc hL hz hbr=>?_)⟩
    ·obtain⟨dx,hg⟩:=hGq.at_
     exact⟨_,rfl,g,dx,_,rfl,hg,Wl _ R,_,rfl,g,G.with q,R,as,b,ts,cs,false,rfl,hGq,hC,hIn,hba,hcl,fun H'' q' n h1 h2 h3 h4=>hR H'' q' n h1 h2 h3 h4⟩
    ·have edue:=due_keep ok.told hpi hpc ho6 hc
     simp only at k
     rw[edue]at k
     refine⟨D,zs,rfl,SqL.of hL,Ww _ _,fun z hz2=>?_⟩
     have W6:=W5.rows hGq hbr
     have f6:=f5.trans (Fm.rows hbr)
     refine k _ z R as (i+1) (W6.fin hz2) rfl (f6.fin hz2) (f6.sf hz2) ?_
     show L2.upd _ z _ z=some (.lst (ZQ [0,(c:Int)]))
     rw[Zf,hz]
     rfl
  ·refine⟨_,rfl,iteT ⟨Xa _,fun q hq=>no (fun z=>?_) q hq⟩⟩
   have:=e1
   simp only[decide_eq_true_eq]at this
   exact this z.1
end
end Cp
end
section
namespace Cp
open PySem PySem.Spec PyProof.Rows L2 Ma
section
variable{P:Program}{w:World}{K:PySem.W.Frag}{mg:Str->Option Value}{base:Heap}{cGrid cSrc cBox aSIGN aRULE:Addr}
noncomputable abbrev PF:Stmt:=top 87
theorem scTOne:ZP ["grid","box","cells"] ["grid","box","cells"] (Zh PF):=⟨rfl,rfl,rfl,by decide +kernel,rfl,by decide +kernel,by decide +kernel⟩
noncomputable def Mz(C B:Addr):Sp:=fun vs H Q _=>∃(g:Addr)(G:Vamato.Grid)(R:Addr)(as:List Addr)(bx:Addr)(b:Vamate.Box)(l:Addr)(ts:List Addr)(cs:List (Nat×Nat)),vs=[.ref g,.ref bx,.ref l]/\Ys C H g G R as/\Mt B H bx b/\Ms b/\YR H l ts cs/\cs.length<=1600/\
 ∀H' r,Same H H'->(r=true↔∃c∈cs,UJ G b c.1 c.2)->Q (.bl r) H'
theorem ok_tOne{f:Addr}{fd:FuncData}(F:Fun K "touches_one" "touches_one" PF f fd)(T:TxtM mg)(M_Grid_touched:Y5 P w K mg base cGrid "touched" 2 ["self","box"] (RR cGrid cBox)):FnOk P w K mg base CX0 3 f fd ["grid","box","cells"] (Mz cGrid cBox):=by
 refine F.ok scTOne (fun vs H Q E h=>?_) (fun cdv A outer s H vs Q E hr h=>?_)
 ·obtain⟨g,G,R,as,bx,b,l,ts,cs,rfl,_⟩:=h
  rfl
 ·obtain⟨g,G,R,as,bx,b,l,ts,cs,rfl,hG,hb,hbo,hC,hcl,k⟩:=h
  have nd:=scTOne.nd
  obtain⟨dx,hg⟩:=hG.at_
  have toK:∀{H:Hp}{ts:List Addr}{cs:List (Nat×Nat)},Paired (Tup H) ts cs->Paired (TupK H) ts (cs.map kc):=fun h=>by
   induction h with
   |nil=>exact .nil
   |cons r _ ih=>rw[ZB];exact .cons r ih
  have allK:∀(cs:List (Nat×Nat)),∀c∈cs.map kc,Ta.AllI c:=fun cs c hc=>by
   obtain⟨d,_,rfl⟩:=ZS.mp hc
   intro x hx
   rcases Zw.mp hx with e|hx
   ·exact⟨_,e⟩
   ·exact⟨_,ZI.mp hx⟩
  refine⟨_,(Zr (ZN (Vq Qy (Kk 2 (by rfl) T.n_len (by rfl) T.n_set hr rfl (YW (pv 0) M_Grid_touched hr (Zb (pv 1) Zn))) ZE (YU _)))),?_⟩
  refine⟨_,rfl,g,dx,_,rfl,hg,Wl G R,_,rfl,g,G,R,as,bx,b,rfl,hG,hb,hbo,fun H1 p us ds s1 hp hD hI hdl hmem=>?_⟩
  have hC1:=hC.same s1
  refine⟨p,l,us,ts,ds.map kc,cs.map kc,rfl,rfl,hD.at_,toK hD.each,hC1.at_,toK hC1.each,by rw[Zy hD.each];exact hdl,by rw[Zy hC1.each];exact hcl,allK _,allK _,fun n hn=>⟨_,_,rfl,rfl,k H1 _ s1 ?_⟩⟩
  rw[decide_eq_true_eq]
  constructor
  ·intro h
   obtain⟨x,h1,h2⟩:=hn.mp (by omega)
   obtain⟨d,hd,rfl⟩:=ZS.mp h1
   obtain⟨c,hc,e⟩:=ZS.mp h2
   have:=QK e
   subst this
   exact⟨c,hc,(hmem c.1 c.2).mp hd⟩
  ·rintro⟨c,hc,hin⟩
   have:=hn.mpr ⟨kc c,List.mem_map_of_mem ((hmem c.1 c.2).mpr hin),List.mem_map_of_mem hc⟩
   omega
theorem given1R{p:Int}{l:List Int}{i:Nat}{c:List (List Int)}{t:List Int}(h:Given p l i c t)(hs:PyVamato.shape p=some (1,1)):∃x m,l[i]?=some x/\l[i+1]?=some m/\0<=m/\i+2+m.toNat<=l.length/\c=[[p,x],(l.drop (i+2)).take m.toNat]/\t=l.drop (i+2+m.toNat):=by
 obtain⟨n,k,xs,e,h1,h2,rfl⟩:=h.ex
 rw[hs]at e
 cases e
 match e:l.drop i,h1 with
 |x::r0,_=>
  obtain⟨h3,h4⟩:=drop_cons e
  rw[e]at h2
  obtain⟨m,r,e2,hm,hl,rfl,rfl⟩:=NI h2
  have e2:r0=m::r:=e2
  rw[<-h4]at e2
  obtain⟨h5,h6⟩:=drop_cons e2
  have hi:i+1<l.length:=(Zd.mp h5).1
  have hlen:r.length=l.length-(i+2):=by rw[<-h6,Z5]
  refine⟨x,m,h3,h5,hm,by omega,by rw[h6];rfl,?_⟩
  rw[<-h6,List.drop_drop]
noncomputable def hitB(G:Vamato.Grid)(cs:List (Nat×Nat))(bs:List Vamate.Box)(k:Nat):Prop:=∃b,bs[k]?=some b/\∃c∈cs,UJ G b c.1 c.2
theorem Kz{G:Vamato.Grid}(hs:0<G.size){p:Vamato.Grid}{cs:List (Nat×Nat)}(hi:Xo cs p)(hp:WX G false G.painted p){ms:List Vamate.Mark}:
  (ms.zipIdx.filter fun m=>(p.cells.filter fun c=>p.painted c.1 c.2).any fun c=>G.touches m.1 c.1 c.2).map (fun m=>Vamato.nat m.2) =
   ((List.range ms.length).filter (fun k=>@decide (hitB G cs (ms.map Vamate.Mark.box) k) (Classical.propDecidable _))).map fun(k:Nat)=>(k:Int):=by
 have key:∀(m:Vamate.Mark),((p.cells.filter fun c=>p.painted c.1 c.2).any fun c=>G.touches m c.1 c.2)=true↔∃c∈cs,UJ G m.box c.1 c.2:=fun m=>by
  rw[WA]
  constructor
  ·rintro⟨c,hc,ht⟩
   have h1:=(Yv.mp hc).2
   have hok:=hp.ok h1
   exact⟨c,(hi.2 c).mpr h1,(V7 hs hok.1 hok.2.1).mp ht⟩
  ·rintro⟨c,hc,hin⟩
   have h1:=(hi.2 c).mp hc
   have hok:=hp.ok h1
   refine⟨c,Yv.mpr ⟨?_,h1⟩,(V7 hs hok.1 hok.2.1).mpr hin⟩
   obtain⟨s1,s2,s3,s4,s5⟩:=hp.same
   unfold Vamato.Grid.cells
   rw[Ua,s3,s4]
   exact⟨hok.1,hok.2.1⟩
 have gen:∀(ms:List Vamate.Mark)(o:Nat)(q:Vamate.Mark->Bool)(h:Nat->Bool),(∀k m,ms[k]?=some m->h (o+k)=q m)->
   ((ms.zipIdx o).filter fun m=>q m.1).map (fun m=>Vamato.nat m.2)=((List.range' o ms.length).filter h).map fun(k:Nat)=>(k:Int):=by
  intro ms
  induction ms with
  |nil=>intro o q h _;rfl
  |cons m r ih=>
   intro o q h hq
   have h0:h o=q m:=hq 0 m rfl
   have ih':=ih (o+1) q h fun k m' hk=>by
    have:=hq (k+1) m' (by simpa using hk)
    rw[show o+1+k=o+(k+1) by omega]
    exact this
   rw[List.zipIdx_cons,Zo,List.range'_succ]
   cases e:q m with
   |true=>
    rw[Yl (by exact e),Yl (by rw[h0];exact e),ZB,ZB,ih']
    rfl
   |false=>
    rw[Yk (by show¬q m=true;rw[e];simp),Yk (by rw[h0,e];simp),ih']
 rw[List.range_eq_range']
 refine gen ms 0 (fun m=>(p.cells.filter fun c=>p.painted c.1 c.2).any fun c=>G.touches m c.1 c.2) _ fun k m hk=>?_
 rw[Nat.zero_add,Yd,key]
 have e1:∀(P:Prop)[inst:Decidable P],decide P=true↔P:=fun P _=>decide_eq_true_iff
 rw[@e1 _ (Classical.propDecidable _)]
 unfold hitB
 rw[ZA,hk]
 simp
noncomputable def idxB(G:Vamato.Grid)(cs:List (Nat×Nat))(bs:List Vamate.Box)(n:Nat):List Int:=((List.range n).filter (fun k=>@decide (hitB G cs bs k) (Classical.propDecidable _))).map fun(k:Nat)=>(k:Int)
theorem idxB_yes{G:Vamato.Grid}{cs:List (Nat×Nat)}{bs:List Vamate.Box}{n:Nat}(h:hitB G cs bs n):idxB G cs bs (n+1)=idxB G cs bs n++[(n:Int)]:=by
 unfold idxB
 have e:(fun k=>@decide (hitB G cs bs k) (Classical.propDecidable _)) n=true:=@decide_eq_true _ (Classical.propDecidable _) h
 rw[YC,Y9,ZJ,Yl (p:=fun k=>@decide (hitB G cs bs k) (Classical.propDecidable _)) (a:=n) (l:=[]) e]
 rfl
theorem idxB_no{G:Vamato.Grid}{cs:List (Nat×Nat)}{bs:List Vamate.Box}{n:Nat}(h:¬hitB G cs bs n):idxB G cs bs (n+1)=idxB G cs bs n:=by
 unfold idxB
 rw[YC,Y9,ZJ,Yk (by rw[@decide_eq_false _ (Classical.propDecidable _) h];simp)]
 simp
theorem N4(G:Vamato.Grid)(cs:List (Nat×Nat))(bs:List Vamate.Box)(n:Nat):(idxB G cs bs n).length<=n:=by
 unfold idxB
 rw[Za]
 refine Zi (YS _ _) ?_
 rw[YF]
 exact Zl _
noncomputable abbrev Tj:Stmt:=top 86
theorem scCMarks:ZP ["grid","source","k","boxes","found","number","box"] ["grid","source"] (Zh Tj):=⟨rfl,rfl,rfl,by decide +kernel,rfl,by decide +kernel,by decide +kernel⟩
theorem Ks{f:Addr}{fd:FuncData}(F:Fun K "marks" "marks" Tj f fd)(T:TxtM mg)(M_Source_take_number:Y5 P w K mg base cSrc "take_number" 1 ["self"] (WO K cSrc))(M_Source_take_row:Y5 P w K mg base cSrc "take_row" 2 ["self"] (Qk K cSrc))
  (C_boxes_of:Callee P w K mg base "boxes_of" 6 ["text"] (RU K cBox)) (C_pieces_of:Callee P w K mg base "pieces_of" 4 ["grid"] (Pu cGrid)) (C_touches_one:Callee P w K mg base "touches_one" 3 ["grid","box","cells"] (Mz cGrid cBox)):
  FnOk P w K mg base CX0 8 f fd ["grid","source"] (Yi K cGrid cSrc 19):=by
 refine F.ok scCMarks (fun vs H Q E h=>?_) (fun cdv A outer s0 H vs Q E hr h=>?_)
 ·obtain⟨g,s,a,G,R,as,l,i,c,t,rfl,_⟩:=h
  rfl
 ·obtain⟨g,s,a,G,R,as,l,i,c,t,rfl,W,hgv,k⟩:=h
  obtain⟨x,m,hx,hm,hm0,hml,rfl,rfl⟩:=given1R hgv rfl
  have nd:=scCMarks.nd
  have ok:=W.grid.ok
  have hs0:0<G.size:=by have:=ok.s1;omega
  have hby:=RO (r:=(l.drop (i+2)).take m.toNat) (by
   have h:(VamatoNeutral.whole60 x&&((((l.drop (i+2)).take m.toNat).all fun(z:Int)=>VamatoNeutral.natural z 8)&&decide (((l.drop (i+2)).take m.toNat).length<=100000)))=true:=hgv.ask
   rw[Zv,Zv]at h
   exact h.2.1)
  have hrl:((l.drop (i+2)).take m.toNat).length<=17000:=by
   rw[Yj,Z5]
   have:=W.len
   omega
  have est:=Td (G:=G) (c:=[[19,x],(l.drop (i+2)).take m.toNat]) (f:=Vamato.Call.marks x) rfl hby.2
  have est2:Vamato.step G (.marks x (tx ((l.drop (i+2)).take m.toNat)))=(G,Vamato.marksAnswer G x (tx ((l.drop (i+2)).take m.toNat))):=rfl
  rw[est,est2]at k
  unfold Vamato.marksAnswer Vamato.pieceNumber at k
  refine⟨_,(Zk (ZZ (i:=2) nd rfl (Or.inr rfl) (Yu (pv 1) M_Source_take_number hr))
   (Zk (ZZ (i:=3) nd rfl (Or.inl rfl) (ZU C_boxes_of hr rfl (Zb (Yu (pv 1) M_Source_take_row hr) Zn)))
   (Zk (ZZ (i:=4) nd rfl (Or.inr rfl) (ZU C_pieces_of hr rfl (Zb (pv 0) Zn)))
   (Zk (Xm (Vh (US X7 TH ZE (pv 2) (Yf Yn (by rfl) T.n_len Xz (Zb (pv 4) Zn)))) (Zr (ZN (Yp (Zb (pe_g rfl T.g_NO_PIECE) Zn)))) Yy)
   (Zk (Xm (TY (Qx (pv 3))) (Zr (ZN (Yp (Zb (pe_g rfl T.g_NO_SUCH_TEXT) Zn)))) Yy)
   (Zr (ZN (Xf T4 (Yp (Zb ZE Zn)) (X1 rfl nd (Sm (by rfl) T.n_enumerate (Zb (pv 3) Zn)) (own:=[("number",5),("box",6)]) (Yr (by kernel_rfl)) (fun _ _ _ _ _=>(V9 (K:=K) (n:=2) rfl rfl (YO (Z2 (i:=5) nd rfl (Or.inl rfl)) (YO (Z2 (i:=6) nd rfl (Or.inl rfl)) WD)))) (fun _ _ _ _ _=>(Sj (Wj (ZU C_touches_one hr rfl (Zb (pv 0) (Zb (pv 6) (Zb (Xt (ix_listK (K:=K) rfl) (pv 4) (pv 2) (fun _ _=>rfl)) Zn))))))) (fun _ _ _ _ _=>(pv 5))))))))))),?_⟩
  refine WZ W (k:=1) rfl hx fun H1 W1 f1=>Lq W1 (k:=1) rfl hm hm0 (by omega) fun H2 q W2 f2 hq hL=>⟨q,_,rfl,SqL.of hL,hrl,fun H3 zb s3 hres=>?_⟩
  rw[show i+1+1=i+2 by omega]at W2 hL hres
  have f2:=f1.trans f2
  have W3:=W2.same s3
  have f3:=f2.trans (Fm.same s3)
  rw[OH hby.1]at hres
  refine⟨_,rfl,g,G,R,as,rfl,W3.grid,fun H4 p ps css s4 hp hps hP hpi=>?_⟩
  have hlen:=Zy hP.each
  have hlen2:=Zy hpi
  have hle:=Tl ok hpi
  have W4:=W3.same s4
  have f4:=f3.trans (Fm.same s4)
  have no:¬(0<=x/\x<(ps.length:Int))->∀q,H4 q=none->Q (.ref q) (L2.upd H4 q (.lst [.int (-3)])):=fun e q hq=>by
   have e1:(if x<0 then none else(Vamato.piecesOf G)[x.toNat]?)=none:=by
    by_cases z:x<0
    ·rw[if_pos z]
    ·rw[if_neg z,Z7]
     omega
   rw[e1]at k
   exact k _ q R as _ (W4.fin hq) rfl (f4.fin hq) (f4.sf hq) Zf
  refine⟨_,rfl,_,_,rfl,rfl,_,rfl,ite2 (fun e1=>?_) (fun e1=>?_)⟩
  ·have e1':0<=x:=of_decide_eq_true e1
   refine⟨_,rfl,p,_,rfl,.inl (SqL.of hP.at_),_,_,rfl,rfl,_,rfl,ite2 (fun e2=>?_) (fun e2=>?_)⟩
   ·have e2':¬x<(ps.length:Int):=by
     have:=UB e2
     rw[decide_eq_false_iff_not,Za]at this
     exact this
    exact⟨Xa _,fun q hq=>no (fun z=>e2' z.2) q hq⟩
   ·have e2':x<(ps.length:Int):=by
     have:=UC e2
     rw[decide_eq_true_eq,Za]at this
     exact this
    obtain⟨n,rfl⟩:∃n:Nat,x=(n:Int):=⟨x.toNat,by omega⟩
    have hn:n<ps.length:=by omega
    obtain⟨pc,hpc⟩:∃pc,(Vamato.piecesOf G)[n]?=some pc:=⟨_,Zu (by omega)⟩
    obtain⟨pa,hpa⟩:∃pa,ps[n]?=some pa:=⟨_,Zu hn⟩
    obtain⟨cs,hcs,cts,hC⟩:=Z4 hP.each hpa
    have hpi1:Xo cs pc:=by
     obtain⟨q',hq',hi⟩:=Z4 hpi hcs
     have:q'=pc:=ZC (hq'.symm.trans hpc)
     rw[<-this]
     exact hi
    have hip:=(WI G).each pc (Zp hpc)
    have hcl:cs.length<=1600:=Zi (Tn hip hpi1) (YE ok.w2 ok.h2)
    have e3:(if(n:Int)<0 then none else(Vamato.piecesOf G)[((n:Int)).toNat]?)=some pc:=by
     rw[if_neg (by omega)]
     exact hpc
    rw[e3]at k
    cases hpic:Vamate.pictureOf (tx ((l.drop (i+2)).take m.toNat))with
    |none=>
     rw[hpic]at hres
     have hres:zb=.non:=hres
     subst hres
     simp only at k
     rw[hpic]at k
     refine⟨_,rfl,_,rfl,ite2 (fun _=>⟨Xa _,fun q hq=>?_⟩) (fun z=>(z (decide_eq_true rfl)).elim)⟩
     exact k _ q R as _ (W4.fin hq) rfl (f4.fin hq) (f4.sf hq) Zf
    |some pic=>
     rw[hpic]at hres
     obtain⟨pp,bps,rfl,hpn,hpL,hpair⟩:=hres
     simp only at k
     rw[hpic]at k
     simp only at k
     have hfar:=Qu hpic
     have hml2:pic.marks.length<=1000:=UU hpic
     have hbo:∀b∈pic.marks.map Vamate.Mark.box,Ms b:=fun b hb=>by
      obtain⟨mk,hmk,rfl⟩:=ZS.mp hb
      exact box_ok (hfar mk hmk)
     rw[Kz hs0 hpi1 hip]at k
     have hidx:((List.range pic.marks.length).filter (fun k=>@decide (hitB G cs (pic.marks.map Vamate.Mark.box) k) (Classical.propDecidable _))).map (fun(k:Nat)=>(k:Int))=idxB G cs (pic.marks.map Vamate.Mark.box) (pic.marks.map Vamate.Mark.box).length:=by
      rw[Za]
      rfl
     rw[hidx]at k
     have hml3:(pic.marks.map Vamate.Mark.box).length<=1000:=by rw[Za];exact hml2
     simp only at hpair
     generalize pic.marks.map Vamate.Mark.box=bs at k hpair hbo hml3
     have hblen:=Zy hpair
     refine⟨_,rfl,_,rfl,ite2 (fun z=>by simp at z) (fun _=>?_)⟩
     refine⟨Xa _,fun z hz=>?_⟩
     have sc:Same H4 (L2.upd H4 z (.lst [.int 0])):=Same.new hz
     have hcc:L2.upd H4 z (.lst [.int 0]) z=some (.lst [.int 0]):=Zf
     generalize L2.upd H4 z (.lst [.int 0])=H5 at sc hcc⊢
     have s35:=s4.trans sc
     refine⟨_,rfl,pp,_,rfl,SqL.of (s35 _ _ hpL),fun D hD=>Nh (K:=K) (a:=pp) (xs:=ZV bps) (n1:=5) (n2:=6) (fun n' H'=>Same H5 H'/\H' D=some (.lst (ZQ (idxB G cs bs n')))) ⟨Same.new hD,Zf⟩
      (fun n' H' _ ⟨s6,_⟩=>SqL.of (s6 _ _ (s35 _ _ hpL))) (fun _ _=>rfl) ?_ ?_⟩
     ·rintro n' y H6 t6 hy ⟨s6,hDD⟩ ht6
      obtain⟨bx,hbx,rfl⟩:=Xr hy
      obtain⟨b,hb,bdx,hqb⟩:=Z4 hpair hbx
      have hn'l:n'<bps.length:=(Zd.mp hbx).1
      have s7:Same H6 (L2.upd H6 t6 (.tup [.int (n':Int),.ref bx])):=Same.new ht6
      have hDD7:=s7 _ _ hDD
      have s57:=s6.trans s7
      generalize L2.upd H6 t6 (.tup [.int (n':Int),.ref bx])=H7 at s7 hDD7 s57⊢
      have s47:=sc.trans s57
      have s37:=s35.trans s57
      refine⟨_,rfl,_,rfl,_,rfl,_,rfl,p,_,_,_,rfl,rfl,SqL.of (s47 _ _ hP.at_),Xu (j:=n) (v:=.ref pa) rfl (by rw[ZA,hpa];rfl),g,G,R,as,bx,b,pa,cts,cs,rfl,W4.grid.same s47,⟨bdx,s37 _ _ hqb⟩,hbo b (Zp hb),hC.same s47,hcl,fun H8 r s8 hr8=>⟨_,rfl,?_⟩⟩
      have hDD8:=s8 _ _ hDD7
      have hhit:r=true↔hitB G cs bs n':=by
       rw[hr8]
       unfold hitB
       rw[hb]
       simp
      refine ite2 (fun e=>?_) (fun e=>?_)
      ·refine⟨_,rfl,_,hDD8,?_,Xg hD (s57.trans s8),?_⟩
       ·rw[Za]
        have h1:=N4 G cs bs n'
        exact Z3 (show _<=1600 by omega) (by decide)
       ·rw[Zf,idxB_yes (hhit.mp e)]
        unfold ZQ
        rw[ZJ]
        rfl
      ·refine⟨s57.trans s8,?_⟩
       rw[idxB_no fun z=>e (hhit.mpr z)]
       exact hDD8
     ·rintro H6 ⟨s6,hDD⟩
      rw[Za,hblen]at hDD
      refine⟨z,D,_,_,rfl,rfl,s6 _ _ hcc,hDD,?_,fun q hq=>?_⟩
      ·rw[Za]
       have h1:=N4 G cs bs bs.length
       exact Zi (show _<=1100 by simp only[Zo,Yc];omega) (by decide)
      ·have s46:=sc.trans s6
       have f6:=f4.trans (Fm.same s46)
       refine k _ q R as _ ((W4.same s46).fin hq) rfl (f6.fin hq) (f6.sf hq) ?_
       show L2.upd _ q _ q=_
       rw[Zf]
       rfl
  ·refine⟨_,rfl,iteT ⟨Xa _,fun q hq=>no (fun z=>?_) q hq⟩⟩
   have:=e1
   simp only[decide_eq_true_eq]at this
   exact this z.1
end
end Cp
end
section
namespace Cp
open PySem PySem.Spec PyProof.Rows L2 Ma
theorem VG:∀(l:List Bool)(i:Nat)(o:Option Nat),(Vamato.runsFrom i o l).length<=l.length+1
 |[],i,none=>by unfold Vamato.runsFrom;split<;>simp
 |[],i,some a=>by simp[Vamato.runsFrom]
 |b::r,i,none=>by
  unfold Vamato.runsFrom
  have:=VG r (i+1) (if b=true then some i else none)
  rw[Zo]
  omega
 |b::r,i,some a=>by
  unfold Vamato.runsFrom
  rw[Zo]
  split
  ·have:=VG r (i+1) (some a)
   omega
  ·have:=VG r (i+1) none
   rw[Zo]
   omega
theorem KQ(G:Vamato.Grid):G.cells.length=G.width*G.height:=by
 rw[Y0]
 exact YI _ _
theorem MP(G:Vamato.Grid)(co:Bool)(al:Nat->Nat->Bool):(Vamato.piecesBy G co al).length<=G.width*G.height:=by
 rw[<-KQ G]
 have h:∀(cs:List (Nat×Nat))(l:List Vamato.Grid),(cs.foldl (fun(l:List Vamato.Grid) c=>if(!al c.1 c.2||l.any fun p=>p.painted c.1 c.2)=true then l else l++[Vamato.pieceAt G co al c]) l).length<=l.length+cs.length:=by
  intro cs
  induction cs with
  |nil=>intro l;simp
  |cons c cs ih=>
   intro l
   rw[Y7]
   refine Zi (ih _) ?_
   rw[Zo]
   split
   ·omega
   ·rw[Zj,Z6];omega
 have:=h G.cells []
 rw[Yc,Nat.zero_add]at this
 exact this
theorem V2(a b:Vamato.Grid):(Vamato.become a b).2.length<=2000:=by
 show 2<=2000
 decide
theorem Ul{G:Vamato.Grid}{t:Vamato.Text}{f:List Vamate.Mark->Vamato.Grid}:(Vamato.withPicture G t fun ms=>Vamato.become G (f ms)).2.length<=2000:=by
 unfold Vamato.withPicture
 split
 ·show 1<=2000;decide
 ·exact V2 _ _
theorem Ka{G:Vamato.Grid}(ok:GOk G)(c:Vamato.Call):(Vamato.step G c).2.length<=2000:=by
 have hcells:G.width*G.height<=1600:=YE ok.w2 ok.h2
 cases c with
 |begin l b w' h s=>show(Vamato.doBegin G l b w' h s).2.length<=2000;unfold Vamato.doBegin;split<;>exact(by decide:1<=2000)
 |paint t=>exact Ul
 |erase t=>exact Ul
 |set i j way=>
  unfold Vamato.step
  simp only
  split
  ·exact(by decide:1<=2000)
  ·split<;>exact(by decide:1<=2000)
 |invert=>exact(by decide:1<=2000)
 |grow n=>show(Vamato.steps G n _).2.length<=2000;unfold Vamato.steps;split;exact V2 _ _;exact(by decide:1<=2000)
 |shrink n=>show(Vamato.steps G n _).2.length<=2000;unfold Vamato.steps;split;exact V2 _ _;exact(by decide:1<=2000)
 |text=>
  show(0::(Vamato.gridText G).map fun b=>(b.toNat:Int)).length<=2000
  rw[TM]
  have:=Po (p:=G.painted) ok.w2 ok.h2
  rw[Zo]
  unfold Nz at this
  omega
 |read t=>
  unfold Vamato.step
  simp only
  split<;>exact(by decide:1<=2000)
 |at_ i j=>
  show(if Vamato.isCell G i j=false then[-2]else[0,if G.painted i.toNat j.toNat=true then 1 else 0]).length<=2000
  split
  ·exact(by decide:1<=2000)
  ·exact(by decide:2<=2000)
 |area=>exact(by decide:2<=2000)
 |runs j=>
  show(if Vamato.isCell G 0 j=false then[-2]else 0::(Vamato.runsOf G j.toNat).flatMap fun r=>[Vamato.nat r.1,Vamato.nat r.2]).length<=2000
  split
  ·exact(by decide:1<=2000)
  ·have h1:(Vamato.runsOf G j.toNat).length<=41:=by
    refine Zi (VG _ _ _) ?_
    rw[Za,YF]
    have:=ok.w2
    omega
   have h2:((Vamato.runsOf G j.toNat).flatMap fun r=>[Vamato.nat r.1,Vamato.nat r.2]).length=2*(Vamato.runsOf G j.toNat).length:=by
    generalize Vamato.runsOf G j.toNat=l
    induction l with
    |nil=>rfl
    |cons x l ih=>rw[List.flatMap_cons,Zj,ih,Zo];simp only[Zo,Yc];omega
   rw[Zo,h2]
   omega
 |pieces=>
  show(0::(Vamato.piecesOf G).map fun p=>Vamato.nat p.area).length<=2000
  rw[Zo,Za]
  have:=MP G false G.painted
  unfold Vamato.piecesOf
  omega
 |piece i j=>
  show(Vamato.pieceAnswer G i j).length<=2000
  unfold Vamato.pieceAnswer
  split
  ·exact(by decide:1<=2000)
  ·split
   ·exact(by decide:1<=2000)
   ·exact(by decide:2<=2000)
 |keep k=>
  unfold Vamato.step
  simp only
  split
  ·exact(by decide:1<=2000)
  ·exact V2 _ _
 |holes=>exact(by decide:2<=2000)
 |fill=>exact V2 _ _
 |edge=>exact(by decide:2<=2000)
 |count=>exact(by decide:5<=2000)
 |marks k t=>
  show(Vamato.marksAnswer G k t).length<=2000
  unfold Vamato.marksAnswer
  split
  ·exact(by decide:1<=2000)
  ·split
   ·exact(by decide:1<=2000)
   ·rename_i q hq
    have h1:=UU hq
    rw[Zo,Za]
    have h2:=YS (fun m:Vamate.Mark×Nat=>(List.filter (fun c=>(‹Vamato.Grid›).painted c.1 c.2) (‹Vamato.Grid›).cells).any fun c=>G.touches m.1 c.1 c.2) q.marks.zipIdx
    rw[List.length_zipIdx]at h2
    refine Zi (Nat.succ_le_succ (YS _ _)) ?_
    rw[List.length_zipIdx]
    omega
theorem step_len{G:Vamato.Grid}(ok:GOk G)(c:List (List Int)):(VamatoNeutral.step G c).2.length<=2000:=by
 unfold VamatoNeutral.step
 split
 ·exact Ka ok _
 ·exact(by decide:1<=2000)
end Cp
end
section
namespace Cp
open PySem PySem.Spec PyProof.Rows L2 Ma
section
variable{P:Program}{w:World}{K:PySem.W.Frag}{mg:Str->Option Value}{base:Heap}{cGrid cSrc cBox aSIGN aRULE aCALLS:Addr}
theorem Wd.out{cG cS g s a R q:Addr}{G:Vamato.Grid}{as:List Addr}{l:List Int}{i:Nat}{H:Hp}{xs ys:List V}(W:Wd K cG cS H g s a G R as l i)(hq:H q=some (.lst xs))(nR:q≠R)(na:q∉as):Wd K cG cS (L2.upd H q (.lst ys)) g s a G R as l i:=by
 obtain⟨dx,e⟩:=W.grid.at_
 obtain⟨dy,e'⟩:=W.src
 have ng:g≠q:=We e hq (by intro z;cases z)
 have ns:s≠q:=We e' hq (by intro z;cases z)
 refine⟨W.grid.upd_other ng (Yq nR) na,⟨dy,by rw[Zt ns];exact e'⟩,W.seq.keep fun b o u h=>?_,W.len,W.le⟩
 rw[Zt (We h hq (by intro z;cases z))]
 exact h
noncomputable def TabFn(P:Program)(w:World)(K:PySem.W.Frag)(mg:Str->Option Value)(base:Heap)(cG cS:Addr)(p:Int)(f:Addr):Prop:=
 PySem.W.keepIn K (.ref f)=true/\∃fd ps,Binds K fd ps []/\FnOk P w K mg base CX0 8 f fd ps (Yi K cG cS p)
structure TxtA(P:Program)(w:World)(K:PySem.W.Frag)(mg:Str->Option Value)(base:Heap)(cG cS aCALLS:Addr):Prop where
 n_len:mg "len"=none
 g_CALLS:GV mg "CALLS" (.ref aCALLS)
 tab:∃kvs,TabIn K aCALLS kvs/\∀p n k,PyVamato.shape p=some (n,k)->∃f,kvs.lookup p=some f/\TabFn P w K mg base cG cS p f
theorem row_le{r x t:List Int}(h:PyFlat.row r=some (x,t)):t.length<=r.length:=by
 cases r with
 |nil=>cases h
 |cons n r=>
  have h:(if 0<=n/\n.toNat<=r.length then some (r.take n.toNat,r.drop n.toNat)else none)=some (x,t):=h
  by_cases c:0<=n/\n.toNat<=r.length
  ·rw[if_pos c]at h
   cases h
   rw[Z5,Zo]
   omega
  ·rw[if_neg c]at h;cases h
theorem NJ:∀{k:Nat}{r:List Int}{xs:List (List Int)}{t:List Int},PyFlat.rows k r=some (xs,t)->t.length<=r.length
 |0,r,xs,t,h=>by cases h;exact Zl _
 |k+1,r,xs,t,h=>by
  unfold PyFlat.rows at h
  cases e:PyFlat.row r with
  |none=>rw[e]at h;cases h
  |some y=>
   obtain⟨x,s⟩:=y
   rw[e]at h
   simp only at h
   cases e2:PyFlat.rows k s with
   |none=>rw[e2]at h;cases h
   |some z=>
    obtain⟨ys,t'⟩:=z
    rw[e2]at h
    cases h
    exact Zi (NJ e2) (row_le e)
theorem rows_le{k n:Nat}{r:List Int}{xs:List (List Int)}{t:List Int}(h:PyFlat.rows k (r.drop n)=some (xs,t)):t.length<=r.length:=by
 have:=NJ h
 rw[Z5]at this
 omega
noncomputable abbrev WQ:Stmt:=top 89
theorem Kf:ZP ["calls","grid","source","given","call","answer"] ["calls"] (Zh WQ):=⟨rfl,rfl,rfl,by decide +kernel,rfl,by decide +kernel,by decide +kernel⟩
noncomputable def spAns(K:PySem.W.Frag):Sp:=fun vs H Q _=>∃(a:Addr)(l:List Int),vs=[.ref a]/\SqF K H a (ZQ l)/\PyVamato.answers_asked l=true/\l.length<=17000/\∀(H':Hp)(q:Addr),LI H' q (PyVamato.answers l)->Q (.ref q) H'
theorem Os:∀cs:List (List (List Int)),cs.map PyVamato.whole=cs
 |[]=>rfl
 |c::cs=>by rw[ZB,whole_id,Os cs]
theorem MU{f:Addr}{fd:FuncData}(F:Fun K "answers" "answers" WQ f fd)(T:TxtA P w K mg base cGrid cSrc aCALLS)(C_Grid:ON P w K mg base "Grid" cGrid 2 ["self"] (spGI cGrid))(C_Source:ON P w K mg base "Source" cSrc 1 ["self","numbers"] (MA K cSrc))
  (M_Source_has_more:Y5 P w K mg base cSrc "has_more" 1 ["self"] (MH K cSrc)) (M_Source_take_number:Y5 P w K mg base cSrc "take_number" 1 ["self"] (WO K cSrc)):
  FnOk P w K mg base CX0 9 f fd ["calls"] (spAns K):=by
 refine F.ok Kf (fun vs H Q E h=>?_) (fun cdv A outer s0 H vs Q E hr h=>?_)
 ·obtain⟨a,l,rfl,_⟩:=h
  rfl
 ·obtain⟨a,l,rfl,hS,hask,hlen,k⟩:=h
  obtain⟨kvs,hTab,hFn⟩:=T.tab
  obtain⟨cs0,hcs0,h200,hall⟩:∃cs,PyFlat.calls PyVamato.shape l.length l=some cs/\cs.length<=200/\(∀c∈cs,VamatoNeutral.asked1 c=true)/\PyVamato.answers l=PyFlat.told (PyFlat.played VamatoNeutral.step VamatoNeutral.start cs):=by
   unfold PyVamato.answers_asked PyVamato.calls at hask
   unfold PyVamato.answers PyVamato.calls
   cases e:PyFlat.calls PyVamato.shape l.length l with
   |none=>rw[e]at hask;cases hask
   |some cs=>
    rw[e]at hask
    simp only[Os]at hask⊢
    rw[Zv]at hask
    unfold VamatoNeutral.asked at hask
    rw[Zv,Zv]at hask
    exact⟨cs,rfl,of_decide_eq_true hask.1,Xd.mp hask.2.1.1,rfl⟩
  obtain⟨hall,hdue⟩:=hall
  have nd:=Kf.nd
  refine⟨_,(Zk (ZZ (i:=1) nd rfl (Or.inl rfl) (Kj C_Grid hr rfl))
   (Zk (ZZ (i:=2) nd rfl (Or.inl rfl) (Qw C_Source hr rfl (Zb (pv 0) Zn)))
   (Zk (ZZ (i:=3) nd rfl (Or.inl rfl) (Yp Zn))
   (Zk (NP YH (Wj (Yu (pv 2) M_Source_has_more hr))
   (Zk (ZZ (i:=4) nd rfl (Or.inl rfl) (pe_tget (pe_g rfl T.g_CALLS) (Yu (pv 2) M_Source_take_number hr) (fun _ _=>rfl)))
   (Zk (ZZ (i:=5) nd rfl (Or.inl rfl) (pe_callL 4 (Zb (pv 1) (Zb (pv 2) Zn))))
   (Zk (Xx (Um Z9 YK YL WJ (pv 3) (Zb (Yf Yn (by rfl) T.n_len Xz (Zb (pv 5) Zn)) Zn)))
   (Zr (Xx (Um Z9 XS XT Uo (pv 3) (Zb (pv 5) Zn))))))))
   (Zr (ZN (pv 3))))))),?_⟩
  intro g dg hg hdg ndg
  refine⟨g,dg,rfl,Zf,fun H1 R as hG1 b1 hR has=>⟨rfl,?_⟩⟩
  refine⟨_,rfl,fun s ds hs hds nds=>⟨s,ds,a,rfl,Zf,fun H2 h2 b2=>⟨rfl,?_⟩⟩⟩
  have s01:∀b o,H b=some o->H1 b=some o:=fun b o e=>by
   have n1:b≠g:=fun z=>by rw[z,hg]at e;cases e
   have n2:b≠dg:=fun z=>by rw[z,hdg]at e;cases e
   exact b1 b o (by rw[Zt n1,Zt n2];exact e) n1
  have s12:Same H1 H2:=fun b o e=>by
   have n1:b≠s:=fun z=>by rw[z,hs]at e;cases e
   have n2:b≠ds:=fun z=>by rw[z,hds]at e;cases e
   exact b2 b o (by rw[Zt n1,Zt n2];exact e) n1
  have W2:Wd K cGrid cSrc H2 g s a Vamato.start R as l 0:=⟨hG1.same s12,⟨ds,h2⟩,hS.keep fun b o u e=>s12 _ _ (s01 _ _ e),hlen,ZG _⟩
  refine⟨ZG _,fun q hq=>?_⟩
  have nRq:q≠R:=fun z=>by rw[z,W2.grid.rows.at_]at hq;cases hq
  have naq:q∉as:=fun z=>by
   obtain⟨j,hj⟩:=Zx.mp z
   rw[W2.grid.rows.row j q hj]at hq;cases hq
  let Iv:Nat->L2.St->Hp->Prop:=fun m σ H'=>∃(v4 v5:Option V)(G:Vamato.Grid)(R:Addr)(as:List Addr)(i fuel:Nat)(cs:List (List (List Int)))(out:List Int),σ=[some (.ref a),some (.ref g),some (.ref s),some (.ref q),v4,v5]/\Wd K cGrid cSrc H' g s a G R as l i/\LI H' q out/\q≠R/\q∉as/\
    PyFlat.calls PyVamato.shape fuel (l.drop i)=some cs/\(∀c∈cs,VamatoNeutral.asked1 c=true)/\out++PyFlat.told (PyFlat.played VamatoNeutral.step G cs)=PyVamato.answers l/\out.length+cs.length*2001<=400200/\m=l.length-i
  refine⟨Iv,⟨l.length,none,none,Vamato.start,R,as,0,l.length,cs0,[],rfl,W2.same (Same.new hq),Zf,nRq,naq,by rw[List.drop_zero];exact hcs0,hall,hdue.symm,by rw[Yc];omega,rfl⟩,?_⟩
  clear nRq naq W2 hcs0 hall hdue h200 cs0
  rintro m σ H3 ⟨v4,v5,G,R,as,i,fuel,cs,out,rfl,W,hL,nR,na,hcs,hall,hdue,hbig,rfl⟩
  obtain⟨dx,hsrc⟩:=W.src
  refine⟨_,rfl,s,dx,_,rfl,hsrc,RQ a i,s,a,l,i,rfl,W.atS,_,rfl,ite2 (fun hlt=>?_) (fun hlt=>?_)⟩
  ·have hlt:i<l.length:=of_decide_eq_true hlt
   have hd:l.drop i=l[i]::l.drop (i+1):=List.drop_eq_getElem_cons hlt
   rw[hd]at hcs
   obtain⟨f',n,kk,xs,t,cs',hsh,hn,hrows,hcs',rfl⟩:=Lj hcs
   obtain⟨fc,hfc,hkeep,fdc,psc,hbind,hfn⟩:=hFn _ _ _ hsh
   have htl:t.length<=(l.drop (i+1)).length:=rows_le hrows
   have hget:l[i]?=some l[i]:=Zu hlt
   generalize l[i]=p at hsh hcs hrows hfc hfn hget hall hdue hd
   refine⟨fun σ' H'=>∃m',m'<l.length-i/\Iv m' σ' H',fun σ' H' h=>h,WZ W (k:=2) rfl hget fun H4 W4 f4=>⟨aCALLS,p,kvs,fc,rfl,rfl,hTab,hfc,?_⟩⟩
   refine⟨fc,8,fdc,psc,_,rfl,hkeep,hbind,hfn,hr,_,rfl,_,rfl,g,s,a,G,R,as,l,i+1,_,t,rfl,W4,⟨⟨n,kk,xs,hsh,hn,hrows,rfl⟩,hall _ Zm⟩,fun H5 z R' as' i' W5 hdrop f5 sf5 hL5=>?_⟩
   have nqg:q≠g:=fun e=>by rw[e]at hL;obtain⟨dx,h⟩:=W.grid.at_;have hL:H3 g=_:=hL;rw[h]at hL;cases hL
   have nqs:q≠s:=fun e=>by rw[e]at hL;have hL:H3 s=_:=hL;rw[hsrc]at hL;cases hL
   obtain⟨hL5q,nR',na'⟩:=(f4.trans f5) q _ hL nqg nqs nR na
   obtain⟨hL4q,_,_⟩:=f4 q _ hL nqg nqs nR na
   have nqz:q≠z:=sf5 q _ hL4q nqg nqs nR na
   have hal:=step_len W.grid.ok ((p::(l.drop (i+1)).take n)::xs)
   have e1:PyFlat.told (PyFlat.played VamatoNeutral.step G (((p::(l.drop (i+1)).take n)::xs)::cs'))=(((VamatoNeutral.step G ((p::(l.drop (i+1)).take n)::xs)).2.length:Int)::(VamatoNeutral.step G ((p::(l.drop (i+1)).take n)::xs)).2)++PyFlat.told (PyFlat.played VamatoNeutral.step (VamatoNeutral.step G ((p::(l.drop (i+1)).take n)::xs)).1 cs'):=L9 _ _
   rw[e1]at hdue
   have hall':∀c∈cs',VamatoNeutral.asked1 c=true:=fun c hc=>hall c (Ze _ hc)
   clear e1 hall hcs hrows
   generalize VamatoNeutral.step G ((p::(l.drop (i+1)).take n)::xs)=sa at W5 hL5 hal hdue
   obtain⟨G',ans⟩:=sa
   simp only at W5 hL5 hal hdue
   rw[Zo,Nat.succ_mul]at hbig
   have big:400200<sizeLine:=by decide
   have W6:=W5.out (ys:=ZQ (out++[(ans.length:Int)])) hL5q nR' na'
   have hL6:LI (L2.upd H5 q (.lst (ZQ (out++[(ans.length:Int)])))) q (out++[(ans.length:Int)]):=Zf
   have hz6:LI (L2.upd H5 q (.lst (ZQ (out++[(ans.length:Int)])))) z ans:=by
    show L2.upd _ q _ z=_
    rw[Zt (Yq nqz)]
    exact hL5
   have lenI:∀ns:List Int,(ZQ ns).length=ns.length:=fun ns=>Za ..
   have eint:∀ns ms:List Int,ZQ (ns++ms)=ZQ ns++ZQ ms:=fun ns ms=>ZJ
   refine⟨_,rfl,.inl ⟨rfl,_,SqL.of hL5q⟩,_,rfl,z,_,rfl,.inl (SqL.of hL5),q,_,_,rfl,rfl,hL5q,by rw[lenI];omega,?_⟩
   have e2:ZQ out++[V.int ((ZQ ans).length:Int)]=ZQ (out++[(ans.length:Int)]):=by rw[eint,lenI];rfl
   rw[e2]
   refine⟨_,rfl,.inl ⟨rfl,_,SqL.of hL6⟩,_,rfl,q,z,_,_,rfl,rfl,hL6,hz6,by rw[lenI,lenI,Zj,Z6];omega,?_⟩
   rw[<-eint]
   have hi':i'<=l.length:=W5.le
   have hilt:i<i':=by
    have h1:(l.drop i').length<=(l.drop (i+1)).length:=by
     rw[hdrop]
     exact htl
    rw[Z5,Z5]at h1
    omega
   refine⟨l.length-i',by omega,some (.ref fc),some (.ref z),G',R',as',i',f',cs',out++[(ans.length:Int)]++ans,rfl,W6.out hL6 nR' na',Zf,nR',na',by rw[hdrop];exact hcs',hall',?_,?_,rfl⟩
   ·rw[<-hdue]
    simp[Xv]
   ·rw[Zj,Zj,Z6]
    omega
  ·have hle:l.length<=i:=by simpa using hlt
   have hd:l.drop i=[]:=Vd hle
   rw[hd]at hcs
   have:cs=[]:=by cases fuel<;>cases hcs<;>rfl
   subst this
   have:out=PyVamato.answers l:=by rw[<-hdue];simp[PyFlat.played,PyFlat.told]
   rw[this]at hL
   exact⟨_,rfl,k _ q hL⟩
end
end Cp
end
section
namespace Cp
open PySem PySem.Spec PyProof.Rows L2 Ma
theorem NG{p:Int}{n k:Nat}(h:PyVamato.shape p=some (n,k)):p=0\/p=1\/p=2\/p=3\/p=4\/p=5\/p=6\/p=7\/p=8\/p=9\/p=10\/p=11\/p=12\/p=13\/p=14\/p=15\/p=16\/p=17\/p=18\/p=19:=by
 unfold PyVamato.shape at h
 by_cases q:0<=p/\p<=19
 ·omega
 ·iterate 20 rw[if_neg (by omega)]at h
  cases h
theorem us1(us:List Value)(h:us.length=1):∃a,us=[a]:=by
 match us,h with
 |[a],_=>exact⟨a,rfl⟩
theorem us2(us:List Value)(h:us.length=2):∃a b,us=[a,b]:=by
 match us,h with
 |[a,b],_=>exact⟨a,b,rfl⟩
theorem us3(us:List Value)(h:us.length=3):∃a b c,us=[a,b,c]:=by
 match us,h with
 |[a,b,c],_=>exact⟨a,b,c,rfl⟩
theorem us4(us:List Value)(h:us.length=4):∃a b c d,us=[a,b,c,d]:=by
 match us,h with
 |[a,b,c,d],_=>exact⟨a,b,c,d,rfl⟩
theorem us5(us:List Value)(h:us.length=5):∃a b c d e,us=[a,b,c,d,e]:=by
 match us,h with
 |[a,b,c,d,e],_=>exact⟨a,b,c,d,e,rfl⟩
theorem us6(us:List Value)(h:us.length=6):∃a b c d e f,us=[a,b,c,d,e,f]:=by
 match us,h with
 |[a,b,c,d,e,f],_=>exact⟨a,b,c,d,e,f,rfl⟩
theorem all_mk{P:Program}{w:World}{K:PySem.W.Frag}{h:Heap}{mg:Str->Option Value}{fa:Addr}(X:K.In h)(G:h.Ns mainGlobals mg)(hfa:mg "answers"=some (.ref fa))
  {cc:Addr} {tU tz tX rq iA sP:Value} {sG sy:Option Addr} {sM:Array (Option Value)}
  {aE:Addr} {fk fh fA fg bF fM:Value} {fC fj:Option Addr} {fm:Array (Option Value)}
  {bS:Addr} {qW qh qT rk gG qr:Value} {qX p9:Option Addr} {pQ:Array (Option Value)}
  {bj:Addr} {oR nO oN nX eV oJ:Value} {pj nL:Option Addr} {oZ:Array (Option Value)}
  {a8:Addr} {jL js jg kY cV kL:Value} {k9 kt:Option Addr} {k5:Array (Option Value)}
  {a4:Addr} {pz oP pB oh e7 nF:Value} {o8 oy:Option Addr} {pb:Array (Option Value)}
  {cu:Addr} {rB rZ sk si iq uf:Value} {rH tw:Option Addr} {sr:Array (Option Value)}
  {cg:Addr} {rF tO rV tL iB sO:Value} {r9 tT:Option Addr} {rO:Array (Option Value)}
  {aY:Addr} {iN iM i4 iT cF jf:Value} {iI iH:Option Addr} {iR:Array (Option Value)}
  {ci:Addr} {sX tE tZ sU ik rE:Value} {tW t8:Option Addr} {tS:Array (Option Value)}
  {cv:Addr} {rG rL t4 rJ ij tG:Value} {sA rC:Option Addr} {rY:Array (Option Value)}
  {az:Addr} {i5 jd i6 iO cH iE:Value} {i7 iK:Option Addr} {i8:Array (Option Value)}
  {au:Addr} {gN gk gO gj b0 fW:Value} {fX gr:Option Addr} {gA:Array (Option Value)}
  {am:Addr} {dP dH dN dO bi dQ:Value} {dM dv:Option Addr} {dS:Array (Option Value)}
  {ay:Addr} {gC gI gm gL b4 gP:Value} {gq gy:Option Addr} {fO:Array (Option Value)}
  {c5:Addr} {wa uK vp vX kq vj:Value} {vC wo:Option Addr} {vP:Array (Option Value)}
  {d8:Addr} {wB x6 yk xa ni xk:Value} {yh xw:Option Addr} {xK:Array (Option Value)}
  {cZ:Addr} {uV u9 uZ v8 kC vi:Value} {u0 vb:Option Addr} {vY:Array (Option Value)}
  {aN:Addr} {jz jk jq kH c6 jS:Value} {jG jO:Option Addr} {kO:Array (Option Value)}
  {aB:Addr} {ja i3 iV iX cN iZ:Value} {iU i9:Option Addr} {iL:Array (Option Value)}
  {ao:Addr} {eE eQ eT eP br d6:Value} {eD eO:Option Addr} {eJ:Array (Option Value)}
  {bb:Addr} {qu qa qj qR gn qb:Value} {rl pH:Option Addr} {pW:Array (Option Value)}
  {bC:Addr} {oo nT pd pf e6 n0:Value} {oV nz:Option Addr} {oO:Array (Option Value)}
  {cf:Addr} {sE so tV sN iC rX:Value} {uc sK:Option Addr} {sL:Array (Option Value)}
  {aU:Addr} {lC lj mI mM dD mj:Value} {lJ mf:Option Addr} {lE:Array (Option Value)}
  {aM:Addr} {jP jx kT jt cT jj:Value} {jR kg:Option Addr} {k8:Array (Option Value)}
  {aS:Addr} {mO l7 l6 mh dw l8:Value} {mG lh:Option Addr} {mF:Array (Option Value)}
  {aD:Addr} {iF jb iJ iQ cB iG:Value} {iS iP:Option Addr} {iW:Array (Option Value)}
  {aL:Addr} {jF lf kr j3 c8 jN:Value} {jX kd:Option Addr} {jV:Array (Option Value)}
  {ak:Addr} {de dq dm dk ba df:Value} {dt db:Option Addr} {di:Array (Option Value)}
  {cR:Addr} {uE wt uD uP jW ve:Value} {vH uW:Option Addr} {vN:Array (Option Value)}
  {aw:Addr} {gv fT gH gF b5 gl:Value} {fQ fS:Option Addr} {gp:Array (Option Value)}
  {ap:Addr} {fu fv fo fF bD fB:Value} {fL fq:Option Addr} {fD:Array (Option Value)}
  {aT:Addr} {li l9 lV mo dG lY:Value} {mJ l0:Option Addr} {lA:Array (Option Value)}
  {be:Addr} {w6 xh wM yI nn ym:Value} {yB xH:Option Addr} {yQ:Array (Option Value)}
  {je:Addr} {adT ad7 adS adY aaJ adK:Value} {ad8 ad6:Option Addr} {adX:Array (Option Value)}
  {aQ:Addr} {sh sZ sS sV iw tJ:Value} {sJ sg:Option Addr} {sF:Array (Option Value)}
  {a7:Addr} {kl jA jw j7 cQ jp:Value} {jC kQ:Option Addr} {jo:Array (Option Value)}
  {cy:Addr} {acr abn aaQ abv ug acB:Value} {abz abW:Option Addr} {acD:Array (Option Value)}
  {bg:Addr} {x5 xF wF yt nh wL:Value} {xR yz:Option Addr} {xr:Array (Option Value)}
  {cA:Addr} {acn acL acJ acg ux acb:Value} {acC aaR:Option Addr} {abM:Array (Option Value)}
  {cK:Addr} {ab3 abj acx acf uj acE:Value} {aaS abw:Option Addr} {aa7:Array (Option Value)}
  {bG:Addr} {y2 zY aax aah pJ aas:Value} {zR zj:Option Addr} {zZ:Array (Option Value)}
  {bc:Addr} {lG lX me l4 dz l3:Value} {l5 lQ:Option Addr} {lL:Array (Option Value)}
  {bN:Addr} {yW zP za aap pZ z9:Value} {y4 aay:Option Addr} {zE:Array (Option Value)}
  {bK:Addr} {y9 zp zX aau qH aai:Value} {aaB zO:Option Addr} {zr:Array (Option Value)}
  {bo:Addr} {ph nM nE oa eX n8:Value} {nG pk:Option Addr} {pC:Array (Option Value)}
  {ka:Addr} {acs acM abA abE ul abg:Value} {aba abH:Option Addr} {acK:Array (Option Value)}
  {cX:Addr} {uz uX wu uJ jU ww:Value} {wm vd:Option Addr} {uR:Array (Option Value)}
  {cr:Addr} {sY r8 rP r6 iy tN:Value} {rN rM:Option Addr} {tj:Array (Option Value)}
  {bz:Addr} {oz pG oH o0 eW nJ:Value} {oj nH:Option Addr} {nV:Array (Option Value)}
  {cY:Addr} {uB uC wv vm j5 vM:Value} {vG wx:Option Addr} {va:Array (Option Value)}
  {cO:Addr} {vk uS vU vW kj vo:Value} {vD u1:Option Addr} {vx:Array (Option Value)}
  {cI:Addr} {acy ab1 abt abS uh abX:Value} {abi acd:Option Addr} {aaO:Array (Option Value)}
  {cJ:Addr} {abV abp aaP abl um abO:Value} {abN acF:Option Addr} {abJ:Array (Option Value)}
  {bP:Addr} {ze aam yX aaD qf aal:Value} {zn aaG:Option Addr} {aaf:Array (Option Value)}
  {cD:Addr} {abu aa2 aa0 abc uo abe:Value} {acA aco:Option Addr} {aa8:Array (Option Value)}
  {bq:Addr} {nU o5 o3 oX fb nQ:Value} {oG oQ:Option Addr} {pA:Array (Option Value)}
  {cw:Addr} {sj sx rW rp ir su:Value} {ua rK:Option Addr} {sR:Array (Option Value)}
  {bW:Addr} {qJ pV qi pT gw pO:Value} {qm pY:Option Addr} {qo:Array (Option Value)}
  {bR:Addr} {qI qw ql pU fR qY:Value} {qt qk:Option Addr} {pR:Array (Option Value)}
  {cj:Addr} {tm t9 tI sv iD rR:Value} {tK ue:Option Addr} {tR:Array (Option Value)}
  {bh:Addr} {wz yy yr wO mP wX:Value} {wY yp:Option Addr} {yT:Array (Option Value)}
  {bL:Addr} {zV z0 zI zg rn aac:Value} {z8 zN:Option Addr} {zh:Array (Option Value)}
  {bQ:Addr} {zo yY yU y1 qS y6:Value} {aaA aav:Option Addr} {z4:Array (Option Value)}
  {cC:Addr} {ab0 abT ach aaU uk ack:Value} {aaL aa6:Option Addr} {abo:Array (Option Value)}
  {cz:Addr} {aa9 abh ace aaX uu abZ:Value} {abf acw:Option Addr} {aby:Array (Option Value)}
  {bd:Addr} {mz lD lW lZ d4 lF:Value} {mK mC:Option Addr} {lv:Array (Option Value)}
  {bJ:Addr} {zG z5 zc zx p0 zU:Value} {zC zD:Option Addr} {yV:Array (Option Value)}
  {gB:Addr} {v1 ko jZ jl eI kS:Value} {uU jB:Option Addr} {uO:Array (Option Value)}
  {cGrid:Addr}
  {cSrc:Addr}
  {cBox:Addr}
  {wb:Tok}
  {acu:Tok}
  {abQ:Tok}
  {adz:Tok}
  {acU:Tok}
  {aSIGN:Addr}
  {aRULE:Addr}
  {aao:Tok} {aaZ:Nat} {zk:Array (Option Value)}
  {zB:Tok} {ab7:Nat} {aaw:Array (Option Value)}
  {wc:Tok}
  {oE:Tok}
  {qV:Tok}
  {mB:Tok}
  {eK:Tok}
  {lH:Tok}
  {ra:Tok}
  {abG:Tok}
  {aNB:Addr}
  {aMT:Addr}
  {ad2:Nat} {adt:Array (Option Value)} {ju:Addr} {ya wN:Tok} {y3:Nat} {xy:Array (Option Value)} {jH:Addr} {xo yd:Tok} {zM:Nat} {ye:Array (Option Value)} {kn:Addr} {yP xE:Tok} {zW:Nat} {yC:Array (Option Value)} {j8:Addr} {xV yx:Tok} {aag:Nat} {yH:Array (Option Value)}
  {adU:Nat} {ac3:Array (Option Value)} {jv:Addr} {xO xg:Tok} {aan:Nat} {xb:Array (Option Value)} {kE:Addr} {yD yS:Tok} {zq:Nat} {yN:Array (Option Value)} {kP:Addr} {x3 xX:Tok} {aar:Nat} {yO:Array (Option Value)} {j9:Addr} {yg x4:Tok} {zw:Nat} {yE:Array (Option Value)} {kf:Addr} {yi xl:Tok} {aat:Nat} {yK:Array (Option Value)} {ji:Addr} {yJ wI:Tok} {zS:Nat} {wU:Array (Option Value)} {kb:Addr} {wy xm:Tok} {aad:Nat} {x8:Array (Option Value)} {kW:Addr} {xA yA:Tok} {zf:Nat} {wH:Array (Option Value)}
  {xZ:Tok}
  {lO:Tok}
  {ny:Tok}
  {wl:Tok}
  {mD:Tok}
  {lg:Tok}
  {d9:Tok}
  {ia:Tok}
  {fI:Tok}
  {aCALLS:Addr}
  {aep:Tok} {aek:Tok} {aej:Tok} {aee:Tok} {aeb:Tok} {aef:Tok} {aeh:Tok} {ael:Tok} {aeq:Tok} {aem:Tok} {adN:Tok} {adR:Tok} {adZ:Tok} {adL:Tok} {adO:Tok} {adQ:Tok} {adP:Tok} {ad0:Tok} {ad1:Tok} {adJ:Tok} {zl:Nat}
  (aaY:PySem.W.nsIn K mainGlobals "Grid"=some (some (.ref cGrid)))
  (acv:PySem.W.plainGet K cGrid Str.empty=true)
  (abU:PySem.W.hasDictIn K cGrid=true)
  (aa3:PySem.W.plainOver K cGrid=true)
  (acj:PySem.W.findIn K (.ref cGrid) "__setattr__"=some (some (.builtin "object.__setattr__")))
  (ab6:PySem.W.makesIn K cGrid=true)
  (abq:PySem.W.keepIn K (.ref cGrid)=true)
  (xn:PySem.W.nsIn K mainGlobals "Source"=some (some (.ref cSrc)))
  (yM:PySem.W.plainGet K cSrc Str.empty=true)
  (wG:PySem.W.hasDictIn K cSrc=true)
  (xS:PySem.W.plainOver K cSrc=true)
  (yu:PySem.W.findIn K (.ref cSrc) "__setattr__"=some (some (.builtin "object.__setattr__")))
  (wJ:PySem.W.makesIn K cSrc=true)
  (yq:PySem.W.keepIn K (.ref cSrc)=true)
  (wK:PySem.W.nsIn K mainGlobals "Box"=some (some (.ref cBox)))
  (ado:PySem.W.plainGet K cBox Str.empty=true)
  (adm:PySem.W.hasDictIn K cBox=true)
  (ac2:PySem.W.plainOver K cBox=true)
  (adh:PySem.W.findIn K (.ref cBox) "__setattr__"=some (some (.builtin "object.__setattr__")))
  (yf:PySem.W.makesIn K cBox=true)
  (xW:PySem.W.keepIn K (.ref cBox)=true)
  (ck:PySem.W.nsIn K mainGlobals "split_at"=some (some (.ref cc)))
  (uY:K.lookup cc=some ⟨tU,sG,.func (PySem.W.fnOf "split_at" "split_at" (ZO SK) (ZL SK) (Zh SK) .none tz tX rq sy iA sP),sM⟩)
  (vV:PySem.W.codeIn K iA "split_at"=true)
  (bm:PySem.W.keepIn K (.ref cc)=true)
  (f8:PySem.W.nsIn K mainGlobals "are_plain_digits"=some (some (.ref aE)))
  (gc:K.lookup aE=some ⟨fk,fC,.func (PySem.W.fnOf "are_plain_digits" "are_plain_digits" (ZO SM) (ZL SM) (Zh SM) .none fh fA fg fj bF fM),fm⟩)
  (gK:PySem.W.codeIn K bF "are_plain_digits"=true)
  (b7:PySem.W.keepIn K (.ref aE)=true)
  (sQ:PySem.W.nsIn K mainGlobals "number_of"=some (some (.ref bS)))
  (tH:K.lookup bS=some ⟨qW,qX,.func (PySem.W.fnOf "number_of" "number_of" (ZO sNum) (ZL sNum) (Zh sNum) .none qh qT rk p9 gG qr),pQ⟩)
  (tP:PySem.W.codeIn K gG "number_of"=true)
  (iz:PySem.W.keepIn K (.ref bS)=true)
  (cE:PySem.W.nsIn K mainGlobals "numbers_of"=some (some (.ref bj)))
  (pP:K.lookup bj=some ⟨oR,pj,.func (PySem.W.fnOf "numbers_of" "numbers_of" (ZO PY) (ZL PY) (Zh PY) .none nO oN nX nL eV oJ),oZ⟩)
  (qA:PySem.W.codeIn K eV "numbers_of"=true)
  (bw:PySem.W.keepIn K (.ref bj)=true)
  (lI:PySem.W.nsIn K mainGlobals "is_sign_name"=some (some (.ref a8)))
  (mi:K.lookup a8=some ⟨jL,k9,.func (PySem.W.fnOf "is_sign_name" "is_sign_name" (ZO VP) (ZL VP) (Zh VP) .none js jg kY kt cV kL),k5⟩)
  (lx:PySem.W.codeIn K cV "is_sign_name"=true)
  (du:PySem.W.keepIn K (.ref a8)=true)
  (gf:PySem.W.findIn K (.ref cBox) "__init__"=some (some (.ref a4)))
  (gb:PySem.W.isFn K (.ref a4)=true)
  (qB:K.lookup a4=some ⟨pz,o8,.func (PySem.W.fnOf "__init__" "Box.__init__" (ZO P8) (ZL P8) (Zh P8) .none oP pB oh oy e7 nF),pb⟩)
  (qN:PySem.W.codeIn K e7 "Box.__init__"=true)
  (qU:PySem.W.keepIn K (.ref a4)=true)
  (wq:PySem.W.nsIn K mainGlobals "rule_box"=some (some (.ref cu)))
  (vc:K.lookup cu=some ⟨rB,rH,.func (PySem.W.fnOf "rule_box" "rule_box" (ZO PR) (ZL PR) (Zh PR) .none rZ sk si tw iq uf),sr⟩)
  (vZ:PySem.W.codeIn K iq "rule_box"=true)
  (jm:PySem.W.keepIn K (.ref cu)=true)
  (v2:PySem.W.nsIn K mainGlobals "sign_box"=some (some (.ref cg)))
  (vR:K.lookup cg=some ⟨rF,r9,.func (PySem.W.fnOf "sign_box" "sign_box" (ZO PN) (ZL PN) (Zh PN) .none tO rV tL tT iB sO),rO⟩)
  (vn:PySem.W.codeIn K iB "sign_box"=true)
  (k6:PySem.W.keepIn K (.ref cg)=true)
  (kK:PySem.W.nsIn K mainGlobals "is_first_line"=some (some (.ref aY)))
  (lc:K.lookup aY=some ⟨iN,iI,.func (PySem.W.fnOf "is_first_line" "is_first_line" (ZO SR) (ZL SR) (Zh SR) .none iM i4 iT iH cF jf),iR⟩)
  (kZ:PySem.W.codeIn K cF "is_first_line"=true)
  (da:PySem.W.keepIn K (.ref aY)=true)
  (uA:PySem.W.nsIn K mainGlobals "mark_box"=some (some (.ref ci)))
  (wk:K.lookup ci=some ⟨sX,tW,.func (PySem.W.fnOf "mark_box" "mark_box" (ZO P0) (ZL P0) (Zh P0) .none tE tZ sU t8 ik rE),tS⟩)
  (vt:PySem.W.codeIn K ik "mark_box"=true)
  (jJ:PySem.W.keepIn K (.ref ci)=true)
  (kD:PySem.W.nsIn K mainGlobals "boxes_of"=some (some (.ref cv)))
  (vS:K.lookup cv=some ⟨rG,sA,.func (PySem.W.fnOf "boxes_of" "boxes_of" (ZO S3) (ZL S3) (Zh S3) .none rL t4 rJ rC ij tG),rY⟩)
  (vF:PySem.W.codeIn K ij "boxes_of"=true)
  (eA:PySem.W.keepIn K (.ref cv)=true)
  (kM:PySem.W.findIn K (.ref cSrc) "__init__"=some (some (.ref az)))
  (kh:PySem.W.isFn K (.ref az)=true)
  (jn:K.lookup az=some ⟨i5,i7,.func (PySem.W.fnOf "__init__" "Source.__init__" (ZO PL) (ZL PL) (Zh PL) .none jd i6 iO iK cH iE),i8⟩)
  (ku:PySem.W.codeIn K cH "Source.__init__"=true)
  (kU:PySem.W.keepIn K (.ref az)=true)
  (hZ:PySem.W.findIn K (.ref cSrc) "has_more"=some (some (.ref au)))
  (gX:PySem.W.isFn K (.ref au)=true)
  (gY:K.lookup au=some ⟨gN,fX,.func (PySem.W.fnOf "has_more" "Source.has_more" (ZO PZ) (ZL PZ) (Zh PZ) .none gk gO gj gr b0 fW),gA⟩)
  (gS:PySem.W.codeIn K b0 "Source.has_more"=true)
  (cb:PySem.W.keepIn K (.ref au)=true)
  (af:PySem.W.findIn K (.ref cSrc) "take_number"=some (some (.ref am)))
  (ac:PySem.W.isFn K (.ref am)=true)
  (eB:K.lookup am=some ⟨dP,dM,.func (PySem.W.fnOf "take_number" "Source.take_number" (ZO PD) (ZL PD) (Zh PD) .none dH dN dO dv bi dQ),dS⟩)
  (el:PySem.W.codeIn K bi "Source.take_number"=true)
  (aa:PySem.W.keepIn K (.ref am)=true)
  (aH:PySem.W.findIn K (.ref cSrc) "take_row"=some (some (.ref ay)))
  (aG:PySem.W.isFn K (.ref ay)=true)
  (gW:K.lookup ay=some ⟨gC,gq,.func (PySem.W.fnOf "take_row" "Source.take_row" (ZO sRow) (ZL sRow) (Zh sRow) .none gI gm gL gy b4 gP),fO⟩)
  (ib:PySem.W.codeIn K b4 "Source.take_row"=true)
  (ax:PySem.W.keepIn K (.ref ay)=true)
  (xq:PySem.W.nsIn K mainGlobals "text_of"=some (some (.ref c5)))
  (xp:K.lookup c5=some ⟨wa,vC,.func (PySem.W.fnOf "text_of" "text_of" (ZO PB) (ZL PB) (Zh PB) .none uK vp vX wo kq vj),vP⟩)
  (wR:PySem.W.codeIn K kq "text_of"=true)
  (mY:PySem.W.keepIn K (.ref c5)=true)
  (zy:PySem.W.nsIn K mainGlobals "row_of"=some (some (.ref d8)))
  (zA:K.lookup d8=some ⟨wB,yh,.func (PySem.W.fnOf "row_of" "row_of" (ZO SL) (ZL SL) (Zh SL) .none x6 yk xa xw ni xk),xK⟩)
  (zH:PySem.W.codeIn K ni "row_of"=true)
  (qK:PySem.W.keepIn K (.ref d8)=true)
  (xB:PySem.W.nsIn K mainGlobals "rows_of"=some (some (.ref cZ)))
  (xT:K.lookup cZ=some ⟨uV,u0,.func (PySem.W.fnOf "rows_of" "rows_of" (ZO Th) (ZL Th) (Zh Th) .none u9 uZ v8 vb kC vi),vY⟩)
  (yn:PySem.W.codeIn K kC "rows_of"=true)
  (nt:PySem.W.keepIn K (.ref cZ)=true)
  (dE:PySem.W.findIn K (.ref cGrid) "has_row"=some (some (.ref aN)))
  (dZ:PySem.W.isFn K (.ref aN)=true)
  (mw:K.lookup aN=some ⟨jz,jG,.func (PySem.W.fnOf "has_row" "Grid.has_row" (ZO P3) (ZL P3) (Zh P3) .none jk jq kH jO c6 jS),kO⟩)
  (mn:PySem.W.codeIn K c6 "Grid.has_row"=true)
  (bI:PySem.W.keepIn K (.ref aN)=true)
  (a0:PySem.W.findIn K (.ref cGrid) "has_cell"=some (some (.ref aB)))
  (aX:PySem.W.isFn K (.ref aB)=true)
  (kN:K.lookup aB=some ⟨ja,iU,.func (PySem.W.fnOf "has_cell" "Grid.has_cell" (ZO sHas) (ZL sHas) (Zh sHas) .none i3 iV iX i9 cN iZ),iL⟩)
  (jY:PySem.W.codeIn K cN "Grid.has_cell"=true)
  (aA:PySem.W.keepIn K (.ref aB)=true)
  (fG:PySem.W.findIn K (.ref cGrid) "is_at_border"=some (some (.ref ao)))
  (fH:PySem.W.isFn K (.ref ao)=true)
  (ft:K.lookup ao=some ⟨eE,eD,.func (PySem.W.fnOf "is_at_border" "Grid.is_at_border" (ZO Oa) (ZL Oa) (Zh Oa) .none eQ eT eP eO br d6),eJ⟩)
  (fi:PySem.W.codeIn K br "Grid.is_at_border"=true)
  (bE:PySem.W.keepIn K (.ref ao)=true)
  (dr:PySem.W.findIn K (.ref cGrid) "turn"=some (some (.ref bb)))
  (dc:PySem.W.isFn K (.ref bb)=true)
  (tM:K.lookup bb=some ⟨qu,rl,.func (PySem.W.fnOf "turn" "Grid.turn" (ZO Pz) (ZL Pz) (Zh Pz) .none qa qj qR pH gn qb),pW⟩)
  (tY:PySem.W.codeIn K gn "Grid.turn"=true)
  (bX:PySem.W.keepIn K (.ref bb)=true)
  (qp:PySem.W.nsIn K mainGlobals "overlapped"=some (some (.ref bC)))
  (qP:K.lookup bC=some ⟨oo,oV,.func (PySem.W.fnOf "overlapped" "overlapped" (ZO PV) (ZL PV) (Zh PV) .none nT pd pf nz e6 n0),oO⟩)
  (rf:PySem.W.codeIn K e6 "overlapped"=true)
  (gi:PySem.W.keepIn K (.ref bC)=true)
  (uF:PySem.W.nsIn K mainGlobals "inverted"=some (some (.ref cf)))
  (vJ:K.lookup cf=some ⟨sE,uc,.func (PySem.W.fnOf "inverted" "inverted" (ZO P1) (ZL P1) (Zh P1) .none so tV sN sK iC rX),sL⟩)
  (vh:PySem.W.codeIn K iC "inverted"=true)
  (jK:PySem.W.keepIn K (.ref cf)=true)
  (oB:PySem.W.findIn K (.ref cGrid) "invert"=some (some (.ref aU)))
  (oU:PySem.W.isFn K (.ref aU)=true)
  (nY:K.lookup aU=some ⟨lC,lJ,.func (PySem.W.fnOf "invert" "Grid.invert" (ZO Ti) (ZL Ti) (Zh Ti) .none lj mI mM mf dD mj),lE⟩)
  (n9:PySem.W.codeIn K dD "Grid.invert"=true)
  (e8:PySem.W.keepIn K (.ref aU)=true)
  (dX:PySem.W.findIn K (.ref cGrid) "lay_out"=some (some (.ref aM)))
  (dI:PySem.W.isFn K (.ref aM)=true)
  (mN:K.lookup aM=some ⟨jP,jR,.func (PySem.W.fnOf "lay_out" "Grid.lay_out" (ZO sLay) (ZL sLay) (Zh sLay) .none jx kT jt kg cT jj),k8⟩)
  (lT:PySem.W.codeIn K cT "Grid.lay_out"=true)
  (bM:PySem.W.keepIn K (.ref aM)=true)
  (ou:PySem.W.findIn K (.ref cGrid) "__init__"=some (some (.ref aS)))
  (nI:PySem.W.isFn K (.ref aS)=true)
  (pE:K.lookup aS=some ⟨mO,mG,.func (PySem.W.fnOf "__init__" "Grid.__init__" (ZO sGI) (ZL sGI) (Zh sGI) .none l7 l6 mh lh dw l8),mF⟩)
  (nZ:PySem.W.codeIn K dw "Grid.__init__"=true)
  (o7:PySem.W.keepIn K (.ref aS)=true)
  (bn:PySem.W.findIn K (.ref cGrid) "turn_all"=some (some (.ref aD)))
  (bv:PySem.W.isFn K (.ref aD)=true)
  (j0:K.lookup aD=some ⟨iF,iS,.func (PySem.W.fnOf "turn_all" "Grid.turn_all" (ZO PH) (ZL PH) (Zh PH) .none jb iJ iQ iP cB iG),iW⟩)
  (jD:PySem.W.codeIn K cB "Grid.turn_all"=true)
  (aZ:PySem.W.keepIn K (.ref aD)=true)
  (dY:PySem.W.findIn K (.ref cGrid) "touched"=some (some (.ref aL)))
  (dR:PySem.W.isFn K (.ref aL)=true)
  (md:K.lookup aL=some ⟨jF,jX,.func (PySem.W.fnOf "touched" "Grid.touched" (ZO SI) (ZL SI) (Zh SI) .none lf kr j3 kd c8 jN),jV⟩)
  (lr:PySem.W.codeIn K c8 "Grid.touched"=true)
  (bO:PySem.W.keepIn K (.ref aL)=true)
  (aJ:PySem.W.findIn K (.ref cGrid) "cells_that_are"=some (some (.ref ak)))
  (aO:PySem.W.isFn K (.ref ak)=true)
  (dW:K.lookup ak=some ⟨de,dt,.func (PySem.W.fnOf "cells_that_are" "Grid.cells_that_are" (ZO sCta) (ZL sCta) (Zh sCta) .none dq dm dk db ba df),di⟩)
  (dU:PySem.W.codeIn K ba "Grid.cells_that_are"=true)
  (aq:PySem.W.keepIn K (.ref ak)=true)
  (nw:PySem.W.nsIn K mainGlobals "stepped"=some (some (.ref cR)))
  (xu:K.lookup cR=some ⟨uE,vH,.func (PySem.W.fnOf "stepped" "stepped" (ZO PJ) (ZL PJ) (Zh PJ) .none wt uD uP uW jW ve),vN⟩)
  (yj:PySem.W.codeIn K jW "stepped"=true)
  (fU:PySem.W.keepIn K (.ref cR)=true)
  (ic:PySem.W.findIn K (.ref cGrid) "neighbours"=some (some (.ref aw)))
  (hW:PySem.W.isFn K (.ref aw)=true)
  (hJ:K.lookup aw=some ⟨gv,fQ,.func (PySem.W.fnOf "neighbours" "Grid.neighbours" (ZO sNb) (ZL sNb) (Zh sNb) .none fT gH gF fS b5 gl),gp⟩)
  (g0:PySem.W.codeIn K b5 "Grid.neighbours"=true)
  (ca:PySem.W.keepIn K (.ref aw)=true)
  (gz:PySem.W.findIn K (.ref cGrid) "spread_once"=some (some (.ref ap)))
  (gE:PySem.W.isFn K (.ref ap)=true)
  (fN:K.lookup ap=some ⟨fu,fL,.func (PySem.W.fnOf "spread_once" "Grid.spread_once" (ZO PX) (ZL PX) (Zh PX) .none fv fo fF fq bD fB),fD⟩)
  (f9:PySem.W.codeIn K bD "Grid.spread_once"=true)
  (bZ:PySem.W.keepIn K (.ref ap)=true)
  (oi:PySem.W.findIn K (.ref cGrid) "spread"=some (some (.ref aT)))
  (pi:PySem.W.isFn K (.ref aT)=true)
  (n6:K.lookup aT=some ⟨li,mJ,.func (PySem.W.fnOf "spread" "Grid.spread" (ZO Tf) (ZL Tf) (Zh Tf) .none l9 lV mo l0 dG lY),lA⟩)
  (px:PySem.W.codeIn K dG "Grid.spread"=true)
  (fe:PySem.W.keepIn K (.ref aT)=true)
  (aen:PySem.W.nsIn K mainGlobals "invert"=some (some (.ref be)))
  (y8:K.lookup be=some ⟨w6,yB,.func (PySem.W.fnOf "invert" "invert" (ZO Uj) (ZL Uj) (Zh Uj) .none xh wM yI xH nn ym),yQ⟩)
  (zm:PySem.W.codeIn K nn "invert"=true)
  (rj:PySem.W.keepIn K (.ref be)=true)
  (aeG:PySem.W.nsIn K mainGlobals "at"=some (some (.ref je)))
  (aeg:K.lookup je=some ⟨adT,ad8,.func (PySem.W.fnOf "at" "at" (ZO sAt) (ZL sAt) (Zh sAt) .none ad7 adS adY ad6 aaJ adK),adX⟩)
  (aeo:PySem.W.codeIn K aaJ "at"=true)
  (adG:PySem.W.keepIn K (.ref je)=true)
  (adI:PySem.W.nsIn K mainGlobals "set_cell"=some (some (.ref aQ)))
  (uI:K.lookup aQ=some ⟨sh,sJ,.func (PySem.W.fnOf "set_cell" "set_cell" (ZO PP) (ZL PP) (Zh PP) .none sZ sS sV sg iw tJ),sF⟩)
  (vE:PySem.W.codeIn K iw "set_cell"=true)
  (jy:PySem.W.keepIn K (.ref aQ)=true)
  (dL:PySem.W.nsIn K mainGlobals "spread_cells"=some (some (.ref a7)))
  (mH:K.lookup a7=some ⟨kl,jC,.func (PySem.W.fnOf "spread_cells" "spread_cells" (ZO sSpC) (ZL sSpC) (Zh sSpC) .none jA jw j7 kQ cQ jp),jo⟩)
  (mr:PySem.W.codeIn K cQ "spread_cells"=true)
  (bH:PySem.W.keepIn K (.ref a7)=true)
  (aeB:PySem.W.nsIn K mainGlobals "grow"=some (some (.ref cy)))
  (ads:K.lookup cy=some ⟨acr,abz,.func (PySem.W.fnOf "grow" "grow" (ZO P4) (ZL P4) (Zh P4) .none abn aaQ abv abW ug acB),acD⟩)
  (adf:PySem.W.codeIn K ug "grow"=true)
  (xU:PySem.W.keepIn K (.ref cy)=true)
  (aei:PySem.W.nsIn K mainGlobals "shrink"=some (some (.ref bg)))
  (zz:K.lookup bg=some ⟨x5,xR,.func (PySem.W.fnOf "shrink" "shrink" (ZO Tg) (ZL Tg) (Zh Tg) .none xF wF yt yz nh wL),xr⟩)
  (aaC:PySem.W.codeIn K nh "shrink"=true)
  (pK:PySem.W.keepIn K (.ref bg)=true)
  (aez:PySem.W.nsIn K mainGlobals "text"=some (some (.ref cA)))
  (adw:K.lookup cA=some ⟨acn,acC,.func (PySem.W.fnOf "text" "text" (ZO SV) (ZL SV) (Zh SV) .none acL acJ acg aaR ux acb),abM⟩)
  (ac9:PySem.W.codeIn K ux "text"=true)
  (yw:PySem.W.keepIn K (.ref cA)=true)
  (aeC:PySem.W.nsIn K mainGlobals "read"=some (some (.ref cK)))
  (acZ:K.lookup cK=some ⟨ab3,aaS,.func (PySem.W.fnOf "read" "read" (ZO SX) (ZL SX) (Zh SX) .none abj acx acf abw uj acE),aa7⟩)
  (ac6:PySem.W.codeIn K uj "read"=true)
  (xC:PySem.W.keepIn K (.ref cK)=true)
  (aer:PySem.W.nsIn K mainGlobals "begin"=some (some (.ref bG)))
  (aaK:K.lookup bG=some ⟨y2,zR,.func (PySem.W.fnOf "begin" "begin" (ZO S4) (ZL S4) (Zh S4) .none zY aax aah zj pJ aas),zZ⟩)
  (abr:PySem.W.codeIn K pJ "begin"=true)
  (uw:PySem.W.keepIn K (.ref bG)=true)
  (eY:PySem.W.nsIn K mainGlobals "cover_marks"=some (some (.ref bc)))
  (oT:K.lookup bc=some ⟨lG,l5,.func (PySem.W.fnOf "cover_marks" "cover_marks" (ZO SQ) (ZL SQ) (Zh SQ) .none lX me l4 lQ dz l3),lL⟩)
  (om:PySem.W.codeIn K dz "cover_marks"=true)
  (b9:PySem.W.keepIn K (.ref bc)=true)
  (aex:PySem.W.nsIn K mainGlobals "paint"=some (some (.ref bN)))
  (aaV:K.lookup bN=some ⟨yW,y4,.func (PySem.W.fnOf "paint" "paint" (ZO SO) (ZL SO) (Zh SO) .none zP za aap aay pZ z9),zE⟩)
  (abx:PySem.W.codeIn K pZ "paint"=true)
  (ui:PySem.W.keepIn K (.ref bN)=true)
  (aes:PySem.W.nsIn K mainGlobals "erase"=some (some (.ref bK)))
  (aaM:K.lookup bK=some ⟨y9,aaB,.func (PySem.W.fnOf "erase" "erase" (ZO SS) (ZL SS) (Zh SS) .none zp zX aau zO qH aai),zr⟩)
  (abY:PySem.W.codeIn K qH "erase"=true)
  (uy:PySem.W.keepIn K (.ref bK)=true)
  (a6:PySem.W.nsIn K mainGlobals "painted_in"=some (some (.ref bo)))
  (qZ:K.lookup bo=some ⟨ph,nG,.func (PySem.W.fnOf "painted_in" "painted_in" (ZO sPIn) (ZL sPIn) (Zh sPIn) .none nM nE oa pk eX n8),pC⟩)
  (qz:PySem.W.codeIn K eX "painted_in"=true)
  (aP:PySem.W.keepIn K (.ref bo)=true)
  (pS:PySem.W.nsIn K mainGlobals "both"=some (some (.ref ka)))
  (acO:K.lookup ka=some ⟨acs,aba,.func (PySem.W.fnOf "both" "both" (ZO P9) (ZL P9) (Zh P9) .none acM abA abE abH ul abg),acK⟩)
  (adj:PySem.W.codeIn K ul "both"=true)
  (jh:PySem.W.keepIn K (.ref ka)=true)
  (nv:PySem.W.nsIn K mainGlobals "stacked"=some (some (.ref cX)))
  (xI:K.lookup cX=some ⟨uz,wm,.func (PySem.W.fnOf "stacked" "stacked" (ZO sStk) (ZL sStk) (Zh sStk) .none uX wu uJ vd jU ww),uR⟩)
  (xY:PySem.W.codeIn K jU "stacked"=true)
  (fY:PySem.W.keepIn K (.ref cX)=true)
  (kX:PySem.W.nsIn K mainGlobals "pairs_in"=some (some (.ref cr)))
  (we:K.lookup cr=some ⟨sY,rN,.func (PySem.W.fnOf "pairs_in" "pairs_in" (ZO PU) (ZL PU) (Zh PU) .none r8 rP r6 rM iy tN),tj⟩)
  (vy:PySem.W.codeIn K iy "pairs_in"=true)
  (eM:PySem.W.keepIn K (.ref cr)=true)
  (qC:PySem.W.nsIn K mainGlobals "squares_in"=some (some (.ref bz)))
  (qO:K.lookup bz=some ⟨oz,oj,.func (PySem.W.fnOf "squares_in" "squares_in" (ZO PM) (ZL PM) (Zh PM) .none pG oH o0 nH eW nJ),nV⟩)
  (q0:PySem.W.codeIn K eW "squares_in"=true)
  (gD:PySem.W.keepIn K (.ref bz)=true)
  (yo:PySem.W.nsIn K mainGlobals "edge_of"=some (some (.ref cY)))
  (xP:K.lookup cY=some ⟨uB,vG,.func (PySem.W.fnOf "edge_of" "edge_of" (ZO P5) (ZL P5) (Zh P5) .none uC wv vm wx j5 vM),va⟩)
  (wV:PySem.W.codeIn K j5 "edge_of"=true)
  (mZ:PySem.W.keepIn K (.ref cY)=true)
  (xj:PySem.W.nsIn K mainGlobals "runs_of"=some (some (.ref cO)))
  (xJ:K.lookup cO=some ⟨vk,vD,.func (PySem.W.fnOf "runs_of" "runs_of" (ZO PQ) (ZL PQ) (Zh PQ) .none uS vU vW u1 kj vo),vx⟩)
  (xz:PySem.W.codeIn K kj "runs_of"=true)
  (mV:PySem.W.keepIn K (.ref cO)=true)
  (aey:PySem.W.nsIn K mainGlobals "area"=some (some (.ref cI)))
  (adn:K.lookup cI=some ⟨acy,abi,.func (PySem.W.fnOf "area" "area" (ZO Ob) (ZL Ob) (Zh Ob) .none ab1 abt abS acd uh abX),aaO⟩)
  (adD:PySem.W.codeIn K uh "area"=true)
  (xf:PySem.W.keepIn K (.ref cI)=true)
  (aeE:PySem.W.nsIn K mainGlobals "edge"=some (some (.ref cJ)))
  (adE:K.lookup cJ=some ⟨abV,abN,.func (PySem.W.fnOf "edge" "edge" (ZO S0) (ZL S0) (Zh S0) .none abp aaP abl acF um abO),abJ⟩)
  (ada:PySem.W.codeIn K um "edge"=true)
  (yF:PySem.W.keepIn K (.ref cJ)=true)
  (aeu:PySem.W.nsIn K mainGlobals "count"=some (some (.ref bP)))
  (ab4:K.lookup bP=some ⟨ze,zn,.func (PySem.W.fnOf "count" "count" (ZO SU) (ZL SU) (Zh SU) .none aam yX aaD aaG qf aal),aaf⟩)
  (acI:PySem.W.codeIn K qf "count"=true)
  (ur:PySem.W.keepIn K (.ref bP)=true)
  (aeF:PySem.W.nsIn K mainGlobals "runs"=some (some (.ref cD)))
  (ac0:K.lookup cD=some ⟨abu,acA,.func (PySem.W.fnOf "runs" "runs" (ZO SW) (ZL SW) (Zh SW) .none aa2 aa0 abc aco uo abe),aa8⟩)
  (acY:PySem.W.codeIn K uo "runs"=true)
  (xi:PySem.W.keepIn K (.ref cD)=true)
  (qd:PySem.W.nsIn K mainGlobals "taken_part"=some (some (.ref bq)))
  (pN:K.lookup bq=some ⟨nU,oG,.func (PySem.W.fnOf "taken_part" "taken_part" (ZO SJ) (ZL SJ) (Zh SJ) .none o5 o3 oX oQ fb nQ),pA⟩)
  (qL:PySem.W.codeIn K fb "taken_part"=true)
  (gx:PySem.W.keepIn K (.ref bq)=true)
  (jI:PySem.W.nsIn K mainGlobals "parts_of"=some (some (.ref cw)))
  (uM:K.lookup cw=some ⟨sj,ua,.func (PySem.W.fnOf "parts_of" "parts_of" (ZO SN) (ZL SN) (Zh SN) .none sx rW rp rK ir su),sR⟩)
  (uG:PySem.W.codeIn K ir "parts_of"=true)
  (eU:PySem.W.keepIn K (.ref cw)=true)
  (bT:PySem.W.nsIn K mainGlobals "pieces_of"=some (some (.ref bW)))
  (sD:K.lookup bW=some ⟨qJ,qm,.func (PySem.W.fnOf "pieces_of" "pieces_of" (ZO sPcs) (ZL sPcs) (Zh sPcs) .none pV qi pT pY gw pO),qo⟩)
  (tF:PySem.W.codeIn K gw "pieces_of"=true)
  (a9:PySem.W.keepIn K (.ref bW)=true)
  (ub:PySem.W.nsIn K mainGlobals "is_inside"=some (some (.ref bR)))
  (sW:K.lookup bR=some ⟨qI,qt,.func (PySem.W.fnOf "is_inside" "is_inside" (ZO P2) (ZL P2) (Zh P2) .none qw ql pU qk fR qY),pR⟩)
  (tD:PySem.W.codeIn K fR "is_inside"=true)
  (iu:PySem.W.keepIn K (.ref bR)=true)
  (kJ:PySem.W.nsIn K mainGlobals "holes_of"=some (some (.ref cj)))
  (vB:K.lookup cj=some ⟨tm,tK,.func (PySem.W.fnOf "holes_of" "holes_of" (ZO sHls) (ZL sHls) (Zh sHls) .none t9 tI sv ue iD rR),tR⟩)
  (vA:PySem.W.codeIn K iD "holes_of"=true)
  (eR:PySem.W.keepIn K (.ref cj)=true)
  (aed:PySem.W.nsIn K mainGlobals "pieces"=some (some (.ref bh)))
  (zQ:K.lookup bh=some ⟨wz,wY,.func (PySem.W.fnOf "pieces" "pieces" (ZO P6) (ZL P6) (Zh P6) .none yy yr wO yp mP wX),yT⟩)
  (zi:PySem.W.codeIn K mP "pieces"=true)
  (pX:PySem.W.keepIn K (.ref bh)=true)
  (aew:PySem.W.nsIn K mainGlobals "piece"=some (some (.ref bL)))
  (aa4:K.lookup bL=some ⟨zV,z8,.func (PySem.W.fnOf "piece" "piece" (ZO sCPc) (ZL sCPc) (Zh sCPc) .none z0 zI zg zN rn aac),zh⟩)
  (abD:PySem.W.codeIn K rn "piece"=true)
  (uq:PySem.W.keepIn K (.ref bL)=true)
  (aet:PySem.W.nsIn K mainGlobals "holes"=some (some (.ref bQ)))
  (aa5:K.lookup bQ=some ⟨zo,aaA,.func (PySem.W.fnOf "holes" "holes" (ZO P7) (ZL P7) (Zh P7) .none yY yU y1 aav qS y6),z4⟩)
  (ab5:PySem.W.codeIn K qS "holes"=true)
  (ut:PySem.W.keepIn K (.ref bQ)=true)
  (aeD:PySem.W.nsIn K mainGlobals "fill"=some (some (.ref cC)))
  (acP:K.lookup cC=some ⟨ab0,aaL,.func (PySem.W.fnOf "fill" "fill" (ZO SZ) (ZL SZ) (Zh SZ) .none abT ach aaU aa6 uk ack),abo⟩)
  (adr:PySem.W.codeIn K uk "fill"=true)
  (wD:PySem.W.keepIn K (.ref cC)=true)
  (aeA:PySem.W.nsIn K mainGlobals "keep"=some (some (.ref cz)))
  (ac7:K.lookup cz=some ⟨aa9,abf,.func (PySem.W.fnOf "keep" "keep" (ZO SY) (ZL SY) (Zh SY) .none abh ace aaX acw uu abZ),aby⟩)
  (adA:PySem.W.codeIn K uu "keep"=true)
  (xx:PySem.W.keepIn K (.ref cz)=true)
  (o6:PySem.W.nsIn K mainGlobals "touches_one"=some (some (.ref bd)))
  (oC:K.lookup bd=some ⟨mz,mK,.func (PySem.W.fnOf "touches_one" "touches_one" (ZO PF) (ZL PF) (Zh PF) .none lD lW lZ mC d4 lF),lv⟩)
  (oM:PySem.W.codeIn K d4 "touches_one"=true)
  (e9:PySem.W.keepIn K (.ref bd)=true)
  (aev:PySem.W.nsIn K mainGlobals "marks"=some (some (.ref bJ)))
  (abL:K.lookup bJ=some ⟨zG,zC,.func (PySem.W.fnOf "marks" "marks" (ZO Tj) (ZL Tj) (Zh Tj) .none z5 zc zx zD p0 zU),yV⟩)
  (acl:PySem.W.codeIn K p0 "marks"=true)
  (uv:PySem.W.keepIn K (.ref bJ)=true)
  (yR:PySem.W.nsIn K mainGlobals "answers"=some (some (.ref gB)))
  (xD:K.lookup gB=some ⟨v1,uU,.func (PySem.W.fnOf "answers" "answers" (ZO WQ) (ZL WQ) (Zh WQ) .none ko jZ jl jB eI kS),uO⟩)
  (xM:PySem.W.codeIn K eI "answers"=true)
  (yc:PySem.W.keepIn K (.ref gB)=true)
  (eF:PySem.W.nsIn K mainGlobals "len"=some none)
  (aaI:PySem.W.nsIn K mainGlobals "all"=some none)
  (aaH:PySem.W.nsIn K mainGlobals "min"=some none)
  (k7:PySem.W.nsIn K mainGlobals "LINE_END"=some (some (.int 10 wb)))
  (acz:PySem.W.nsIn K mainGlobals "BLANK"=some (some (.int 32 acu)))
  (ab9:PySem.W.nsIn K mainGlobals "MINUS"=some (some (.int 45 abQ)))
  (adl:PySem.W.nsIn K mainGlobals "ZERO"=some (some (.int 48 adz)))
  (adC:PySem.W.nsIn K mainGlobals "NINE"=some (some (.int 57 acU)))
  (adi:PySem.W.nsIn K mainGlobals "SIGN"=some (some (.ref aSIGN)))
  (acW:PySem.W.nsIn K mainGlobals "RULE"=some (some (.ref aRULE)))
  (zL:K.lookup aSIGN=some ⟨.type "list",none,.seq #[.int 115 aao] aaZ,zk⟩)
  (z6:K.lookup aRULE=some ⟨.type "list",none,.seq #[.int 114 zB] ab7,aaw⟩)
  (vK:PySem.W.nsIn K mainGlobals "FARTHEST"=some (some (.int 1000000000 wc)))
  (oY:PySem.W.nsIn K mainGlobals "MOST_DIGITS"=some (some (.int 10 oE)))
  (qQ:PySem.W.nsIn K mainGlobals "MOST_MARKS"=some (some (.int 1000 qV)))
  (lM:PySem.W.nsIn K mainGlobals "LONGEST_NAME"=some (some (.int 12 mB)))
  (eC:PySem.W.nsIn K mainGlobals "GREATEST_SIGN_SIZE"=some (some (.int 2 eK)))
  (rS:PySem.W.findIn K (.ref cBox) "left"=some none)
  (uH:PySem.W.findIn K (.ref cBox) "low"=some none)
  (pI:PySem.W.findIn K (.ref cBox) "right"=some none)
  (sH:PySem.W.findIn K (.ref cBox) "high"=some none)
  (acm:PySem.W.findIn K (.ref cBox) "__eq__"=some (some (.builtin "object.__eq__")))
  (aaq:PySem.W.mroIn K cBox (.type "object")=some true)
  (aae:PySem.W.subIn K (.type "NoneType") (.ref cBox)=some false)
  (gZ:PySem.W.findIn K (.ref cSrc) "numbers"=some none)
  (jQ:PySem.W.findIn K (.ref cSrc) "place"=some none)
  (uN:PySem.W.nsIn K mainGlobals "reversed"=some none)
  (lw:PySem.W.nsIn K mainGlobals "PAINTED_BYTE"=some (some (.int 35 lH)))
  (rg:PySem.W.nsIn K mainGlobals "CLEAR_BYTE"=some (some (.int 46 ra)))
  (acN:PySem.W.nsIn K mainGlobals "range"=some none)
  (dj:PySem.W.nsIn K mainGlobals "enumerate"=some none)
  (adV:PySem.W.nsIn K mainGlobals "max"=some none)
  (adk:PySem.W.nsIn K mainGlobals "list"=some none)
  (qg:PySem.W.findIn K (.ref cGrid) "left"=some none)
  (sT:PySem.W.findIn K (.ref cGrid) "low"=some none)
  (oA:PySem.W.findIn K (.ref cGrid) "width"=some none)
  (lB:PySem.W.findIn K (.ref cGrid) "height"=some none)
  (rb:PySem.W.findIn K (.ref cGrid) "size"=some none)
  (rm:PySem.W.findIn K (.ref cGrid) "rows"=some none)
  (u4:PySem.W.nsIn K mainGlobals "sum"=some none)
  (gQ:PySem.W.nsIn K mainGlobals "CLEAR"=some (some (.int 0 abG)))
  (cW:PySem.W.nsIn K mainGlobals "TO_NEIGHBOURS"=some (some (.ref aNB)))
  (gJ:PySem.W.nsIn K mainGlobals "TO_MEETING"=some (some (.ref aMT)))
  (xN:K.lookup aNB=some ⟨.type "tuple",none,.seq #[.ref ju,.ref jH,.ref kn,.ref j8] ad2,adt⟩)
  (mR:K.lookup ju=some ⟨.type "tuple",none,.seq #[.int (-1) ya,.int (0) wN] y3,xy⟩)
  (mT:K.lookup jH=some ⟨.type "tuple",none,.seq #[.int (1) xo,.int (0) yd] zM,ye⟩)
  (m9:K.lookup kn=some ⟨.type "tuple",none,.seq #[.int (0) yP,.int (-1) xE] zW,yC⟩)
  (mQ:K.lookup j8=some ⟨.type "tuple",none,.seq #[.int (0) xV,.int (1) yx] aag,yH⟩)
  (yG:K.lookup aMT=some ⟨.type "tuple",none,.seq #[.ref jv,.ref kE,.ref kP,.ref j9,.ref kf,.ref ji,.ref kb,.ref kW] adU,ac3⟩)
  (m6:K.lookup jv=some ⟨.type "tuple",none,.seq #[.int (-1) xO,.int (-1) xg] aan,xb⟩)
  (nu:K.lookup kE=some ⟨.type "tuple",none,.seq #[.int (-1) yD,.int (0) yS] zq,yN⟩)
  (m8:K.lookup kP=some ⟨.type "tuple",none,.seq #[.int (-1) x3,.int (1) xX] aar,yO⟩)
  (nj:K.lookup j9=some ⟨.type "tuple",none,.seq #[.int (0) yg,.int (-1) x4] zw,yE⟩)
  (mX:K.lookup kf=some ⟨.type "tuple",none,.seq #[.int (0) yi,.int (1) xl] aat,yK⟩)
  (mS:K.lookup ji=some ⟨.type "tuple",none,.seq #[.int (1) yJ,.int (-1) wI] zS,wU⟩)
  (nr:K.lookup kb=some ⟨.type "tuple",none,.seq #[.int (1) wy,.int (0) xm] aad,x8⟩)
  (mW:K.lookup kW=some ⟨.type "tuple",none,.seq #[.int (1) xA,.int (1) yA] zf,wH⟩)
  (adM:PySem.W.nsIn K mainGlobals "abs"=some none)
  (gM:PySem.W.nsIn K mainGlobals "PAINTED"=some (some (.int 1 xZ)))
  (lu:PySem.W.nsIn K mainGlobals "OUT_OF_RANGE"=some (some (.int (-1) lO)))
  (oF:PySem.W.nsIn K mainGlobals "NOT_ON_GRID"=some (some (.int (-2) ny)))
  (vw:PySem.W.nsIn K mainGlobals "NO_PIECE"=some (some (.int (-3) wl)))
  (ad4:PySem.W.nsIn K mainGlobals "set"=some none)
  (lz:PySem.W.nsIn K mainGlobals "NO_SUCH_TEXT"=some (some (.int (-5) mD)))
  (lp:PySem.W.nsIn K mainGlobals "LONGEST_SIDE"=some (some (.int 40 lg)))
  (eN:PySem.W.nsIn K mainGlobals "GREATEST_CELL_SIZE"=some (some (.int 100000 d9)))
  (g9:PySem.W.nsIn K mainGlobals "FARTHEST_ORIGIN"=some (some (.int 1000000000 ia)))
  (fK:PySem.W.nsIn K mainGlobals "GREATEST_DISTANCE"=some (some (.int 100 fI)))
  (adW:PySem.W.nsIn K mainGlobals "zip"=some none)
  (ad3:PySem.W.nsIn K mainGlobals "any"=some none)
  (acQ:PySem.W.nsIn K mainGlobals "dict"=some none)
  (acp:PySem.W.nsIn K mainGlobals "CALLS"=some (some (.ref aCALLS)))
  (aaa:K.lookup aCALLS=some ⟨.type "dict",none,.dict #[⟨0,.int 0 aep,.ref bG⟩,⟨1,.int 1 aek,.ref bN⟩,⟨2,.int 2 aej,.ref bK⟩,⟨3,.int 3 aee,.ref aQ⟩,⟨4,.int 4 aeb,.ref be⟩,⟨5,.int 5 aef,.ref cy⟩,⟨6,.int 6 aeh,.ref bg⟩,⟨7,.int 7 ael,.ref cA⟩,⟨8,.int 8 aeq,.ref cK⟩,⟨9,.int 9 aem,.ref je⟩,⟨10,.int 10 adN,.ref cI⟩,⟨11,.int 11 adR,.ref cD⟩,⟨12,.int 12 adZ,.ref bh⟩,⟨13,.int 13 adL,.ref bL⟩,⟨14,.int 14 adO,.ref cz⟩,⟨15,.int 15 adQ,.ref bQ⟩,⟨16,.int 16 adP,.ref cC⟩,⟨17,.int 17 ad0,.ref cJ⟩,⟨18,.int 18 ad1,.ref bP⟩,⟨19,.int 19 adJ,.ref bJ⟩] zl,#[]⟩):
  ∃fd:FuncData,(∀(s:Shared)(us:List Value),us.length=["calls"].length->BindsTo s fd ⟨us,[]⟩ ((["calls"]:List Str).zip us))/\∀base:Heap,K.In base->base.Ns mainGlobals mg->FnOk P w K mg base CX0 9 fa fd ["calls"] (spAns K):=by
 have e:=hfa.symm.trans (Zg X G yR)
 cases e
 have ag:Cls K cGrid:=⟨acv,abU,aa3,acj⟩
 have ah:Cls K cSrc:=⟨yM,wG,xS,yu⟩
 have adF:Cls K cBox:=⟨ado,adm,ac2,adh⟩
 have bY:TxtP K mg aSIGN aRULE cBox:=⟨ZK X G eF,ZK X G aaI,ZK X G aaH,⟨_,Zg X G k7,⟨_,rfl⟩⟩,⟨_,Zg X G acz,⟨_,rfl⟩⟩,⟨_,Zg X G ab9,⟨_,rfl⟩⟩,⟨_,Zg X G adl,⟨_,rfl⟩⟩,⟨_,Zg X G adC,⟨_,rfl⟩⟩,⟨_,Zg X G adi,rfl⟩,⟨_,Zg X G acW,rfl⟩,fun H=>.inr ⟨_,_,_,zL,rfl,rfl,rfl,by show 1<=sizeLine;decide,.cons ⟨_,rfl⟩ .nil⟩,fun H=>.inr ⟨_,_,_,z6,rfl,rfl,rfl,by show 1<=sizeLine;decide,.cons ⟨_,rfl⟩ .nil⟩,⟨_,Zg X G vK,⟨_,rfl⟩⟩,⟨_,Zg X G oY,⟨_,rfl⟩⟩,⟨_,Zg X G qQ,⟨_,rfl⟩⟩,⟨_,Zg X G lM,⟨_,rfl⟩⟩,⟨_,Zg X G eC,⟨_,rfl⟩⟩⟩
 have rc:TxtB K cBox:=⟨adF,rS,uH,pI,sH,⟨acm,aaq,aae⟩⟩
 have kz:TxtS K mg cSrc:=⟨ZK X G eF,ah,gZ,jQ⟩
 have qx:TxtG mg:=⟨ZK X G eF,ZK X G aaI,ZK X G uN,⟨_,Zg X G k7,⟨_,rfl⟩⟩,⟨_,Zg X G lw,⟨_,rfl⟩⟩,⟨_,Zg X G rg,⟨_,rfl⟩⟩⟩
 have ai:TxtC K mg cGrid:=⟨ZK X G eF,ZK X G acN,ZK X G dj,ZK X G adV,ZK X G aaH,ZK X G adk,ag,qg,sT,oA,lB,rb,rm,ZK X G u4,⟨_,Zg X G gQ,⟨_,rfl⟩⟩⟩
 have adB:TxtT K mg aNB aMT:=⟨⟨_,Zg X G cW,rfl⟩,⟨_,Zg X G gJ,rfl⟩,⟨[ju,jH,kn,j8],fun H=>.inr ⟨_,_,_,xN,rfl,rfl,(by show 4<=sizeLine;decide),.cons rfl (.cons rfl (.cons rfl (.cons rfl (.nil))))⟩,.cons (fun H=>.inr ⟨_,_,_,mR,rfl,rfl,(by show 2<=sizeLine;decide),.cons ⟨_,rfl⟩ (.cons ⟨_,rfl⟩ .nil)⟩) (.cons (fun H=>.inr ⟨_,_,_,mT,rfl,rfl,(by show 2<=sizeLine;decide),.cons ⟨_,rfl⟩ (.cons ⟨_,rfl⟩ .nil)⟩) (.cons (fun H=>.inr ⟨_,_,_,m9,rfl,rfl,(by show 2<=sizeLine;decide),.cons ⟨_,rfl⟩ (.cons ⟨_,rfl⟩ .nil)⟩) (.cons (fun H=>.inr ⟨_,_,_,mQ,rfl,rfl,(by show 2<=sizeLine;decide),.cons ⟨_,rfl⟩ (.cons ⟨_,rfl⟩ .nil)⟩) (.nil))))⟩,⟨[jv,kE,kP,j9,kf,ji,kb,kW],fun H=>.inr ⟨_,_,_,yG,rfl,rfl,(by show 8<=sizeLine;decide),.cons rfl (.cons rfl (.cons rfl (.cons rfl (.cons rfl (.cons rfl (.cons rfl (.cons rfl (.nil))))))))⟩,.cons (fun H=>.inr ⟨_,_,_,m6,rfl,rfl,(by show 2<=sizeLine;decide),.cons ⟨_,rfl⟩ (.cons ⟨_,rfl⟩ .nil)⟩) (.cons (fun H=>.inr ⟨_,_,_,nu,rfl,rfl,(by show 2<=sizeLine;decide),.cons ⟨_,rfl⟩ (.cons ⟨_,rfl⟩ .nil)⟩) (.cons (fun H=>.inr ⟨_,_,_,m8,rfl,rfl,(by show 2<=sizeLine;decide),.cons ⟨_,rfl⟩ (.cons ⟨_,rfl⟩ .nil)⟩) (.cons (fun H=>.inr ⟨_,_,_,nj,rfl,rfl,(by show 2<=sizeLine;decide),.cons ⟨_,rfl⟩ (.cons ⟨_,rfl⟩ .nil)⟩) (.cons (fun H=>.inr ⟨_,_,_,mX,rfl,rfl,(by show 2<=sizeLine;decide),.cons ⟨_,rfl⟩ (.cons ⟨_,rfl⟩ .nil)⟩) (.cons (fun H=>.inr ⟨_,_,_,mS,rfl,rfl,(by show 2<=sizeLine;decide),.cons ⟨_,rfl⟩ (.cons ⟨_,rfl⟩ .nil)⟩) (.cons (fun H=>.inr ⟨_,_,_,nr,rfl,rfl,(by show 2<=sizeLine;decide),.cons ⟨_,rfl⟩ (.cons ⟨_,rfl⟩ .nil)⟩) (.cons (fun H=>.inr ⟨_,_,_,mW,rfl,rfl,(by show 2<=sizeLine;decide),.cons ⟨_,rfl⟩ (.cons ⟨_,rfl⟩ .nil)⟩) (.nil))))))))⟩⟩
 have aj:TxtM mg:=⟨ZK X G adM,ZK X G u4,⟨_,Zg X G gQ,⟨_,rfl⟩⟩,⟨_,Zg X G gM,⟨_,rfl⟩⟩,⟨_,Zg X G lu,⟨_,rfl⟩⟩,⟨_,Zg X G oF,⟨_,rfl⟩⟩,⟨_,Zg X G vw,⟨_,rfl⟩⟩,ZK X G eF,ZK X G dj,ZK X G ad4,⟨_,Zg X G lz,⟨_,rfl⟩⟩,⟨_,Zg X G lp,⟨_,rfl⟩⟩,⟨_,Zg X G eN,⟨_,rfl⟩⟩,⟨_,Zg X G g9,⟨_,rfl⟩⟩,⟨_,Zg X G fK,⟨_,rfl⟩⟩⟩
 have dJ:TxtQ mg:=⟨ZK X G u4,ZK X G adW,ZK X G dj,⟨_,Zg X G gQ,⟨_,rfl⟩⟩,⟨_,Zg X G gM,⟨_,rfl⟩⟩⟩
 have fV:TxtW K mg aNB aMT:=⟨ZK X G eF,ZK X G ad3,ZK X G acQ,⟨_,Zg X G gQ,⟨_,rfl⟩⟩,⟨_,Zg X G gM,⟨_,rfl⟩⟩,⟨_,Zg X G cW,rfl⟩,⟨_,Zg X G gJ,rfl⟩,⟨[ju,jH,kn,j8],fun H=>.inr ⟨_,_,_,xN,rfl,rfl,(by show 4<=sizeLine;decide),.cons rfl (.cons rfl (.cons rfl (.cons rfl (.nil))))⟩,.cons (fun H=>.inr ⟨_,_,_,mR,rfl,rfl,(by show 2<=sizeLine;decide),.cons ⟨_,rfl⟩ (.cons ⟨_,rfl⟩ .nil)⟩) (.cons (fun H=>.inr ⟨_,_,_,mT,rfl,rfl,(by show 2<=sizeLine;decide),.cons ⟨_,rfl⟩ (.cons ⟨_,rfl⟩ .nil)⟩) (.cons (fun H=>.inr ⟨_,_,_,m9,rfl,rfl,(by show 2<=sizeLine;decide),.cons ⟨_,rfl⟩ (.cons ⟨_,rfl⟩ .nil)⟩) (.cons (fun H=>.inr ⟨_,_,_,mQ,rfl,rfl,(by show 2<=sizeLine;decide),.cons ⟨_,rfl⟩ (.cons ⟨_,rfl⟩ .nil)⟩) (.nil))))⟩,⟨[jv,kE,kP,j9,kf,ji,kb,kW],fun H=>.inr ⟨_,_,_,yG,rfl,rfl,(by show 8<=sizeLine;decide),.cons rfl (.cons rfl (.cons rfl (.cons rfl (.cons rfl (.cons rfl (.cons rfl (.cons rfl (.nil))))))))⟩,.cons (fun H=>.inr ⟨_,_,_,m6,rfl,rfl,(by show 2<=sizeLine;decide),.cons ⟨_,rfl⟩ (.cons ⟨_,rfl⟩ .nil)⟩) (.cons (fun H=>.inr ⟨_,_,_,nu,rfl,rfl,(by show 2<=sizeLine;decide),.cons ⟨_,rfl⟩ (.cons ⟨_,rfl⟩ .nil)⟩) (.cons (fun H=>.inr ⟨_,_,_,m8,rfl,rfl,(by show 2<=sizeLine;decide),.cons ⟨_,rfl⟩ (.cons ⟨_,rfl⟩ .nil)⟩) (.cons (fun H=>.inr ⟨_,_,_,nj,rfl,rfl,(by show 2<=sizeLine;decide),.cons ⟨_,rfl⟩ (.cons ⟨_,rfl⟩ .nil)⟩) (.cons (fun H=>.inr ⟨_,_,_,mX,rfl,rfl,(by show 2<=sizeLine;decide),.cons ⟨_,rfl⟩ (.cons ⟨_,rfl⟩ .nil)⟩) (.cons (fun H=>.inr ⟨_,_,_,mS,rfl,rfl,(by show 2<=sizeLine;decide),.cons ⟨_,rfl⟩ (.cons ⟨_,rfl⟩ .nil)⟩) (.cons (fun H=>.inr ⟨_,_,_,nr,rfl,rfl,(by show 2<=sizeLine;decide),.cons ⟨_,rfl⟩ (.cons ⟨_,rfl⟩ .nil)⟩) (.cons (fun H=>.inr ⟨_,_,_,mW,rfl,rfl,(by show 2<=sizeLine;decide),.cons ⟨_,rfl⟩ (.cons ⟨_,rfl⟩ .nil)⟩) (.nil))))))))⟩⟩
 have vL:=Z1 (st:=SK) uY vV bm
 have cn:=vL.binds (ps:=["text","separator"]) fun _ _ _ _ _ _ us hl=>by obtain⟨_,_,rfl⟩:=us2 us hl;rfl
 have gh:=Z1 (st:=SM) gc gK b7
 have gd:=gh.binds (ps:=["digits"]) fun _ _ _ _ _ _ us hl=>by obtain⟨_,rfl⟩:=us1 us hl;rfl
 have ud:=Z1 (st:=sNum) tH tP iz
 have rD:=ud.binds (ps:=["field"]) fun _ _ _ _ _ _ us hl=>by obtain⟨_,rfl⟩:=us1 us hl;rfl
 have qc:=Z1 (st:=PY) pP qA bw
 have cM:=qc.binds (ps:=["fields"]) fun _ _ _ _ _ _ us hl=>by obtain⟨_,rfl⟩:=us1 us hl;rfl
 have lR:=Z1 (st:=VP) mi lx du
 have mE:=lR.binds (ps:=["field"]) fun _ _ _ _ _ _ us hl=>by obtain⟨_,rfl⟩:=us1 us hl;rfl
 have qe:=Z1 (st:=P8) qB qN qU
 have fP:=qe.binds (ps:=["self","left","low","right","high"]) fun _ _ _ _ _ _ us hl=>by obtain⟨_,_,_,_,_,rfl⟩:=us5 us hl;rfl
 have v9:=Z1 (st:=PR) vc vZ jm
 have wg:=v9.binds (ps:=["fields"]) fun _ _ _ _ _ _ us hl=>by obtain⟨_,rfl⟩:=us1 us hl;rfl
 have vg:=Z1 (st:=PN) vR vn k6
 have vT:=vg.binds (ps:=["fields"]) fun _ _ _ _ _ _ us hl=>by obtain⟨_,rfl⟩:=us1 us hl;rfl
 have ki:=Z1 (st:=SR) lc kZ da
 have kF:=ki.binds (ps:=["line"]) fun _ _ _ _ _ _ us hl=>by obtain⟨_,rfl⟩:=us1 us hl;rfl
 have v0:=Z1 (st:=P0) wk vt jJ
 have uQ:=v0.binds (ps:=["line"]) fun _ _ _ _ _ _ us hl=>by obtain⟨_,rfl⟩:=us1 us hl;rfl
 have vQ:=Z1 (st:=S3) vS vF eA
 have kR:=vQ.binds (ps:=["text"]) fun _ _ _ _ _ _ us hl=>by obtain⟨_,rfl⟩:=us1 us hl;rfl
 have j6:=Z1 (st:=PL) jn ku kU
 have j4:=j6.binds (ps:=["self","numbers"]) fun _ _ _ _ _ _ us hl=>by obtain⟨_,_,rfl⟩:=us2 us hl;rfl
 have gR:=Z1 (st:=PZ) gY gS cb
 have ig:=gR.binds (ps:=["self"]) fun _ _ _ _ _ _ us hl=>by obtain⟨_,rfl⟩:=us1 us hl;rfl
 have eH:=Z1 (st:=PD) eB el aa
 have ae:=eH.binds (ps:=["self"]) fun _ _ _ _ _ _ us hl=>by obtain⟨_,rfl⟩:=us1 us hl;rfl
 have gT:=Z1 (st:=sRow) gW ib ax
 have aI:=gT.binds (ps:=["self"]) fun _ _ _ _ _ _ us hl=>by obtain⟨_,rfl⟩:=us1 us hl;rfl
 have wW:=Z1 (st:=PB) xp wR mY
 have wZ:=wW.binds (ps:=["rows"]) fun _ _ _ _ _ _ us hl=>by obtain⟨_,rfl⟩:=us1 us hl;rfl
 have z7:=Z1 (st:=SL) zA zH qK
 have aaj:=z7.binds (ps:=["line","width"]) fun _ _ _ _ _ _ us hl=>by obtain⟨_,_,rfl⟩:=us2 us hl;rfl
 have yb:=Z1 (st:=Th) xT yn nt
 have w9:=yb.binds (ps:=["text","width","height"]) fun _ _ _ _ _ _ us hl=>by obtain⟨_,_,_,rfl⟩:=us3 us hl;rfl
 have lN:=Z1 (st:=P3) mw mn bI
 have d5:=lN.binds (ps:=["self","j"]) fun _ _ _ _ _ _ us hl=>by obtain⟨_,_,rfl⟩:=us2 us hl;rfl
 have km:=Z1 (st:=sHas) kN jY aA
 have aW:=km.binds (ps:=["self","i","j"]) fun _ _ _ _ _ _ us hl=>by obtain⟨_,_,_,rfl⟩:=us3 us hl;rfl
 have fJ:=Z1 (st:=Oa) ft fi bE
 have fE:=fJ.binds (ps:=["self","i","j"]) fun _ _ _ _ _ _ us hl=>by obtain⟨_,_,_,rfl⟩:=us3 us hl;rfl
 have rT:=Z1 (st:=Pz) tM tY bX
 have dh:=rT.binds (ps:=["self","i","j","way"]) fun _ _ _ _ _ _ us hl=>by obtain⟨_,_,_,_,rfl⟩:=us4 us hl;rfl
 have qG:=Z1 (st:=PV) qP rf gi
 have rh:=qG.binds (ps:=["start","end","origin","size","many"]) fun _ _ _ _ _ _ us hl=>by obtain⟨_,_,_,_,_,rfl⟩:=us5 us hl;rfl
 have u7:=Z1 (st:=P1) vJ vh jK
 have uT:=u7.binds (ps:=["row"]) fun _ _ _ _ _ _ us hl=>by obtain⟨_,rfl⟩:=us1 us hl;rfl
 have o9:=Z1 (st:=Ti) nY n9 e8
 have oI:=o9.binds (ps:=["self"]) fun _ _ _ _ _ _ us hl=>by obtain⟨_,rfl⟩:=us1 us hl;rfl
 have lU:=Z1 (st:=sLay) mN lT bM
 have d3:=lU.binds (ps:=["self","left","low","width","height","size"]) fun _ _ _ _ _ _ us hl=>by obtain⟨_,_,_,_,_,_,rfl⟩:=us6 us hl;rfl
 have oW:=Z1 (st:=sGI) pE nZ o7
 have oK:=oW.binds (ps:=["self"]) fun _ _ _ _ _ _ us hl=>by obtain⟨_,rfl⟩:=us1 us hl;rfl
 have jT:=Z1 (st:=PH) j0 jD aZ
 have bp:=jT.binds (ps:=["self","cells","way"]) fun _ _ _ _ _ _ us hl=>by obtain⟨_,_,_,rfl⟩:=us3 us hl;rfl
 have ml:=Z1 (st:=SI) md lr bO
 have dB:=ml.binds (ps:=["self","box"]) fun _ _ _ _ _ _ us hl=>by obtain⟨_,_,rfl⟩:=us2 us hl;rfl
 have dF:=Z1 (st:=sCta) dW dU aq
 have aK:=dF.binds (ps:=["self","way"]) fun _ _ _ _ _ _ us hl=>by obtain⟨_,_,rfl⟩:=us2 us hl;rfl
 have xQ:=Z1 (st:=PJ) xu yj fU
 have mU:=xQ.binds (ps:=["i","j","steps"]) fun _ _ _ _ _ _ us hl=>by obtain⟨_,_,_,rfl⟩:=us3 us hl;rfl
 have ie:=Z1 (st:=sNb) hJ g0 ca
 have gU:=ie.binds (ps:=["self","i","j"]) fun _ _ _ _ _ _ us hl=>by obtain⟨_,_,_,rfl⟩:=us3 us hl;rfl
 have fZ:=Z1 (st:=PX) fN f9 bZ
 have f7:=fZ.binds (ps:=["self","cells","way"]) fun _ _ _ _ _ _ us hl=>by obtain⟨_,_,_,rfl⟩:=us3 us hl;rfl
 have oq:=Z1 (st:=Tf) n6 px fe
 have o4:=oq.binds (ps:=["self","way","n"]) fun _ _ _ _ _ _ us hl=>by obtain⟨_,_,_,rfl⟩:=us3 us hl;rfl
 have zF:=Z1 (st:=Uj) y8 zm rj
 have aab:=zF.binds (ps:=["grid","source"]) fun _ _ _ _ _ _ us hl=>by obtain⟨_,_,rfl⟩:=us2 us hl;rfl
 have aea:=Z1 (st:=sAt) aeg aeo adG
 have aec:=aea.binds (ps:=["grid","source"]) fun _ _ _ _ _ _ us hl=>by obtain⟨_,_,rfl⟩:=us2 us hl;rfl
 have u5:=Z1 (st:=PP) uI vE jy
 have vI:=u5.binds (ps:=["grid","source"]) fun _ _ _ _ _ _ us hl=>by obtain⟨_,_,rfl⟩:=us2 us hl;rfl
 have mq:=Z1 (st:=sSpC) mH mr bH
 have dA:=mq.binds (ps:=["grid","n","way"]) fun _ _ _ _ _ _ us hl=>by obtain⟨_,_,_,rfl⟩:=us3 us hl;rfl
 have adg:=Z1 (st:=P4) ads adf xU
 have acV:=adg.binds (ps:=["grid","source"]) fun _ _ _ _ _ _ us hl=>by obtain⟨_,_,rfl⟩:=us2 us hl;rfl
 have zt:=Z1 (st:=Tg) zz aaC pK
 have zd:=zt.binds (ps:=["grid","source"]) fun _ _ _ _ _ _ us hl=>by obtain⟨_,_,rfl⟩:=us2 us hl;rfl
 have ade:=Z1 (st:=SV) adw ac9 yw
 have acT:=ade.binds (ps:=["grid","source"]) fun _ _ _ _ _ _ us hl=>by obtain⟨_,_,rfl⟩:=us2 us hl;rfl
 have ac5:=Z1 (st:=SX) acZ ac6 xC
 have ac4:=ac5.binds (ps:=["grid","source"]) fun _ _ _ _ _ _ us hl=>by obtain⟨_,_,rfl⟩:=us2 us hl;rfl
 have ab8:=Z1 (st:=S4) aaK abr uw
 have ab2:=ab8.binds (ps:=["grid","source"]) fun _ _ _ _ _ _ us hl=>by obtain⟨_,_,rfl⟩:=us2 us hl;rfl
 have pF:=Z1 (st:=SQ) oT om b9
 have eZ:=pF.binds (ps:=["grid","picture","way"]) fun _ _ _ _ _ _ us hl=>by obtain⟨_,_,_,rfl⟩:=us3 us hl;rfl
 have aaN:=Z1 (st:=SO) aaV abx ui
 have abI:=aaN.binds (ps:=["grid","source"]) fun _ _ _ _ _ _ us hl=>by obtain⟨_,_,rfl⟩:=us2 us hl;rfl
 have abC:=Z1 (st:=SS) aaM abY uy
 have acG:=abC.binds (ps:=["grid","source"]) fun _ _ _ _ _ _ us hl=>by obtain⟨_,_,rfl⟩:=us2 us hl;rfl
 have qv:=Z1 (st:=sPIn) qZ qz aP
 have a5:=qv.binds (ps:=["rows"]) fun _ _ _ _ _ _ us hl=>by obtain⟨_,rfl⟩:=us1 us hl;rfl
 have ady:=Z1 (st:=P9) acO adj jh
 have pM:=ady.binds (ps:=["one","other"]) fun _ _ _ _ _ _ us hl=>by obtain⟨_,_,rfl⟩:=us2 us hl;rfl
 have xL:=Z1 (st:=sStk) xI xY fY
 have nq:=xL.binds (ps:=["rows"]) fun _ _ _ _ _ _ us hl=>by obtain⟨_,rfl⟩:=us1 us hl;rfl
 have u6:=Z1 (st:=PU) we vy eM
 have kx:=u6.binds (ps:=["rows"]) fun _ _ _ _ _ _ us hl=>by obtain⟨_,rfl⟩:=us1 us hl;rfl
 have qE:=Z1 (st:=PM) qO q0 gD
 have pL:=qE.binds (ps:=["rows"]) fun _ _ _ _ _ _ us hl=>by obtain⟨_,rfl⟩:=us1 us hl;rfl
 have wQ:=Z1 (st:=P5) xP wV mZ
 have yl:=wQ.binds (ps:=["rows"]) fun _ _ _ _ _ _ us hl=>by obtain⟨_,rfl⟩:=us1 us hl;rfl
 have xG:=Z1 (st:=PQ) xJ xz mV
 have wC:=xG.binds (ps:=["row"]) fun _ _ _ _ _ _ us hl=>by obtain⟨_,rfl⟩:=us1 us hl;rfl
 have acX:=Z1 (st:=Ob) adn adD xf
 have acR:=acX.binds (ps:=["grid","source"]) fun _ _ _ _ _ _ us hl=>by obtain⟨_,_,rfl⟩:=us2 us hl;rfl
 have adx:=Z1 (st:=S0) adE ada yF
 have ac1:=adx.binds (ps:=["grid","source"]) fun _ _ _ _ _ _ us hl=>by obtain⟨_,_,rfl⟩:=us2 us hl;rfl
 have abk:=Z1 (st:=SU) ab4 acI ur
 have abm:=abk.binds (ps:=["grid","source"]) fun _ _ _ _ _ _ us hl=>by obtain⟨_,_,rfl⟩:=us2 us hl;rfl
 have adH:=Z1 (st:=SW) ac0 acY xi
 have acS:=adH.binds (ps:=["grid","source"]) fun _ _ _ _ _ _ us hl=>by obtain⟨_,_,rfl⟩:=us2 us hl;rfl
 have qF:=Z1 (st:=SJ) pN qL gx
 have qM:=qF.binds (ps:=["first","left_over","steps"]) fun _ _ _ _ _ _ us hl=>by obtain⟨_,_,_,rfl⟩:=us3 us hl;rfl
 have wj:=Z1 (st:=SN) uM uG eU
 have ke:=wj.binds (ps:=["cells","steps"]) fun _ _ _ _ _ _ us hl=>by obtain⟨_,_,rfl⟩:=us2 us hl;rfl
 have sB:=Z1 (st:=sPcs) sD tF a9
 have bU:=sB.binds (ps:=["grid"]) fun _ _ _ _ _ _ us hl=>by obtain⟨_,rfl⟩:=us1 us hl;rfl
 have sn:=Z1 (st:=P2) sW tD iu
 have rQ:=sn.binds (ps:=["grid","part"]) fun _ _ _ _ _ _ us hl=>by obtain⟨_,_,rfl⟩:=us2 us hl;rfl
 have vO:=Z1 (st:=sHls) vB vA eR
 have jE:=vO.binds (ps:=["grid"]) fun _ _ _ _ _ _ us hl=>by obtain⟨_,rfl⟩:=us1 us hl;rfl
 have aak:=Z1 (st:=P6) zQ zi pX
 have aaE:=aak.binds (ps:=["grid","source"]) fun _ _ _ _ _ _ us hl=>by obtain⟨_,_,rfl⟩:=us2 us hl;rfl
 have aa1:=Z1 (st:=sCPc) aa4 abD uq
 have abP:=aa1.binds (ps:=["grid","source"]) fun _ _ _ _ _ _ us hl=>by obtain⟨_,_,rfl⟩:=us2 us hl;rfl
 have aci:=Z1 (st:=P7) aa5 ab5 ut
 have aaT:=aci.binds (ps:=["grid","source"]) fun _ _ _ _ _ _ us hl=>by obtain⟨_,_,rfl⟩:=us2 us hl;rfl
 have ac8:=Z1 (st:=SZ) acP adr wD
 have adp:=ac8.binds (ps:=["grid","source"]) fun _ _ _ _ _ _ us hl=>by obtain⟨_,_,rfl⟩:=us2 us hl;rfl
 have adb:=Z1 (st:=SY) ac7 adA xx
 have adu:=adb.binds (ps:=["grid","source"]) fun _ _ _ _ _ _ us hl=>by obtain⟨_,_,rfl⟩:=us2 us hl;rfl
 have nN:=Z1 (st:=PF) oC oM e9
 have nA:=nN.binds (ps:=["grid","box","cells"]) fun _ _ _ _ _ _ us hl=>by obtain⟨_,_,_,rfl⟩:=us3 us hl;rfl
 have aca:=Z1 (st:=Tj) abL acl uv
 have abF:=aca.binds (ps:=["grid","source"]) fun _ _ _ _ _ _ us hl=>by obtain⟨_,_,rfl⟩:=us2 us hl;rfl
 have x9:=Z1 (st:=WQ) xD xM yc
 have ad9:=x9.binds (ps:=["calls"]) fun _ _ _ _ _ _ us hl=>by obtain⟨_,rfl⟩:=us1 us hl;rfl
 refine⟨PySem.W.fnOf "answers" "answers" (ZO WQ) (ZL WQ) (Zh WQ) .none ko jZ jl jB eI kS,fun s us hl=>?_,fun base _ _=>?_⟩
 rotate_left
 ·have ab:FnOk P w K mg base CX0 1 am _ ["self"] (WO K cSrc):=ok_take eH kz
  have c9:FnOk P w K mg base CX0 1 aM _ ["self","left","low","width","height","size"] (Lx cGrid):=ok_lay lU ai
  have yZ:FnOk P w K mg base CX0 8 bG _ ["grid","source"] (Yi K cGrid cSrc 0):=ok_begin ab8 ai aj ⟨ah,_,_,⟨af,ac,aa⟩,ae,ab⟩ ⟨ag,_,_,⟨dX,dI,bM⟩,d3,c9⟩
  have aC:FnOk P w K mg base CX0 2 ay _ ["self"] (Qk K cSrc):=ok_row gT kz ⟨ah,_,_,⟨af,ac,aa⟩,ae,ab⟩
  have bV:FnOk P w K mg base CX0 1 cc _ ["text","separator"] (Te K):=ok_split vL
  have fz:FnOk P w K mg base CX0 1 aE _ ["digits"] (OV K):=ok_plain gh bY
  have qy:FnOk P w K mg base CX0 2 bS _ ["field"] (spNum K):=ok_num ud bY ⟨_,_,Zg X G f8,b7,gd,fz⟩
  have b8:FnOk P w K mg base CX0 3 bj _ ["fields"] (Qm K):=ok_nums qc ⟨_,_,Zg X G sQ,iz,rD,qy⟩
  have iY:FnOk P w K mg base CX0 4 aY _ ["line"] (OX K):=ok_first ki bY ⟨_,_,Zg X G ck,bm,cn,bV⟩ ⟨_,_,Zg X G cE,bw,cM,b8⟩
  have jr:FnOk P w K mg base CX0 1 a8 _ ["field"] (TX K):=NV lR bY
  have ff:FnOk P w K mg base CX0 1 a4 _ ["self","left","low","right","high"] (OY cBox):=ok_boxI qe rc
  have rA:FnOk P w K mg base CX0 4 cg _ ["fields"] (MC K cBox):=ok_sign vg bY ⟨_,_,Zg X G lI,du,mE,jr⟩ ⟨_,_,Zg X G cE,bw,cM,b8⟩ ⟨_,_,Zg X G wK,⟨yf,gf,gb,xW⟩,fP,ff⟩
  have tf:FnOk P w K mg base CX0 4 cu _ ["fields"] (ME K cBox):=ok_rule v9 bY ⟨_,_,Zg X G cE,bw,cM,b8⟩ ⟨_,_,Zg X G wK,⟨yf,gf,gb,xW⟩,fP,ff⟩
  have sC:FnOk P w K mg base CX0 5 ci _ ["line"] (MI K cBox):=ok_mark v0 bY ⟨_,_,Zg X G ck,bm,cn,bV⟩ ⟨_,_,Zg X G v2,k6,vT,rA⟩ ⟨_,_,Zg X G wq,jm,wg,tf⟩
  have il:FnOk P w K mg base CX0 6 cv _ ["text"] (RU K cBox):=ok_boxes vQ bY rc ⟨_,_,Zg X G ck,bm,cn,bV⟩ ⟨_,_,Zg X G kK,da,kF,iY⟩ ⟨_,_,Zg X G uA,jJ,uQ,sC⟩
  have cx:FnOk P w K mg base CX0 1 bb _ ["self","i","j","way"] (Qg cGrid):=ok_turn rT ai
  have bf:FnOk P w K mg base CX0 2 aD _ ["self","cells","way"] (Qh cGrid):=ok_tAll jT ai ⟨ag,_,_,⟨dr,dc,bX⟩,dh,cx⟩
  have pw:FnOk P w K mg base CX0 1 bC _ ["start","end","origin","size","many"] MF:=ok_over qG ai
  have cU:FnOk P w K mg base CX0 2 aL _ ["self","box"] (RR cGrid cBox):=ok_touch ml ai rc ⟨_,_,Zg X G qp,gi,rh,pw⟩
  have dC:FnOk P w K mg base CX0 7 bc _ ["grid","picture","way"] (RT K cGrid cSrc):=ok_marks pF aj ⟨_,_,Zg X G kD,eA,kR,il⟩ ⟨ag,_,_,⟨bn,bv,aZ⟩,bp,bf⟩ ⟨ag,_,_,⟨dY,dR,bO⟩,dB,cU⟩
  have aaF:FnOk P w K mg base CX0 8 bN _ ["grid","source"] (Yi K cGrid cSrc 1):=ok_paint aaN aj ⟨ah,_,_,⟨aH,aG,ax⟩,aI,aC⟩ ⟨_,_,Zg X G eY,b9,eZ,dC⟩
  have aaz:FnOk P w K mg base CX0 8 bK _ ["grid","source"] (Yi K cGrid cSrc 2):=ok_erase abC aj ⟨ah,_,_,⟨aH,aG,ax⟩,aI,aC⟩ ⟨_,_,Zg X G eY,b9,eZ,dC⟩
  have c7:FnOk P w K mg base CX0 1 aN _ ["self","j"] (OW cGrid):=ok_hasR lN ai
  have aR:FnOk P w K mg base CX0 2 aB _ ["self","i","j"] (Pw cGrid):=ok_has km ai ⟨ag,_,_,⟨dE,dZ,bI⟩,d5,c7⟩
  have tQ:FnOk P w K mg base CX0 8 aQ _ ["grid","source"] (Yi K cGrid cSrc 3):=ok_setC u5 ai aj ⟨ah,_,_,⟨af,ac,aa⟩,ae,ab⟩ ⟨ag,_,_,⟨a0,aX,aA⟩,aW,aR⟩ ⟨ag,_,_,⟨dr,dc,bX⟩,dh,cx⟩
  have tu:FnOk P w K mg base CX0 1 cf _ ["row"] (MJ K):=ok_inv1 u7
  have lP:FnOk P w K mg base CX0 2 aU _ ["self"] (Qn cGrid):=Kr o9 ai ⟨_,_,Zg X G uF,jK,uT,tu⟩
  have wA:FnOk P w K mg base CX0 8 be _ ["grid","source"] (Yi K cGrid cSrc 4):=MT zF ⟨ag,_,_,⟨oB,oU,e8⟩,oI,lP⟩
  have aF:FnOk P w K mg base CX0 1 ak _ ["self","way"] (NE cGrid):=ok_cta dF ai
  have kG:FnOk P w K mg base CX0 1 cR _ ["i","j","steps"] (OS K):=ok_step xQ
  have gu:FnOk P w K mg base CX0 3 aw _ ["self","i","j"] (spNb cGrid):=ok_nb ie adB ⟨_,_,Zg X G nw,fU,mU,kG⟩ ⟨ag,_,_,⟨a0,aX,aA⟩,aW,aR⟩
  have fw:FnOk P w K mg base CX0 4 ap _ ["self","cells","way"] (MG cGrid):=ok_once fZ ai ⟨ag,_,_,⟨ic,hW,ca⟩,gU,gu⟩ ⟨ag,_,_,⟨dr,dc,bX⟩,dh,cx⟩
  have ly:FnOk P w K mg base CX0 5 aT _ ["self","way","n"] (Qi cGrid):=Kn oq ai ⟨ag,_,_,⟨aJ,aO,aq⟩,aK,aF⟩ ⟨ag,_,_,⟨gz,gE,bZ⟩,f7,fw⟩
  have cP:FnOk P w K mg base CX0 7 a7 _ ["grid","n","way"] (Lw K cGrid cSrc):=ok_spC mq aj ⟨ag,_,_,⟨oi,pi,fe⟩,o4,ly⟩
  have aaW:FnOk P w K mg base CX0 8 cy _ ["grid","source"] (Yi K cGrid cSrc 5):=ok_grow adg aj ⟨ah,_,_,⟨af,ac,aa⟩,ae,ab⟩ ⟨_,_,Zg X G dL,bH,dA,cP⟩
  have yL:FnOk P w K mg base CX0 8 bg _ ["grid","source"] (Yi K cGrid cSrc 6):=Ko zt aj ⟨ah,_,_,⟨af,ac,aa⟩,ae,ab⟩ ⟨_,_,Zg X G dL,bH,dA,cP⟩
  have vz:FnOk P w K mg base CX0 1 c5 _ ["rows"] (My K):=ok_text wW qx
  have abb:FnOk P w K mg base CX0 8 cA _ ["grid","source"] (Yi K cGrid cSrc 7):=ok_ctext ade ai ⟨_,_,Zg X G xq,mY,wZ,vz⟩
  have w8:FnOk P w K mg base CX0 1 d8 _ ["line","width"] (OT K):=ok_rowOf z7 qx
  have vq:FnOk P w K mg base CX0 2 cZ _ ["text","width","height"] (Qj K):=Kq yb qx ⟨_,_,Zg X G ck,bm,cn,bV⟩ ⟨_,_,Zg X G zy,qK,aaj,w8⟩
  have abK:FnOk P w K mg base CX0 8 cK _ ["grid","source"] (Yi K cGrid cSrc 8):=ok_cread ac5 ai aj ⟨ah,_,_,⟨aH,aG,ax⟩,aI,aC⟩ ⟨_,_,Zg X G xB,nt,w9,vq⟩
  have ad5:FnOk P w K mg base CX0 8 je _ ["grid","source"] (Yi K cGrid cSrc 9):=ok_at aea ai aj ⟨ah,_,_,⟨af,ac,aa⟩,ae,ab⟩ ⟨ag,_,_,⟨a0,aX,aA⟩,aW,aR⟩
  have aV:FnOk P w K mg base CX0 1 bo _ ["rows"] Ql:=ok_pIn qv dJ
  have abR:FnOk P w K mg base CX0 8 cI _ ["grid","source"] (Yi K cGrid cSrc 10):=ok_area acX ai aj ⟨_,_,Zg X G a6,aP,a5,aV⟩
  have vf:FnOk P w K mg base CX0 1 cO _ ["row"] MD:=ok_runs xG dJ
  have acH:FnOk P w K mg base CX0 8 cD _ ["grid","source"] (Yi K cGrid cSrc 11):=ok_cruns adH ai aj ⟨ah,_,_,⟨af,ac,aa⟩,ae,ab⟩ ⟨ag,_,_,⟨dE,dZ,bI⟩,d5,c7⟩ ⟨_,_,Zg X G xj,mV,wC,vf⟩
  have oe:FnOk P w K mg base CX0 2 bq _ ["first","left_over","steps"] (OR K):=ok_taken qF fV ⟨_,_,Zg X G nw,fU,mU,kG⟩
  have ii:FnOk P w K mg base CX0 3 cw _ ["cells","steps"] (RS K):=ok_parts wj fV ⟨_,_,Zg X G qd,gx,qM,oe⟩
  have bu:FnOk P w K mg base CX0 4 bW _ ["grid"] (Pu cGrid):=ok_pcs sB fV ⟨ag,_,_,⟨aJ,aO,aq⟩,aK,aF⟩ ⟨_,_,Zg X G jI,eU,ke,ii⟩
  have xc:FnOk P w K mg base CX0 8 bh _ ["grid","source"] (Yi K cGrid cSrc 12):=ok_cpcs aak aj ⟨_,_,Zg X G bT,a9,bU,bu⟩
  have zT:FnOk P w K mg base CX0 8 bL _ ["grid","source"] (Yi K cGrid cSrc 13):=ok_cpc aa1 ai aj ⟨ah,_,_,⟨af,ac,aa⟩,ae,ab⟩ ⟨ag,_,_,⟨a0,aX,aA⟩,aW,aR⟩ ⟨_,_,Zg X G bT,a9,bU,bu⟩
  have abB:FnOk P w K mg base CX0 8 cz _ ["grid","source"] (Yi K cGrid cSrc 14):=ok_ckeep adb aj ⟨ah,_,_,⟨af,ac,aa⟩,ae,ab⟩ ⟨ag,_,_,⟨bn,bv,aZ⟩,bp,bf⟩ ⟨_,_,Zg X G bT,a9,bU,bu⟩
  have d7:FnOk P w K mg base CX0 1 ao _ ["self","i","j"] (MM cGrid):=ok_bord fJ ai
  have qD:FnOk P w K mg base CX0 2 bR _ ["grid","part"] (MK cGrid):=ok_insd sn fV ⟨ag,_,_,⟨fG,fH,bE⟩,fE,d7⟩
  have im:FnOk P w K mg base CX0 4 cj _ ["grid"] (Ly cGrid):=ok_hls vO fV ⟨ag,_,_,⟨aJ,aO,aq⟩,aK,aF⟩ ⟨_,_,Zg X G jI,eU,ke,ii⟩ ⟨_,_,Zg X G ub,iu,rQ,qD⟩
  have zu:FnOk P w K mg base CX0 8 bQ _ ["grid","source"] (Yi K cGrid cSrc 15):=ok_chls aci aj ⟨_,_,Zg X G kJ,eR,jE,im⟩
  have abd:FnOk P w K mg base CX0 8 cC _ ["grid","source"] (Yi K cGrid cSrc 16):=ok_cfill ac8 aj ⟨ag,_,_,⟨bn,bv,aZ⟩,bp,bf⟩ ⟨_,_,Zg X G kJ,eR,jE,im⟩
  have lK:FnOk P w K mg base CX0 1 ka _ ["one","other"] (Qo K):=ok_both ady dJ
  have jM:FnOk P w K mg base CX0 2 cX _ ["rows"] Lv:=ok_stk xL dJ ⟨_,_,Zg X G pS,jh,pM,lK⟩
  have io:FnOk P w K mg base CX0 3 cr _ ["rows"] OU:=ok_prIn u6 dJ ⟨_,_,Zg X G pS,jh,pM,lK⟩ ⟨_,_,Zg X G a6,aP,a5,aV⟩ ⟨_,_,Zg X G nv,fY,nq,jM⟩
  have vv:FnOk P w K mg base CX0 4 cY _ ["rows"] ML:=ok_edge wQ ⟨_,_,Zg X G a6,aP,a5,aV⟩ ⟨_,_,Zg X G kX,eM,kx,io⟩
  have acq:FnOk P w K mg base CX0 8 cJ _ ["grid","source"] (Yi K cGrid cSrc 17):=ok_cedge adx ai aj ⟨_,_,Zg X G yo,mZ,yl,vv⟩
  have nW:FnOk P w K mg base CX0 3 bz _ ["rows"] MB:=ok_sqIn qE dJ ⟨_,_,Zg X G pS,jh,pM,lK⟩ ⟨_,_,Zg X G a6,aP,a5,aV⟩ ⟨_,_,Zg X G nv,fY,nq,jM⟩
  have zJ:FnOk P w K mg base CX0 8 bP _ ["grid","source"] (Yi K cGrid cSrc 18):=ok_count abk ai aj ⟨_,_,Zg X G a6,aP,a5,aV⟩ ⟨_,_,Zg X G kX,eM,kx,io⟩ ⟨_,_,Zg X G qC,gD,pL,nW⟩
  have mL:FnOk P w K mg base CX0 3 bd _ ["grid","box","cells"] (Mz cGrid cBox):=ok_tOne nN aj ⟨ag,_,_,⟨dY,dR,bO⟩,dB,cU⟩
  have zK:FnOk P w K mg base CX0 8 bJ _ ["grid","source"] (Yi K cGrid cSrc 19):=Ks aca aj ⟨ah,_,_,⟨af,ac,aa⟩,ae,ab⟩ ⟨ah,_,_,⟨aH,aG,ax⟩,aI,aC⟩ ⟨_,_,Zg X G kD,eA,kR,il⟩ ⟨_,_,Zg X G bT,a9,bU,bu⟩ ⟨_,_,Zg X G o6,e9,nA,mL⟩
  have tabF:∀p n k,PyVamato.shape p=some (n,k)->∃f,([(0,bG),(1,bN),(2,bK),(3,aQ),(4,be),(5,cy),(6,bg),(7,cA),(8,cK),(9,je),(10,cI),(11,cD),(12,bh),(13,bL),(14,cz),(15,bQ),(16,cC),(17,cJ),(18,bP),(19,bJ)]:List (Int×Addr)).lookup p=some f/\TabFn P w K mg base cGrid cSrc p f:=by
   intro p n k h
   rcases NG h with rfl|rfl|rfl|rfl|rfl|rfl|rfl|rfl|rfl|rfl|rfl|rfl|rfl|rfl|rfl|rfl|rfl|rfl|rfl|rfl
   ·exact⟨_,rfl,uw,_,_,ab2,yZ⟩
   ·exact⟨_,rfl,ui,_,_,abI,aaF⟩
   ·exact⟨_,rfl,uy,_,_,acG,aaz⟩
   ·exact⟨_,rfl,jy,_,_,vI,tQ⟩
   ·exact⟨_,rfl,rj,_,_,aab,wA⟩
   ·exact⟨_,rfl,xU,_,_,acV,aaW⟩
   ·exact⟨_,rfl,pK,_,_,zd,yL⟩
   ·exact⟨_,rfl,yw,_,_,acT,abb⟩
   ·exact⟨_,rfl,xC,_,_,ac4,abK⟩
   ·exact⟨_,rfl,adG,_,_,aec,ad5⟩
   ·exact⟨_,rfl,xf,_,_,acR,abR⟩
   ·exact⟨_,rfl,xi,_,_,acS,acH⟩
   ·exact⟨_,rfl,pX,_,_,aaE,xc⟩
   ·exact⟨_,rfl,uq,_,_,abP,zT⟩
   ·exact⟨_,rfl,xx,_,_,adu,abB⟩
   ·exact⟨_,rfl,ut,_,_,aaT,zu⟩
   ·exact⟨_,rfl,wD,_,_,adp,abd⟩
   ·exact⟨_,rfl,yF,_,_,ac1,acq⟩
   ·exact⟨_,rfl,ur,_,_,abm,zJ⟩
   ·exact⟨_,rfl,uv,_,_,abF,zK⟩
  have adq:TxtA P w K mg base cGrid cSrc aCALLS:=⟨ZK X G eF,⟨_,Zg X G acp,rfl⟩,⟨[(0,bG),(1,bN),(2,bK),(3,aQ),(4,be),(5,cy),(6,bg),(7,cA),(8,cK),(9,je),(10,cI),(11,cD),(12,bh),(13,bL),(14,cz),(15,bQ),(16,cC),(17,cJ),(18,bP),(19,bJ)],⟨_,_,aaa,.cons ⟨(show(0:Int)=hashInt 0 by decide),⟨_,rfl⟩,rfl⟩ (.cons ⟨(show(1:Int)=hashInt 1 by decide),⟨_,rfl⟩,rfl⟩ (.cons ⟨(show(2:Int)=hashInt 2 by decide),⟨_,rfl⟩,rfl⟩ (.cons ⟨(show(3:Int)=hashInt 3 by decide),⟨_,rfl⟩,rfl⟩ (.cons ⟨(show(4:Int)=hashInt 4 by decide),⟨_,rfl⟩,rfl⟩ (.cons ⟨(show(5:Int)=hashInt 5 by decide),⟨_,rfl⟩,rfl⟩ (.cons ⟨(show(6:Int)=hashInt 6 by decide),⟨_,rfl⟩,rfl⟩ (.cons ⟨(show(7:Int)=hashInt 7 by decide),⟨_,rfl⟩,rfl⟩ (.cons ⟨(show(8:Int)=hashInt 8 by decide),⟨_,rfl⟩,rfl⟩ (.cons ⟨(show(9:Int)=hashInt 9 by decide),⟨_,rfl⟩,rfl⟩ (.cons ⟨(show(10:Int)=hashInt 10 by decide),⟨_,rfl⟩,rfl⟩ (.cons ⟨(show(11:Int)=hashInt 11 by decide),⟨_,rfl⟩,rfl⟩ (.cons ⟨(show(12:Int)=hashInt 12 by decide),⟨_,rfl⟩,rfl⟩ (.cons ⟨(show(13:Int)=hashInt 13 by decide),⟨_,rfl⟩,rfl⟩ (.cons ⟨(show(14:Int)=hashInt 14 by decide),⟨_,rfl⟩,rfl⟩ (.cons ⟨(show(15:Int)=hashInt 15 by decide),⟨_,rfl⟩,rfl⟩ (.cons ⟨(show(16:Int)=hashInt 16 by decide),⟨_,rfl⟩,rfl⟩ (.cons ⟨(show(17:Int)=hashInt 17 by decide),⟨_,rfl⟩,rfl⟩ (.cons ⟨(show(18:Int)=hashInt 18 by decide),⟨_,rfl⟩,rfl⟩ (.cons ⟨(show(19:Int)=hashInt 19 by decide),⟨_,rfl⟩,rfl⟩ (.nil)))))))))))))))))))),(show([0,1,2,3,4,5,6,7,8,9,10,11,12,13,14,15,16,17,18,19]:List Int).Nodup by decide)⟩,tabF⟩⟩
  have lS:FnOk P w K mg base CX0 2 aS _ ["self"] (spGI cGrid):=ok_gi oW ⟨ag,_,_,⟨dX,dI,bM⟩,d3,c9⟩
  have jc:FnOk P w K mg base CX0 1 az _ ["self","numbers"] (MA K cSrc):=ok_srcI j6 kz
  have gg:FnOk P w K mg base CX0 1 au _ ["self"] (MH K cSrc):=ok_more gR kz
  have uL:FnOk P w K mg base CX0 9 fa _ ["calls"] (spAns K):=MU x9 adq ⟨_,_,Zg X G aaY,⟨ab6,ou,nI,abq⟩,oK,lS⟩ ⟨_,_,Zg X G xn,⟨wJ,kM,kh,yq⟩,j4,jc⟩ ⟨ah,_,_,⟨hZ,gX,cb⟩,ig,gg⟩ ⟨ah,_,_,⟨af,ac,aa⟩,ae,ab⟩
  exact uL
 ·match us,hl with
  |[_],_=>exact .of_eq rfl
end Cp
end
section
open PySem PySem.W PyProof.Rows
namespace PySem.W.Fast
noncomputable def tw5726544898293908581:=0
noncomputable def tw11511979219676594093:=0
noncomputable def tw16035645955162718995:=0
noncomputable def tw6924307293126351146:=0
noncomputable def tw6185279658912997272:=0
noncomputable def tw15910641588956640911:=0
noncomputable def tw9805557245776628337:=0
noncomputable def tw1073064407833899658:=0
noncomputable def tw18157175151661745069:=0
noncomputable def tw8339333808271892568:=0
noncomputable def tw1645579218699582090:=0
noncomputable def tw15175508800392407963:=0
noncomputable def tw189525951790008148:=0
noncomputable def tw4769882438336056446:=0
noncomputable def tw13412592420454302414:=0
noncomputable def tw13494311003247793821:=0
noncomputable def tw8533951758879403731:=0
noncomputable def tw11460492137574740396:=0
noncomputable def tw17155353717790806982:=0
noncomputable def tw16823914359376924224:=0
noncomputable def tw13761273378506146116:=0
noncomputable def tw5424266715978995516:=0
noncomputable def tw14027566806394927031:=0
noncomputable def tw1188143186833029801:=0
noncomputable def tw195315673695036320:=0
noncomputable def tw11026699947615473665:=0
noncomputable def tw11717533299360399819:=0
noncomputable def tw5118149835085615762:=0
noncomputable def tw13899809056146597053:=0
noncomputable def tw5374353462855974913:=0
noncomputable def tw10248892990368026750:=0
noncomputable def tw17994719891142635920:=0
noncomputable def tw6526048978417842674:=0
noncomputable def tw16093582951786817826:=0
noncomputable def tw17388303853075460319:=0
noncomputable def tw17074935226508442885:=0
noncomputable def tw9221891294678100407:=0
noncomputable def tw9873494792406279900:=0
noncomputable def tw6749172274387209006:=0
noncomputable def tw2755332004969194172:=0
noncomputable def tw12063582300152212293:=0
noncomputable def tw856843631086345535:=0
noncomputable def tw7011575905987391930:=0
noncomputable def tw3351174612663633431:=0
noncomputable def tw2108593696540489815:=0
noncomputable def tw17938383059762637428:=0
noncomputable def tw6510177324320570577:=0
noncomputable def tw15714749704236876521:=0
noncomputable def tw2460622641291772099:=0
noncomputable def tw8871681886752254794:=0
noncomputable def tw10354851364887257855:=0
noncomputable def tw13834337548474660586:=0
noncomputable def tw16371709870272716588:=0
noncomputable def tw15237302231167012976:=0
noncomputable def tw1037790085938403960:=0
noncomputable def tw3542954882239693527:=0
noncomputable def tw1007842402001830636:=0
noncomputable def tw6683163277883727735:=0
noncomputable def tw18138726171641369156:=0
noncomputable def tw13523428844381418870:=0
noncomputable def tw12051777071357742280:=0
noncomputable def tw2077052932532976511:=0
noncomputable def tw4880883694478833417:=0
noncomputable def tw10942659784258508313:=0
noncomputable def tw16701470185708738962:=0
noncomputable def tw5007328829301270788:=0
noncomputable def tw11813921449765274564:=0
noncomputable def tw15212098822400951775:=0
noncomputable def tw9816582457683537396:=0
noncomputable def tw4957553576915447907:=0
noncomputable def tw11629301703571236146:=0
noncomputable def tw418294872358319268:=0
noncomputable def tw16337961198852701394:=0
noncomputable def tw13010921646262114040:=0
noncomputable def tw7199319281224056621:=0
noncomputable def tw3459396225248318325:=0
noncomputable def tw12693197845618769185:=0
noncomputable def tw6757184807828671781:=0
noncomputable def tw1004831443567377980:=0
noncomputable def tw2259241716771472861:=0
noncomputable def tw779893623607501107:=0
noncomputable def tw15563389594082931940:=0
noncomputable def tw7808970714548885774:=0
noncomputable def tw868951304700248233:=0
noncomputable def tw13950169653554095136:=0
noncomputable def tw7185163572565076296:=0
noncomputable def tw17926717447925330799:=0
noncomputable def tw9041631640429862103:=0
noncomputable def tw386471956259677865:=0
noncomputable def tw1523344244273407001:=0
noncomputable def tw12180451684376242252:=0
noncomputable def tw12453986607975954225:=0
noncomputable def tw10780419030172671528:=0
noncomputable def tw1710563793486925796:=0
noncomputable def tw6125717744377511466:=0
noncomputable def tw16365371815116642842:=0
noncomputable def tw13257709742630019469:=0
noncomputable def tw14748539064360138161:=0
noncomputable def tw15433688895567435285:=0
noncomputable def tw288107710219404506:=0
noncomputable def tw571406336436612191:=0
noncomputable def tw644502560981546170:=0
noncomputable def tw8265491678967033431:=0
noncomputable def tw17081640409158509286:=0
noncomputable def tw9796208030652904184:=0
noncomputable def tw6703226757386786049:=0
noncomputable def tw4180658591197219920:=0
noncomputable def tw10043397009901414379:=0
noncomputable def tw6077969911153305419:=0
noncomputable def tw6065026085344049216:=0
noncomputable def tw5408517853803581442:=0
noncomputable def tw17514985870882617248:=0
noncomputable def tw17115737328775331317:=0
noncomputable def tw10507744463992062369:=0
noncomputable def tw11125861808054368685:=0
noncomputable def tw11568655753639931235:=0
noncomputable def tw9519747698851553916:=0
noncomputable def tw5947933254592145194:=0
noncomputable def tw13024918599094939918:=0
noncomputable def tw250517215552020406:=0
noncomputable def tw3409542556928159029:=0
noncomputable def tw16838421582169260265:=0
noncomputable def tw15893355611023499855:=0
noncomputable def tw2179862111622020658:=0
noncomputable def tw9878824383698083629:=0
noncomputable def tw13095112039566735057:=0
noncomputable def tw1520402997122041451:=0
noncomputable def tw1680114742886125564:=0
noncomputable def tw1915915602889737972:=0
noncomputable def tw12824897729132996115:=0
noncomputable def tw1628061586363505898:=0
end PySem.W.Fast
theorem Cp.sqF_of{K:PySem.W.Frag}{H:L2.Hp}{a:Addr}{xs:List L2.V}(hO:L2.Mr H)(h:L2.SqL K H a xs):Cp.SqF K H a xs:=by
 rcases h with(h|h)|h
 ·rcases hO a with z|⟨o,u,z⟩
  ·rw[z]at h;cases h
  ·rw[z]at h;cases h
 ·exact .inl h
 ·exact .inr fun H'=>.inr h
set_option maxRecDepth 100000 in
set_option maxHeartbeats 0 in
theorem PySem.Challenge.cw_cellpaint_s01_answers_holds : PySem.Challenge.rw_cellpaint_s01_answers.Holds := by
 w_on;k_headS;(case hw=>exact⟨[.list [.int 4]],by decide +kernel,by decide +kernel⟩)
 k_fillS
 refine L2.walk_specK (r:=PySem.Challenge.rw_cellpaint_s01_answers) (k:=9) (CX:=L2.CX0) (ps:=["calls"]) (sp:=Cp.spAns) (by decide +kernel) rfl rfl ⟨rfl,by decide,by decide⟩ (fun w h Y=>PySem.W.kIn_of Y) ?F ?S (fun _ _ _ _ z=>z)
 case F=>
  intro w mg fa h Y KX G hmg
  refine' Cp.all_mk KX G hmg ?x0 ?x1 ?x2 ?x3 ?x4 ?x5 ?x6 ?x7 ?x8 ?x9 ?x10 ?x11 ?x12 ?x13 ?x14 ?x15 ?x16 ?x17 ?x18 ?x19 ?x20 ?x21 ?x22 ?x23 ?x24 ?x25 ?x26 ?x27 ?x28 ?x29 ?x30 ?x31 ?x32 ?x33 ?x34 ?x35 ?x36 ?x37 ?x38 ?x39 ?x40 ?x41 ?x42 ?x43 ?x44 ?x45 ?x46 ?x47 ?x48 ?x49 ?x50 ?x51 ?x52 ?x53 ?x54 ?x55 ?x56 ?x57 ?x58 ?x59 ?x60 ?x61 ?x62 ?x63 ?x64 ?x65 ?x66 ?x67 ?x68 ?x69 ?x70 ?x71 ?x72 ?x73 ?x74 ?x75 ?x76 ?x77 ?x78 ?x79 ?x80 ?x81 ?x82 ?x83 ?x84 ?x85 ?x86 ?x87 ?x88 ?x89 ?x90 ?x91 ?x92 ?x93 ?x94 ?x95 ?x96 ?x97 ?x98 ?x99 ?x100 ?x101 ?x102 ?x103 ?x104 ?x105 ?x106 ?x107 ?x108 ?x109 ?x110 ?x111 ?x112 ?x113 ?x114 ?x115 ?x116 ?x117 ?x118 ?x119 ?x120 ?x121 ?x122 ?x123 ?x124 ?x125 ?x126 ?x127 ?x128 ?x129 ?x130 ?x131 ?x132 ?x133 ?x134 ?x135 ?x136 ?x137 ?x138 ?x139 ?x140 ?x141 ?x142 ?x143 ?x144 ?x145 ?x146 ?x147 ?x148 ?x149 ?x150 ?x151 ?x152 ?x153 ?x154 ?x155 ?x156 ?x157 ?x158 ?x159 ?x160 ?x161 ?x162 ?x163 ?x164 ?x165 ?x166 ?x167 ?x168 ?x169 ?x170 ?x171 ?x172 ?x173 ?x174 ?x175 ?x176 ?x177 ?x178 ?x179 ?x180 ?x181 ?x182 ?x183 ?x184 ?x185 ?x186 ?x187 ?x188 ?x189 ?x190 ?x191 ?x192 ?x193 ?x194 ?x195 ?x196 ?x197 ?x198 ?x199 ?x200 ?x201 ?x202 ?x203 ?x204 ?x205 ?x206 ?x207 ?x208 ?x209 ?x210 ?x211 ?x212 ?x213 ?x214 ?x215 ?x216 ?x217 ?x218 ?x219 ?x220 ?x221 ?x222 ?x223 ?x224 ?x225 ?x226 ?x227 ?x228 ?x229 ?x230 ?x231 ?x232 ?x233 ?x234 ?x235 ?x236 ?x237 ?x238 ?x239 ?x240 ?x241 ?x242 ?x243 ?x244 ?x245 ?x246 ?x247 ?x248 ?x249 ?x250 ?x251 ?x252 ?x253 ?x254 ?x255 ?x256 ?x257 ?x258 ?x259 ?x260 ?x261 ?x262 ?x263 ?x264 ?x265 ?x266 ?x267 ?x268 ?x269 ?x270 ?x271 ?x272 ?x273 ?x274 ?x275 ?x276 ?x277 ?x278 ?x279 ?x280 ?x281 ?x282 ?x283 ?x284 ?x285 ?x286 ?x287 ?x288 ?x289 ?x290 ?x291 ?x292 ?x293 ?x294 ?x295 ?x296 ?x297 ?x298 ?x299 ?x300 ?x301 ?x302 ?x303 ?x304 ?x305 ?x306 ?x307 ?x308 ?x309 ?x310 ?x311 ?x312 ?x313 ?x314 ?x315 ?x316 ?x317 ?x318 ?x319 ?x320 ?x321 ?x322 ?x323 ?x324 ?x325 ?x326 ?x327 ?x328 ?x329 ?x330 ?x331 ?x332 ?x333 ?x334 ?x335 ?x336 ?x337 ?x338 ?x339 ?x340 ?x341 ?x342 ?x343 ?x344 ?x345 ?x346 ?x347 ?x348 ?x349 ?x350 ?x351 ?x352 ?x353 ?x354 ?x355 ?x356 ?x357 ?x358 ?x359 ?x360 ?x361 ?x362 ?x363 ?x364 ?x365 ?x366 ?x367 ?x368 ?x369 ?x370 ?x371 ?x372 ?x373 ?x374 ?x375 ?x376 ?x377 ?x378 ?x379 ?x380 ?x381 ?x382 ?x383 ?x384 ?x385 ?x386 ?x387 ?x388 ?x389 ?x390 ?x391
  case x0|x1|x2|x3|x4|x5|x6|x7|x8|x9|x10|x11|x12|x13|x14|x15|x16|x17|x18|x19|x20|x21|x22|x23|x24|x25|x26|x27|x28|x29|x30|x31|x32|x33|x34|x35|x36|x37|x38|x39|x40|x41|x42|x43|x44|x45|x46|x47|x48|x49|x50|x51|x52|x53|x54|x55|x56|x57|x58|x59|x60|x61|x62|x63|x64|x65|x66|x67|x68|x69|x70|x71|x72|x73|x74|x75|x76|x77|x78|x79|x80|x81|x82|x83|x84|x85|x86|x87|x88|x89|x90|x91|x92|x93|x94|x95|x96|x97|x98|x99|x100|x101|x102|x103|x104|x105|x106|x107|x108|x109|x110|x111|x112|x113|x114|x115|x116|x117|x118|x119|x120|x121|x122|x123|x124|x125|x126|x127|x128|x129|x130|x131|x132|x133|x134|x135|x136|x137|x138|x139|x140|x141|x142|x143|x144|x145|x146|x147|x148|x149|x150|x151|x152|x153|x154|x155|x156|x157|x158|x159|x160|x161|x162|x163|x164|x165|x166|x167|x168|x169|x170|x171|x172|x173|x174|x175|x176|x177|x178|x179|x180|x181|x182|x183|x184|x185|x186|x187|x188|x189|x190|x191|x192|x193|x194|x195|x196|x197|x198|x199|x200|x201|x202|x203|x204|x205|x206|x207|x208|x209|x210|x211|x212|x213|x214|x215|x216|x217|x218|x219|x220|x221|x222|x223|x224|x225|x226|x227|x228|x229|x230|x231|x232|x233|x234|x235|x236|x237|x238|x239|x240|x241|x242|x243|x244|x245|x246|x247|x248|x249|x250|x251|x252|x253|x254|x255|x256|x257|x258|x259|x260|x261|x262|x263|x264|x265|x266|x267|x268|x269|x270|x271|x272|x273|x274|x275|x276|x277|x278|x279|x280|x281|x282|x283|x284|x285|x286|x287|x288|x289|x290|x291|x292|x293|x294|x295|x296|x297|x298|x299|x300|x301|x302|x303|x304|x305|x306|x307|x308|x309|x310|x311|x312|x313|x314|x315|x316|x317|x318|x319|x320|x321|x322|x323|x324|x325|x326|x327|x328|x329|x330|x331|x332|x333|x334|x335|x336|x337|x338|x339|x340|x341|x342|x343|x344|x345|x346|x347|x348|x349|x350|x351|x352|x353|x354|x355|x356|x357|x358|x359|x360|x361|x362|x363|x364|x365|x366|x367|x368|x369|x370|x371|x372|x373|x374|x375|x376|x377|x378|x379|x380|x381|x382|x383|x384|x385|x386|x387|x388|x389|x390|x391=>k_is
 case S=>
  intro K H xs a hO hwi hask hx
  cases hx with
  |cons h1 h2=>
   cases h2
   cases h1 with
   |lst hs ha=>
    have e:=L2.ints_dw a.1 _ ha
    subst e
    have q:((Codec.inLen 0 17000 a.1&&a.1.all (Codec.inInt (_root_.Int.negSucc 999999999999999999) (_root_.Int.ofNat 1000000000000000000)))&&true)=true:=hwi
    rw[Zv,Zv]at q
    exact⟨_,a.1,rfl,Cp.sqF_of hO hs,hask,(Codec.inNat_iff.mp q.1.1).2,fun H' p hp=>.lst (L2.SqL.of hp) (L2.dw_ints _)⟩
end
