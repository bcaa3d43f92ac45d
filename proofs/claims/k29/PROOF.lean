import PyProof.Rows.All
import Wide.All
import OpenK.AllK
import Wide.FinOn
import Lean
import PyProof.EqAt
import PyProof.EqKinds
import PyProof.TupleCall
import PySem.Challenge.RW_pasthall_k29_refusals_of_webs
set_option Elab.async false
set_option linter.all false
set_option maxRecDepth 100000
noncomputable section
abbrev Za:=@Option.bind_eq_some_iff
abbrev Zb:=@Option.map_eq_some_iff
abbrev Zc:=@List.getElem?_eq_getElem
abbrev Zd:=@List.length_map
abbrev Ze:=@List.mem_cons_of_mem
abbrev Zf:=@List.mem_cons_self
abbrev Zg:=@List.getElem?_eq_some_iff
abbrev Zh:=@List.map_cons
abbrev Zi:=@List.map_map
abbrev Zj:=@List.getElem?_map
abbrev Zk:=@List.mem_cons
abbrev Zl:=@Bool.false_ne_true
abbrev Zm:=@List.size_toArray
abbrev Zn:=@decide_eq_true
abbrev Zo:=@decide_eq_false
abbrev Zp:=@List.length_append
abbrev Zq:=@List.length_cons
abbrev Zr:=@List.map_append
abbrev Zt:=@List.mem_range
abbrev Zu:=@List.length_range
abbrev Zy:=@List.getD_eq_getElem?_getD
abbrev Za1:=@List.getElem?_append_left
abbrev Zb1:=@List.append_assoc
abbrev Zc1:=@Bool.and_eq_true
abbrev Zd1:=@List.mem_append
abbrev Zf1:=@List.getElem?_set_ne
abbrev Zi1:=@decide_eq_true_iff
abbrev Zk1:=@List.getElem?_set_self
abbrev Zm1:=@List.pairwise_cons
abbrev Zn1:=@Option.isSome_map
abbrev Zo1:=@List.mem_singleton
abbrev Zp1:=@List.all_eq_true
abbrev Zq1:=@List.length_take
namespace L2
open PySem PySem.Spec PyProof.Rows
abbrev Key:=Sum Int Str
def keyIs:Key→Value→Bool
 | .inl k,v=>Value.isInt k v
 | .inr x,v=>Value.isStrOf x v
def keyH (w:World):Key→Int
 | .inl k=>hashInt k
 | .inr x=>hashStr w x
theorem keyIs_shape:∀{k:Key}{v:Value},keyIs k v=true→(∃i t,k=Sum.inl i∧v=Value.int i t)∨(∃x t,k=Sum.inr x∧v=Value.str x t)
 | .inl i,v,h=>by
  obtain ⟨t,e⟩:=Value.isInt_shape (k:=i) (v:=v) h;exact .inl ⟨i,t,rfl,e⟩
 | .inr x,v,h=>by
  obtain ⟨t,e⟩:=Value.isStrOf_shape (x:=x) (v:=v) h;exact .inr ⟨x,t,rfl,e⟩
theorem keyIs_int (i:Int) (t:Tok):keyIs (.inl i) (.int i t)=true:=by simp [keyIs,Value.isInt]
theorem keyIs_str (x:Str) (t:Tok):keyIs (.inr x) (.str x t)=true:=by simp [keyIs,Value.isStrOf]
theorem key_ll (a b:Int):decide ((Sum.inl a:Key)=Sum.inl b)=(a==b):=by
 by_cases e:a=b
 ·subst e;simp
 ·have h:¬(Sum.inl a:Key)=Sum.inl b:=fun q=>e (Sum.inl.inj q)
  rw [Zo h];exact (beq_eq_false_iff_ne.mpr e).symm
theorem key_rr (a b:Str):decide ((Sum.inr a:Key)=Sum.inr b)=decide (a=b):=by
 by_cases e:a=b
 ·subst e;simp
 ·have h:¬(Sum.inr a:Key)=Sum.inr b:=fun q=>e (Sum.inr.inj q)
  rw [Zo h,Zo e]
theorem key_lr (a:Int) (b:Str):decide ((Sum.inl a:Key)=Sum.inr b)=false:=Zo (fun q=>nomatch q)
theorem key_rl (a:Str) (b:Int):decide ((Sum.inr a:Key)=Sum.inl b)=false:=Zo (fun q=>nomatch q)
def mixKind (prog:Program) (w:World):PySem.KeyKind prog w Key where
 is:=keyIs
 hash:=keyH w
 inj:=fun v a b ha hb=>by
  rcases keyIs_shape ha with ⟨i,t,rfl,rfl⟩|⟨x,t,rfl,rfl⟩
  ·rcases keyIs_shape hb with ⟨j,u,rfl,e⟩|⟨y,u,rfl,e⟩
   ·injection e with e1 _;rw [e1]
   ·exact nomatch e
  ·rcases keyIs_shape hb with ⟨j,u,rfl,e⟩|⟨y,u,rfl,e⟩
   ·exact nomatch e
   ·injection e with e1 _;rw [e1]
 byValue:=fun k v h=>by
  rcases keyIs_shape h with ⟨i,t,rfl,rfl⟩|⟨x,t,rfl,rfl⟩<;>rfl
 pyHash:=fun hv h=>by
  rcases keyIs_shape hv with ⟨i,t,rfl,rfl⟩|⟨x,t,rfl,rfl⟩
  ·exact wpAny_pyHash_int h
  ·exact wpAny_pyHash_str h
 eqBool:=fun hu hv h=>by
  rcases keyIs_shape hu with ⟨i,t,rfl,rfl⟩|⟨x,t,rfl,rfl⟩
  ·rcases keyIs_shape hv with ⟨j,u,rfl,rfl⟩|⟨y,u,rfl,rfl⟩
   ·rw [key_ll] at h;exact wpAny_eqBool_int h
   ·rw [key_lr] at h;exact SeqAt.EqAt.int_str i t y u _ _ _ _ h
  ·rcases keyIs_shape hv with ⟨j,u,rfl,rfl⟩|⟨y,u,rfl,rfl⟩
   ·rw [key_rl] at h;exact SeqAt.EqAt.str_int x t j u _ _ _ _ h
   ·rw [key_rr] at h;exact wpAny_eqBool_str h
 «strs»:=fun k x t v h=>by
  rcases keyIs_shape h with ⟨i,u,rfl,e⟩|⟨y,u,rfl,e⟩
  ·exact nomatch e
  ·injection e with e1 _
   subst e1;cases v<;>rfl
theorem mixKind_int (prog:Program) (w:World) (i:Int) (t:Tok):(mixKind prog w).is (.inl i) (.int i t)=true:=keyIs_int i t
theorem mixKind_str (prog:Program) (w:World) (x:Str) (t:Tok):(mixKind prog w).is (.inr x) (.str x t)=true:=keyIs_str x t
inductive V where
 | non|bl (b:Bool)|int (i:Int)|str (x:Str)|byt (b:Array UInt8)|flt (b:UInt64)|ref (a:Addr)|ty (n:String)
 deriving DecidableEq
def RelV:V→Value→Prop
 | .non,u=>u=Value.none
 | .bl b,u=>u=Value.bool b
 | .int i,u=>∃t,u=Value.int i t
 | .str x,u=>∃t,u=Value.str x t
 | .byt b,u=>∃t,u=Value.bytes b t
 | .flt b,u=>∃t,u=Value.float b t
 | .ref a,u=>u=Value.ref a
 | .ty n,u=>u=Value.type n
abbrev Vals:List V→List Value→Prop:=Paired RelV
theorem Vals.length {xs:List V}{us:List Value}(r:Vals xs us):xs.length=us.length:=Paired.length r
theorem Vals.get:∀{xs:List V}{us:List Value}{i:Nat}{x:V},Vals xs us→xs[i]?=some x→∃u,us[i]?=some u∧RelV x u
 | _,_,_,_,.nil,e=>by simp at e
 | _,_,0,_,.cons r _,e=>by simp at e;subst e;exact ⟨_,rfl,r⟩
 | _,_,i+1,x,.cons _ t,e=>by
  obtain ⟨u,h1,h2⟩:=Vals.get (i:=i) (x:=x) t (by simpa using e);exact ⟨u,by simpa using h1,h2⟩
theorem Vals.append:∀{xs ys:List V}{us ws:List Value},Vals xs us→Vals ys ws→Vals (xs++ys) (us++ws)
 | _,_,_,_,.nil,s=>s
 | _,_,_,_,.cons r t,s=>.cons r (Vals.append t s)
theorem Vals.take:∀{xs:List V}{us:List Value}(n:Nat),Vals xs us→Vals (xs.take n) (us.take n)
 | _,_,0,_=>.nil
 | _,_,_+1,.nil=>.nil
 | _,_,n+1,.cons r t=>.cons r (Vals.take n t)
theorem Vals.drop:∀{xs:List V}{us:List Value}(n:Nat),Vals xs us→Vals (xs.drop n) (us.drop n)
 | _,_,0,r=>r
 | _,_,_+1,.nil=>.nil
 | _,_,n+1,.cons _ t=>Vals.drop n t
def RelO:Option V→Option Value→Prop
 | some v,some u=>RelV v u
 | none,none=>True
 | _,_=>False
def KV {κ:Type}:List (κ×V)→List (κ×Value)→Prop:=Paired fun (p:κ×V) (q:κ×Value)=>p.1=q.1∧RelV p.2 q.2
def kV:Key→V
 | .inl i=>.int i
 | .inr x=>.str x
inductive HO where
 | lst (xs:List V)
 | tup (xs:List V)
 | dK (kvs:List (Key×V))|dT (kvs:List (List Key×V))
 | set (S:Int→Bool) (n:Nat)
 | ins (C dx:Addr) (fs:List (Str×V))
 | own (x:Addr)
 | xd (fs:List (Str×V))
 | met (f x:Addr)
 | rng (lo hi:Int)
 | frz (o:Obj) (u:HO)
 | tbl (ps:Array Value)
 | ext (φ:Heap→Prop)
abbrev Hp:=Addr→Option HO
def upd (H:Hp) (a:Addr) (o:HO):Hp:=fun b=>if b=a then some o else H b
theorem upd_same {H:Hp}{a:Addr}{o:HO}:upd H a o a=some o:=by unfold upd;rw [if_pos rfl]
theorem upd_ne {H:Hp}{a b:Addr}{o:HO}(h:b≠a):upd H a o b=H b:=by unfold upd;rw [if_neg h]
theorem ne_of {H:Hp}{a b:Addr}{o u:HO}(h:H a=some o) (h':H b=some u) (d:o≠u):a≠b:=by
 intro e;subst e;rw [h] at h';exact d (Option.some.inj h')
theorem ne_of_none {H:Hp}{a b:Addr}{o:HO}(h:H a=some o) (h':H b=none):a≠b:=by
 intro e;subst e;rw [h] at h';cases h'
section
variable (P:Program) (w:World)
def ObjOk (H:Hp) (h:Heap) (a:Addr):HO→Prop
 | .lst xs=>xs.length≤sizeLine∧∃(its:List Value) (n:Nat),Vals xs its∧h.get? a=some { cls:=.type "list",data:=.seq its.toArray n }
 | .tup xs=>xs.length≤sizeLine∧∃its:List Value,Vals xs its∧IsTup h a its.toArray
 | .dK kvs=>kvs.length≤sizeLine∧(a==sysModules)=false∧∃vs,KV kvs vs∧h.DictOf (mixKind P w) a vs
 | .dT kvs=>kvs.length≤sizeLine∧(a==sysModules)=false∧∃xs:List (List Key×Addr×Value),
   Paired (fun (p:List Key×V) (q:List Key×Addr×Value)=>p.1=q.1∧H q.2.1=some (.tup (p.1.map kV))∧RelV p.2 q.2.2) kvs xs ∧
   ∃o es ep,h.get? a=some o∧o.ExactDict∧o.data=.dict es ep∧es.toList=xs.map (entryOfKey (tupleKind (mixKind P w)))∧(xs.map (·.1)).Nodup
 | .set S n=>h.SetOf (intKind P w) a S n
 | .ins C dx fs=>H dx=some (.own a)∧fs.length≤1000∧dx≠a∧h.get? a=some (PySem.W.instObj C dx) ∧
   ∃mA,h.Ns1 dx mA∧(∀f,RelO (fs.lookup f) (mA f))∧PySem.Within mA (fs.map (·.1))
 | .own _=>∃o,h.get? a=some o
 | .xd fs=>∃mA,h.Ns1 a mA∧∀f,RelO (fs.lookup f) (mA f)
 | .rng lo hi=>∃t u v,h.get? a=some { cls:=.type "range",data:=.fields #[.int lo t,.int hi u,.int 1 v] }
 | .frz o u=>h.get? a=some o∧ObjOk H h a u
 | .tbl ps=>h.get? a=some { cls:=.none,data:=.fields ps }
 | .met f x=>h.get? a=some (PySem.W.methodObj (.ref f) (.ref x))
 | .ext φ=>φ h∧(∃o,h.get? a=some o)∧∀h1 h2:Heap,φ h1→(∀o,h1.get? a=some o→h2.get? a=some o)→φ h2
def HOk (H:Hp) (h:Heap):Prop:=∀a o,H a=some o→ObjOk P w H h a o
end
section
variable {P:Program}{w:World}{H H':Hp}{h h':Heap}{a:Addr}{o:HO}
theorem ObjOk.lt (x:ObjOk P w H h a o):a < h.objs.size:=by
 cases o with
 | lst xs=>obtain ⟨_,_,_,_,e⟩:=x;exact Heap.lt_size e
 | tup xs=>obtain ⟨_,_,_,p⟩:=x;exact p.lt
 | dK kvs=>obtain ⟨_,_,_,_,o,_,_,e,_⟩:=x;exact Heap.lt_size e
 | dT kvs=>obtain ⟨_,_,_,_,o,_,_,e,_⟩:=x;exact Heap.lt_size e
 | set S n=>obtain ⟨o,_,_,_,e,_⟩:=x;exact Heap.lt_size e
 | ins C dx fs=>obtain ⟨_,_,_,e,_⟩:=x;exact Heap.lt_size e
 | own y=>obtain ⟨_,e⟩:=x;exact Heap.lt_size e
 | xd fs=>obtain ⟨_,⟨_,_,_,e,_⟩,_⟩:=x;exact Heap.lt_size e
 | rng lo hi=>obtain ⟨_,_,_,e⟩:=x;exact Heap.lt_size e
 | frz ob u=>obtain ⟨e,_⟩:=x;exact Heap.lt_size e
 | tbl ps=>exact Heap.lt_size (show h.get? a=some _ from x)
 | met f y=>exact Heap.lt_size (show h.get? a=some _ from x)
 | ext φ=>obtain ⟨_,⟨_,e⟩,_⟩:=x;exact Heap.lt_size e
theorem Paired.mapP {α β:Type}{F G:α→β→Prop}:∀{l₁:List α}{l₂:List β},Paired F l₁ l₂→(∀a b,F a b→G a b)→Paired G l₁ l₂
 | _,_,.nil,_=>.nil
 | _,_,.cons r t,f=>.cons (f _ _ r) (Paired.mapP t f)
theorem ObjOk.stay (x:ObjOk P w H h a o) (k:∀b u,(b=a∨H b=some (.own a))→h.get? b=some u→h'.get? b=some u)
  (ho:∀b,H b=some (.own a)→H' b=some (.own a)) (ht:∀b xs,H b=some (.tup xs)→H' b=some (.tup xs)):ObjOk P w H' h' a o:=by
 induction o with
 | lst xs=>obtain ⟨z,its,n,r,e⟩:=x;exact ⟨z,its,n,r,k _ _ (.inl rfl) e⟩
 | tup xs=>obtain ⟨z,its,r,ob,e,c⟩:=x;exact ⟨z,its,r,ob,k _ _ (.inl rfl) e,c⟩
 | dK kvs=>obtain ⟨z,y,vs,r,ob,es,ep,e,c⟩:=x;exact ⟨z,y,vs,r,ob,es,ep,k _ _ (.inl rfl) e,c⟩
 | dT kvs =>
  obtain ⟨z,y,xs,r,ob,es,ep,e,c⟩:=x;exact ⟨z,y,xs,Paired.mapP r fun p q z=>⟨z.1,ht _ _ z.2.1,z.2.2⟩,ob,es,ep,k _ _ (.inl rfl) e,c⟩
 | set S n=>obtain ⟨ob,es,ep,t,e,c⟩:=x;exact ⟨ob,es,ep,t,k _ _ (.inl rfl) e,c⟩
 | ins C dx fs =>
  obtain ⟨d,z,ne,e,mA,⟨od,es,ep,e2,c⟩,r⟩:=x;exact ⟨ho _ d,z,ne,k _ _ (.inl rfl) e,mA,⟨od,es,ep,k _ _ (.inr d) e2,c⟩,r⟩
 | own y=>obtain ⟨ob,e⟩:=x;exact ⟨ob,k _ _ (.inl rfl) e⟩
 | xd fs=>obtain ⟨mA,⟨od,es,ep,e,c⟩,r⟩:=x;exact ⟨mA,⟨od,es,ep,k _ _ (.inl rfl) e,c⟩,r⟩
 | rng lo hi=>obtain ⟨t,u,v,e⟩:=x;exact ⟨t,u,v,k _ _ (.inl rfl) e⟩
 | frz ob u ih=>obtain ⟨e,q⟩:=x;exact ⟨k _ _ (.inl rfl) e,ih q⟩
 | tbl ps =>
  have e:h.get? a=some { cls:=.none,data:=.fields ps }:=x;show h'.get? a=some { cls:=.none,data:=.fields ps };exact k a _ (.inl rfl) e
 | met f y =>
  have e:h.get? a=some (PySem.W.methodObj (.ref f) (.ref y)):=x;show h'.get? a=some (PySem.W.methodObj (.ref f) (.ref y));exact k a _ (.inl rfl) e
 | ext φ=>obtain ⟨p,⟨o,e⟩,st⟩:=x;exact ⟨st _ _ p fun o q=>k _ _ (.inl rfl) q,⟨o,k _ _ (.inl rfl) e⟩,st⟩
theorem HOk.lt (x:HOk P w H h) (e:H a=some o):a < h.objs.size:=(x a o e).lt
theorem HOk.fresh (x:HOk P w H h) (e:h.objs.size≤a):H a=none:=by
 cases q:H a with
 | none=>rfl
 | some u=>exact absurd (Nat.lt_of_lt_of_le (x.lt q) e) (Nat.lt_irrefl _)
theorem HOk.kept (x:HOk P w H h) (k:∀b u,h.get? b=some u→h'.get? b=some u):HOk P w H h':=fun a o e =>
 (x a o e).stay (fun b u _ q=>k b u q) (fun _ q=>q) fun _ _ q=>q
theorem HOk.laid (x:HOk P w H h) (k:∀b u,h.get? b=some u→h'.get? b=some u) (hp:h.objs.size≤a) (new:ObjOk P w (upd H a o) h' a o):HOk P w (upd H a o) h':=fun b u e=>by
 have hn:=x.fresh hp;by_cases hb:b=a
 ·subst hb;rw [upd_same] at e;cases e;exact new
 ·rw [upd_ne hb] at e
  exact (x b u e).stay (fun c v _ q=>k c v q) (fun c q=>by rw [upd_ne (ne_of_none q hn)];exact q) fun c xs q=>by rw [upd_ne (ne_of_none q hn)];exact q
end
def Rd (H:Hp) (a:Addr) (u:HO):Prop:=H a=some u∨∃o,H a=some (.frz o u)
theorem Rd.ok {P:Program}{w:World}{H:Hp}{h:Heap}{a:Addr}{u:HO}(r:Rd H a u) (x:HOk P w H h):ObjOk P w H h a u:=by
 rcases r with r|⟨o,r⟩
 ·exact x a u r
 ·obtain ⟨_,q⟩:=x a _ r
  exact q
def Mut:Option HO→Prop
 | some (.lst _)=>True
 | some (.dK _)=>True
 | some (.dT _)=>True
 | some (.set _ _)=>True
 | some (.ins _ _ _)=>True
 | some (.ext _)=>True
 | _=>False
section
variable {P:Program}{w:World}{H:Hp}{h h':Heap}{x e:Addr}{o':HO}
theorem HOk.write (ok:HOk P w H h) (mu:Mut (H x)) (he:e=x∨H e=some (.own x)) (k:∀b u,b≠e→h.get? b=some u→h'.get? b=some u) (heo:∃u,h'.get? e=some u)
  (new:ObjOk P w (upd H x o') h' x o'):HOk P w (upd H x o') h':=fun b u q=>by
 have nown:∀c y,H c=some (.own y)→c≠x:=fun c y r z=>by subst z;rw [r] at mu;exact mu
 have ntup:∀c xs,H c=some (.tup xs)→c≠x:=fun c xs r z=>by subst z;rw [r] at mu;exact mu
 by_cases hb:b=x
 ·subst hb;rw [upd_same] at q;cases q;exact new
 ·rw [upd_ne hb] at q
  by_cases hbe:b=e
  ·have q':H b=some (.own x):=by
    rcases he with z|z
    ·exact absurd (hbe.trans z) hb
    ·rw [hbe];exact z
   rw [q] at q';cases q';obtain ⟨v,hv⟩:=heo;exact ⟨v,by rw [hbe];exact hv⟩
  ·refine (ok b u q).stay (fun c v hc r=>k c v ?_ r) (fun c r=>by rw [upd_ne (nown c b r)];exact r) fun c xs r=>by rw [upd_ne (ntup c xs r)];exact r
   rcases hc with rfl|hc
   ·exact hbe
   ·rintro rfl
    rcases he with z|z
    ·exact nown c b hc z
    ·rw [hc] at z;cases z;exact hb rfl
end
structure Un (fs ex:List Addr) (H H':Hp) (h h':Heap):Prop where
 keep:∀b o,h.get? b=some o→H b=none→b∉fs→b∉ex→h'.get? b=some o
 slot:∀b o,h.get? b=some o→H b=none→b∈fs→b∉ex→∃sl,h'.get? b=some { o with slots:=sl }
 free:∀b o,h.get? b=some o→H b=none→b∉ex→H' b=none
 there:∀b o,h.get? b=some o→b∉ex→∃o',h'.get? b=some o'
 tups:∀b xs,H b=some (.tup xs)→H' b=some (.tup xs)
 frzs:∀b o u,H b=some (.frz o u)→H' b=some (.frz o u)
 tbls:∀b ps,H b=some (.tbl ps)→∃more,H' b=some (.tbl (ps++more))
section
variable {fs fs' ex ex':List Addr}{H H1 H2:Hp}{h h1 h2 h':Heap}{a x e:Addr}{o:HO}
theorem Un.any (u:Un fs ex H H1 h h1) {b:Addr}{ob:Obj}(q:h.get? b=some ob) (n:H b=none) (hx:b∉ex):∃sl,h1.get? b=some { ob with slots:=sl }:=by
 by_cases hb:b∈fs
 ·exact u.slot b ob q n hb hx
 ·exact ⟨ob.slots,u.keep b ob q n hb hx⟩
theorem Un.kept (k:∀b u,h.get? b=some u→h'.get? b=some u):Un fs ex H H h h' :=
 ⟨fun b ob q _ _ _=>k b ob q,fun b ob q _ _ _=>⟨ob.slots,k b ob q⟩,fun _ _ _ n _=>n,fun b ob q _=>⟨ob,k b ob q⟩,fun _ _ q=>q,fun _ _ _ q=>q,fun _ ps q=>⟨#[],by rw [q];simp⟩⟩
theorem Un.refl:Un fs ex H H h h:=Un.kept fun _ _ q=>q
theorem Un.laid (k:∀b u,h.get? b=some u→h'.get? b=some u) (hp:h.objs.size≤a) (hn:H a=none):Un fs ex H (upd H a o) h h' where
 keep:=fun b u q _ _ _=>k b u q
 slot:=fun b u q _ _ _=>⟨u.slots,k b u q⟩
 free:=fun b u q n _=>by rw [upd_ne (Nat.ne_of_lt (Nat.lt_of_lt_of_le (Heap.lt_size q) hp))];exact n
 there:=fun b u q _=>⟨u,k b u q⟩
 tups:=fun b xs q=>by rw [upd_ne (ne_of_none q hn)];exact q
 frzs:=fun b u xs q=>by rw [upd_ne (ne_of_none q hn)];exact q
 tbls:=fun b ps q=>⟨#[],by rw [upd_ne (ne_of_none q hn),q];simp⟩
theorem Un.write (mu:Mut (H x)) (he:e=x∨H e=some (.own x)) (k:∀b u,b≠e→h.get? b=some u→h'.get? b=some u) (heo:∃u,h'.get? e=some u):Un fs ex H (upd H x o) h h':=by
 have hx:∀b,H b=none→b≠x:=fun b n z=>by subst z;rw [n] at mu;exact mu
 have hb:∀b,H b=none→b≠e:=fun b n z=>by
  subst z;rcases he with r|r
  ·exact hx b n r
  ·rw [n] at r;cases r
 have hm:∀b u,H b=some u→¬Mut (some u)→b≠x:=fun b u q nm z=>by subst z;rw [q] at mu;exact nm mu
 refine ⟨fun b u q n _ _=>k b u (hb b n) q,fun b u q n _ _=>⟨u.slots,k b u (hb b n) q⟩,fun b u q n _=>by rw [upd_ne (hx b n)];exact n,fun b u q _=>?_,
  fun b xs q=>by rw [upd_ne (hm b _ q fun z=>z)];exact q,fun b u xs q=>by rw [upd_ne (hm b _ q fun z=>z)];exact q,fun b ps q=>⟨#[],by rw [upd_ne (hm b _ q fun z=>z),q];simp⟩⟩
 by_cases hbe:b=e
 ·subst hbe;exact heo
 ·exact ⟨u,k b u hbe q⟩
end
def trk (h:Heap) (H:Hp):List Addr:=(List.range h.objs.size).filter fun a=>(H a).isSome
def hidT (h:Heap) (H:Hp):Heap:=PySem.W.hideAll h (trk h H)
theorem hidT_size (h:Heap) (H:Hp):(hidT h H).objs.size=h.objs.size:=PySem.W.hideAll_size _ _
theorem hidT_get {h:Heap}{H:Hp}{b:Addr}{o:Obj}(e:h.get? b=some o) (n:H b=none):(hidT h H).get? b=some o :=
 PySem.W.hideAll_get _ e fun hm=>by
  have q:(H b).isSome=true:=(List.mem_filter.mp hm).2;rw [n] at q;simp at q
theorem of_hidT {h:Heap}{H:Hp}{b:Addr}{o:Obj}(e:(hidT h H).get? b=some o):h.get? b=some o∧H b=none:=by
 have e':h.get? b=some o:=PySem.W.of_hideAll (trk h H) e;refine ⟨e',?_⟩;cases q:H b with
 | none=>rfl
 | some x =>
  have hm:b∈trk h H:=List.mem_filter.mpr ⟨Zt.mpr (Heap.lt_size e'),by simp [q]⟩;have z:(hidT h H).get? b=none:=PySem.W.hideAll_none (trk h H) hm;rw [z] at e;cases e
def allNews (g h:Heap) (L:Addr):List (Addr×Obj):=(List.range h.objs.size).filterMap fun a=>if a=L∨(g.get? a).isSome=true then none else (h.get? a).map fun o=>(a,o)
def rest (g h:Heap) (L d:Addr):List (Addr×Obj):=(allNews g h L).filter fun p=>decide (p.1≠d)
structure Mod (K:PySem.W.Frag) (mg:Str→Option Value) (base:Heap):Prop where
 kin:K.In base
 glob:base.Ns mainGlobals mg
 blt:∃mb,base.Ns builtinsNs mb∧∀x:Str,x≠"__name__"→mb x=bootBuiltins x
 nolimit:base.NoLimit
structure Cx where
 prog:Program
 w:World
 K:PySem.W.Frag
 mg:Str→Option Value
 base:Heap
 A:Around
 N:List Str
 s₀:Shared
 H₀:Hp
 env:Env
 outer:List Env
 stack:List Env
 ex:List Addr
 fn:Str→Bool
 calm:Bool
 pn:List (Addr×Obj)
 xe:Value→Shared→Prop
def frs (l:List Env):List Addr:=l.filterMap (·.frame)
abbrev Cx.fs (X:Cx):List Addr:=frs X.outer
def Vis (sc:Scope) (x:Str):Prop:=sc.names.lookup x=some .local∨sc.names.lookup x=some .cell∨sc.names.lookup x=some .free
def Loc (sc:Scope) (x:Str):Prop:=sc.names.lookup x=some .local∨sc.names.lookup x=some .cell
def Look (env:Env) (h:Heap) (m:Str→Option Value) (x:Str) (u:Value):Prop :=
 (env.kindOf x=some .local∧m x=some u)∨((env.kindOf x=some .cell∨env.kindOf x=some .free)∧∃c,env.cells.lookup x=some c∧h.IsCell c (some u))
structure Cx.Ok (X:Cx):Prop where
 mod:Mod X.K X.mg X.base
 kind:X.env.scope.kind=.function
 glob:X.env.globals=mainGlobals
 blt:X.env.builtins=builtinsNs
 above:X.s₀.heap.objs.size≤X.env.locals
 inj:∀x y c,X.env.cells.lookup x=some c→X.env.cells.lookup y=some c→x=y
 has:∀x,(X.env.kindOf x=some .cell∨X.env.kindOf x=some .free)→∃c,X.env.cells.lookup x=some c
 cab:∀x c,X.fn x=true→X.env.cells.lookup x=some c→X.s₀.heap.objs.size≤c
 hd:X.calm=true→X.A.handled=none
 frames:X.A.frames=some X.stack
 stk:X.stack=X.outer∨(X.stack=X.env::X.outer∧X.env.frame=some X.env.locals)
 exf:∀b∈X.ex,b≠X.env.locals∧∀x c,X.env.cells.lookup x=some c→c≠b
 bs:∀b o,X.base.get? b=some o→X.s₀.heap.get? b=some o∧X.H₀ b=none
 bsz:X.base.objs.size≤X.s₀.heap.objs.size
 noex:∀b o,X.base.get? b=some o→b∉X.ex
 exfs:∀b∈X.ex,b∉X.fs
 funs:X.s₀.heap.FunFrames X.base X.outer
 frf:∀b∈X.fs,X.H₀ b=none
structure Inv (X:Cx) (pins:List (Addr×Obj)) (σ:List (Option V)) (H:Hp) (s:Shared):Prop where
 ok:X.Ok
 os:s.os=X.s₀.os
 bare:AllBare s.gens
 base:Un X.fs X.ex X.H₀ H X.s₀.heap s.heap
 loc:∃m,s.heap.Ns X.env.locals m∧∀(i:Nat) (x:Str) (v:V),X.N[i]?=some x→σ[i]?=some (some v)→Vis X.env.scope x→∃u,RelV v u∧Look X.env s.heap m x u
 cell:∀x c,X.env.cells.lookup x=some c→∃v,s.heap.IsCell c v
 free:H X.env.locals=none
 freeC:∀x c,X.env.cells.lookup x=some c→H c=none
 pin:∀p∈X.pn++pins,s.heap.get? p.1=some p.2∧H p.1=none∧p.1≠X.env.locals∧p.1∉X.fs∧∀v,p.2.data≠.cell v
 hok:HOk X.prog X.w H s.heap
 len:σ.length=X.N.length
section
variable {X:Cx}{pins:List (Addr×Obj)}{σ:List (Option V)}{H H':Hp}{s:Shared}{h':Heap}
theorem Cx.Ok.nofr (ok:X.Ok) {b:Addr}{o:Obj}(e:X.base.get? b=some o):b∉X.fs:=fun hb=>by
 have:=(ok.funs.mem hb).1;rw [e] at this;cases this
theorem Inv.bs (I:Inv X pins σ H s):∀b o,X.base.get? b=some o→s.heap.get? b=some o∧H b=none:=fun b o e =>
 ⟨I.base.keep b o (I.ok.bs b o e).1 (I.ok.bs b o e).2 (I.ok.nofr e) (I.ok.noex b o e),I.base.free b o (I.ok.bs b o e).1 (I.ok.bs b o e).2 (I.ok.noex b o e)⟩
theorem Inv.bk (I:Inv X pins σ H s):∀b o,X.base.get? b=some o→s.heap.get? b=some o:=fun b o e=>(I.bs b o e).1
theorem Inv.mod (I:Inv X pins σ H s):Mod X.K X.mg X.base:=I.ok.mod
theorem Inv.kIn (I:Inv X pins σ H s):X.K.In s.heap:=I.ok.mod.kin.keeps I.bk
theorem Inv.lt (I:Inv X pins σ H s):X.env.locals < s.heap.objs.size:=let ⟨_,hn,_⟩:=I.loc;hn.lt
theorem Inv.sz (I:Inv X pins σ H s):X.s₀.heap.objs.size≤s.heap.objs.size:=Nat.le_trans I.ok.above (Nat.le_of_lt I.lt)
theorem Inv.nofs (I:Inv X pins σ H s) {a:Addr}(h:s.heap.objs.size≤a):a∉X.fs:=fun hb=>by
 obtain ⟨_,o,ho,_⟩:=I.ok.funs.mem hb;exact absurd (Nat.lt_of_lt_of_le (Heap.lt_size ho) (Nat.le_trans I.sz h)) (Nat.lt_irrefl _)
theorem Inv.cne (I:Inv X pins σ H s):∀x c,X.env.cells.lookup x=some c→c≠X.env.locals:=fun x c e z=>by
 obtain ⟨v,o,ho,hd⟩:=I.cell x c e;obtain ⟨m,⟨o',es,ep,ho',hd',_⟩,_⟩:=I.loc;rw [z,ho'] at ho;cases ho;rw [hd'] at hd;cases hd
theorem Inv.funs (I:Inv X pins σ H s):s.heap.FunFrames X.base X.outer:=by
 have all:∀(l:List Env),(∀b∈frs l,b∈X.fs)→X.s₀.heap.FunFrames X.base l→s.heap.FunFrames X.base l:=by
  intro l
  induction l with
  | nil=>intro _ _;trivial
  | cons env r ih =>
   intro hs hl;obtain ⟨hk,⟨L,o,hf,hn,ho,hd⟩,hr⟩:=hl;have hL:L∈X.fs:=hs L (by unfold frs;rw [List.filterMap_cons,hf];exact Zf);obtain ⟨sl,e⟩:=I.base.slot L o ho (I.ok.frf L hL) hL fun z=>I.ok.exfs L z hL;exact ⟨hk,⟨L,_,hf,hn,e,hd⟩,ih (fun b hb=>hs b (by unfold frs;rw [List.filterMap_cons,hf];exact Ze _ hb)) hr⟩
 exact all X.outer (fun _ hb=>hb) I.ok.funs
theorem Inv.stack (I:Inv X pins σ H s):s.heap.FunFrames X.base X.stack:=by
 rcases I.ok.stk with e|⟨e,hf⟩
 ·rw [e];exact I.funs
 ·rw [e]
  obtain ⟨m,hn,_⟩:=I.loc;refine .cons (by rw [I.ok.kind];decide) hf hn ?_ I.funs;exact Heap.get?_none_of_le (Nat.le_trans I.ok.bsz I.ok.above)
theorem Inv.stkSub (I:Inv X pins σ H s):∀b∈frs X.stack,b∈X.env.locals::X.fs:=fun b hb=>by
 rcases I.ok.stk with e|⟨e,hf⟩
 ·rw [e] at hb;exact Ze _ hb
 ·rw [e] at hb
  unfold frs at hb;rw [List.filterMap_cons,hf] at hb;exact hb
theorem Inv.stkFree (I:Inv X pins σ H s):∀b∈frs X.stack,H b=none:=fun b hb=>by
 rcases Zk.mp (I.stkSub b hb) with e|hb
 ·rw [e];exact I.free
 ·obtain ⟨_,o,ho,_⟩:=I.ok.funs.mem hb
  exact I.base.free b o ho (I.ok.frf b hb) fun z=>I.ok.exfs b z hb
theorem Inv.step {g':Array GenState}{t':Nat}{d':Drawn}{ch:List Addr}(I:Inv X pins σ H s)
  (hch:∀b∈ch,(b∈X.ex∨X.s₀.heap.objs.size≤b)∧b≠X.env.locals∧(∀x c,X.env.cells.lookup x=some c→c≠b)∧∀p∈X.pn++pins,p.1≠b)
  (keep:∀b o,b≠X.env.locals→b∉X.fs→b∉ch→s.heap.get? b=some o→H b=none→h'.get? b=some o)
  (slot:∀b o,b≠X.env.locals→b∈X.fs→b∉ch→s.heap.get? b=some o→H b=none→∃sl,h'.get? b=some { o with slots:=sl }) (free:∀b o,b∉ch→s.heap.get? b=some o→H b=none→H' b=none)
  (there:∀b o,b∉ch→s.heap.get? b=some o→∃o',h'.get? b=some o')
  (tups:∀b xs,H b=some (.tup xs)→H' b=some (.tup xs)) (frzs:∀b o u,H b=some (.frz o u)→H' b=some (.frz o u)) (tbls:∀b ps,H b=some (.tbl ps)→∃more,H' b=some (.tbl (ps++more)))
  (ns:∀m,s.heap.Ns X.env.locals m→h'.Ns X.env.locals m) (hok:HOk X.prog X.w H' h') (hg:AllBare g') :
  Inv X pins σ H' { s with heap:=h',gens:=g',drawn:=d',toks:=t' }:=by
 have neL:∀b o,X.s₀.heap.get? b=some o→b≠X.env.locals:=fun b o e=>Nat.ne_of_lt (Nat.lt_of_lt_of_le (Heap.lt_size e) I.ok.above);have neC:∀b o,X.s₀.heap.get? b=some o→b∉X.ex→b∉ch:=fun b o e hx hb=>by
  rcases (hch b hb).1 with z|z
  ·exact hx z
  ·exact absurd (Nat.lt_of_lt_of_le (Heap.lt_size e) z) (Nat.lt_irrefl _)
 have cellK:∀x c,X.env.cells.lookup x=some c→∀v,s.heap.IsCell c v→h'.IsCell c v:=fun x c e v ⟨o,ho,hd⟩=>by
  have nch:c∉ch:=fun z=>(hch c z).2.2.1 x c e rfl;by_cases hc:c∈X.fs
  ·obtain ⟨sl,q⟩:=slot c o (I.cne x c e) hc nch ho (I.freeC x c e)
   exact ⟨_,q,hd⟩
  ·exact ⟨o,keep c o (I.cne x c e) hc nch ho (I.freeC x c e),hd⟩
 refine ⟨I.ok,I.os,hg,⟨fun b o e n hb hx=>?_,fun b o e n hb hx=>?_,fun b o e n hx=>?_,fun b o e hx=>?_,fun b xs e=>tups b xs (I.base.tups b xs e),fun b o xs e=>frzs b o xs (I.base.frzs b o xs e),fun b ps e=>?_⟩,?_,fun x c e=>?_,?_,fun x c e=>?_,fun p hp=>?_,hok,I.len⟩
 ·exact keep b o (neL b o e) hb (neC b o e hx) (I.base.keep b o e n hb hx) (I.base.free b o e n hx)
 ·obtain ⟨sl,e1⟩:=I.base.slot b o e n hb hx
  obtain ⟨sl',e2⟩:=slot b _ (neL b o e) hb (neC b o e hx) e1 (I.base.free b o e n hx);exact ⟨sl',e2⟩
 ·obtain ⟨o',e1⟩:=I.base.there b o e hx
  exact free b o' (neC b o e hx) e1 (I.base.free b o e n hx)
 ·obtain ⟨o',e1⟩:=I.base.there b o e hx
  exact there b o' (neC b o e hx) e1
 ·obtain ⟨m1,e1⟩:=I.base.tbls b ps e
  obtain ⟨m2,e2⟩:=tbls b _ e1;exact ⟨m1++m2,by rw [e2,Array.append_assoc]⟩
 ·obtain ⟨m,hn,hl⟩:=I.loc
  refine ⟨m,ns m hn,fun i x v e1 e2 e3=>?_⟩;obtain ⟨u,r,l⟩:=hl i x v e1 e2 e3;refine ⟨u,r,?_⟩;rcases l with l|⟨k,c,e,z⟩
  ·exact .inl l
  ·exact .inr ⟨k,c,e,cellK x c e _ z⟩
 ·obtain ⟨v,z⟩:=I.cell x c e
  exact ⟨v,cellK x c e v z⟩
 ·obtain ⟨m,⟨o,_,_,ho,_⟩,_⟩:=I.loc
  exact free _ o (fun z=>(hch _ z).2.1 rfl) ho I.free
 ·obtain ⟨v,o,ho,hd⟩:=I.cell x c e
  exact free c o (fun z=>(hch c z).2.2.1 x c e rfl) ho (I.freeC x c e)
 ·obtain ⟨e,n,ne,nf,d⟩:=I.pin p hp
  have nch:p.1∉ch:=fun z=>(hch p.1 z).2.2.2 p hp rfl;exact ⟨keep p.1 p.2 ne nf nch e n,free p.1 p.2 nch e n,ne,nf,d⟩
theorem Inv.un {t':Nat}(I:Inv X pins σ H s) (u:Un X.fs [] H H' s.heap h') (hok:HOk X.prog X.w H' h'):Inv X pins σ H' { s with heap:=h',toks:=t' }:=by
 obtain ⟨m,⟨o,es,ep,ho,r⟩,_⟩:=id I.loc;obtain ⟨sl,hL⟩:=u.any ho I.free (by simp);exact I.step (g':=s.gens) (d':=s.drawn) (ch:=[]) (fun _ z=>nomatch z) (fun b o _ hb _ e n=>u.keep b o e n hb (by simp)) (fun b o _ hb _ e n=>u.slot b o e n hb (by simp)) (fun b o _ e n=>u.free b o e n (by simp)) (fun b o _ e=>u.there b o e (by simp)) u.tups u.frzs u.tbls (fun m' hm=>by
  obtain ⟨o',es',ep',ho',r'⟩:=hm;rw [ho] at ho';cases ho';exact ⟨_,es',ep',hL,r'⟩) hok I.bare
theorem Inv.call {g':Array GenState}{t':Nat}{d':Drawn}{ch:List Addr}(I:Inv X pins σ H s) (u:Un (frs X.stack) ch H H' s.heap h') (hok:HOk X.prog X.w H' h') (hg:AllBare g')
  (hch:∀b∈ch,(b∈X.ex∨X.s₀.heap.objs.size≤b)∧b≠X.env.locals∧(∀x c,X.env.cells.lookup x=some c→c≠b)∧∀p∈X.pn++pins,p.1≠b) :
  Inv X pins σ H' { s with heap:=h',gens:=g',drawn:=d',toks:=t' }:=by
 obtain ⟨m,⟨o,es,ep,ho,r⟩,_⟩:=id I.loc;obtain ⟨sl,hL⟩:=u.any ho I.free fun z=>(hch _ z).2.1 rfl;exact I.step (ch:=ch) hch (fun b o hL hb hc e n=>u.keep b o e n (fun z=>(Zk.mp (I.stkSub b z)).elim hL hb) hc) (fun b o _ _ hc e n=>u.any e n hc) (fun b o hc e n=>u.free b o e n hc) (fun b o hc e=>u.there b o e hc) u.tups u.frzs u.tbls (fun m' hm=>by
  obtain ⟨o',es',ep',ho',r'⟩:=hm;rw [ho] at ho';cases ho';exact ⟨_,es',ep',hL,r'⟩) hok hg
theorem Inv.turned {t':Nat}{it:Addr}(I:Inv X pins σ H s) (k:∀b o,b≠it→s.heap.get? b=some o→h'.get? b=some o) (hn:H it=none) (hL:it≠X.env.locals)
  (h1:it∈X.ex∨X.s₀.heap.objs.size≤it) (h2:∀x c,X.env.cells.lookup x=some c→c≠it) (h3:∀p∈X.pn++pins,p.1≠it):Inv X pins σ H { s with heap:=h',toks:=t' }:=by
 have nit:∀b u,H b=some u→b≠it:=fun b u e z=>by rw [z,hn] at e;cases e
 refine I.step (g':=s.gens) (d':=s.drawn) (ch:=[it]) (fun b hb=>?_) (fun b o _ _ hc e _=>k b o (fun z=>hc (by simp [z])) e) (fun b o _ _ hc e _=>⟨o.slots,k b o (fun z=>hc (by simp [z])) e⟩) (fun _ _ _ _ n=>n)
  (fun b o hc e=>⟨o,k b o (fun z=>hc (by simp [z])) e⟩) (fun _ _ e=>e) (fun _ _ _ e=>e) (fun b ps e=>⟨#[],by rw [e];simp⟩) (fun m hm=>?_) (fun b u e=>?_) I.bare
 ·have e:b=it:=by simpa using hb
  subst e;exact ⟨h1,hL,h2,h3⟩
 ·obtain ⟨o,es,ep,ho,r⟩:=hm
  exact ⟨o,es,ep,k _ o (Ne.symm hL) ho,r⟩
 ·refine (I.hok b u e).stay (fun c v hc q=>k c v ?_ q) (fun _ q=>q) fun _ _ q=>q
  rcases hc with z|z
  ·rw [z];exact nit b u e
  ·exact nit c _ z
theorem Inv.tok (I:Inv X pins σ H s) (t:Nat):Inv X pins σ H { s with toks:=t }:=I.un (h':=s.heap) (t':=t) Un.refl I.hok
theorem Inv.kept {t':Nat}(I:Inv X pins σ H s) (k:∀b u,s.heap.get? b=some u→h'.get? b=some u):Inv X pins σ H { s with heap:=h',toks:=t' }:=I.un (Un.kept k) (I.hok.kept k)
theorem Inv.laid {a:Addr}{o:HO}{t':Nat}(I:Inv X pins σ H s) (k:∀b u,s.heap.get? b=some u→h'.get? b=some u) (hp:s.heap.objs.size≤a) (new:ObjOk X.prog X.w (upd H a o) h' a o) :
  Inv X pins σ (upd H a o) { s with heap:=h',toks:=t' }:=I.un (Un.laid k hp (I.hok.fresh hp)) (I.hok.laid k hp new)
theorem Inv.write {x e:Addr}{o:HO}{t':Nat}(I:Inv X pins σ H s) (mu:Mut (H x)) (he:e=x∨H e=some (.own x)) (k:∀b u,b≠e→s.heap.get? b=some u→h'.get? b=some u) (heo:∃u,h'.get? e=some u)
  (new:ObjOk X.prog X.w (upd H x o) h' x o):Inv X pins σ (upd H x o) { s with heap:=h',toks:=t' }:=I.un (Un.write mu he k heo) (I.hok.write mu he k heo new)
theorem Inv.pins_of {pins':List (Addr×Obj)}(I:Inv X pins σ H s) (h:∀p∈pins',s.heap.get? p.1=some p.2∧H p.1=none∧p.1≠X.env.locals∧p.1∉X.fs∧∀v,p.2.data≠.cell v):Inv X pins' σ H s :=
 ⟨I.ok,I.os,I.bare,I.base,I.loc,I.cell,I.free,I.freeC,fun p hp=>(Zd1.mp hp).elim (fun z=>I.pin p (List.mem_append_left _ z)) (h p),I.hok,I.len⟩
theorem nodup_ix {N:List Str}(hN:N.Nodup) {i j:Nat}{x:Str}(a:N[i]?=some x) (b:N[j]?=some x):i=j:=by
 obtain ⟨h1,e1⟩:=Zg.mp a;obtain ⟨h2,e2⟩:=Zg.mp b;exact (List.getElem_inj hN).mp (e1.trans e2.symm)
theorem store_ok2 {M:Model}{A:Around}{E:Value→Shared→Prop}{i:Nat}{x:Str}{v:V}{u:Value}{Q:Unit→Shared→Prop}(I:Inv X pins σ H s) (hN:X.N.Nodup) (hi:X.N[i]?=some x) (hx:Loc X.env.scope x) (r:RelV v u)
  (h:∀s',Inv X pins (σ.set i (some v)) H s'→(∃a,Heap.SameBut a s.heap s'.heap∧(a=X.env.locals∨X.env.cells.lookup x=some a))→Q () s') (hf:X.fn x=true∨X.env.scope.names.lookup x=some .local:=by first|exact .inl rfl|exact .inr rfl|assumption):wpAny M A (storeName X.env x u) Q E s:=by
 obtain ⟨m,hn,hl⟩:=id I.loc;have hcls:(X.env.scope.kind == .class || (X.env.scope.kind == .module&&X.env.locals != X.env.globals))=false:=by rw [I.ok.kind];rfl
 have hiσ:i < σ.length:=by rw [I.len];exact (Zg.mp hi).1
 have cne:=I.cne;have tracked:∀{a:Addr}{h':Heap},(∃o,s.heap.get? a=some o∧H a=none)→Heap.SameBut a s.heap h'→HOk X.prog X.w H h':=fun {a h'} ha hs b ob e=>by
  obtain ⟨_,_,hfree⟩:=ha;refine (I.hok b ob e).stay (fun c w' hc q=>(hs.2 c ?_).trans q) (fun _ q=>q) fun _ _ q=>q;rintro rfl;rcases hc with rfl|hc
  ·rw [hfree] at e;cases e
  ·rw [hfree] at hc;cases hc
 rcases hx with hk|hk
 ·refine wpAny_storeName_local hk hn (fun h' hn' hs=>?_) hcls
  obtain ⟨oL,_,_,hoL,_⟩:=id hn;refine h _ ⟨I.ok,I.os,I.bare,⟨fun b o e n hb hx=>?_,fun b o e n hb hx=>?_,I.base.free,fun b o e hx=>?_,I.base.tups,I.base.frzs,I.base.tbls⟩,⟨_,hn',fun j y v' e1 e2 e3=>?_⟩,fun y c e=>?_,I.free,I.freeC,fun p hp=>?_,tracked ⟨oL,hoL,I.free⟩ hs,by simpa using I.len⟩ ⟨_,hs,.inl rfl⟩
  ·exact (hs.2 b (Nat.ne_of_lt (Nat.lt_of_lt_of_le (Heap.lt_size e) I.ok.above))).trans (I.base.keep b o e n hb hx)
  ·obtain ⟨sl,e1⟩:=I.base.slot b o e n hb hx
   exact ⟨sl,(hs.2 b (Nat.ne_of_lt (Nat.lt_of_lt_of_le (Heap.lt_size e) I.ok.above))).trans e1⟩
  ·obtain ⟨o',e1⟩:=I.base.there b o e hx
   exact ⟨o',(hs.2 b (Nat.ne_of_lt (Nat.lt_of_lt_of_le (Heap.lt_size e) I.ok.above))).trans e1⟩
  ·by_cases hj:j=i
   ·subst hj
    rw [hi] at e1;cases e1;rw [Zk1 hiσ] at e2;cases e2;exact ⟨u,r,.inl ⟨hk,by simp⟩⟩
   ·rw [Zf1 (Ne.symm hj)] at e2
    obtain ⟨u',r',q⟩:=hl j y v' e1 e2 e3;refine ⟨u',r',?_⟩;rcases q with ⟨k,e⟩|⟨k,c,e,z⟩
    ·refine .inl ⟨k,?_⟩
     have:y≠x:=fun e=>hj (nodup_ix hN e1 (e ▸ hi));simp [this,e]
    ·exact .inr ⟨k,c,e,z.sameBut hs (cne y c e)⟩
  ·obtain ⟨w',z⟩:=I.cell y c e
   exact ⟨w',z.sameBut hs (cne y c e)⟩
  ·obtain ⟨e,n,ne,nf,d⟩:=I.pin p hp
   exact ⟨(hs.2 p.1 ne).trans e,n,ne,nf,d⟩
 ·have hfn:X.fn x=true:=by
   rcases hf with z|z
   ·exact z
   ·rw [z] at hk;cases hk
  obtain ⟨c,hc⟩:=I.ok.has x (.inl hk);obtain ⟨w',z⟩:=I.cell x c hc;refine wpAny_storeName_cell I.ok.kind hk hc z (fun h' hc' hs=>?_);obtain ⟨oc,hoc,hocd⟩:=id z;refine h { s with heap:=h' } ⟨I.ok,I.os,I.bare,⟨fun b o e n hb hx=>?_,fun b o e n hb hx=>?_,I.base.free,fun b o e hx=>?_,I.base.tups,I.base.frzs,I.base.tbls⟩,⟨m,hn.sameBut hs (Ne.symm (cne x c hc)),fun j y v' e1 e2 e3=>?_⟩,fun y c' e=>?_,I.free,I.freeC,fun p hp=>?_,tracked ⟨oc,hoc,I.freeC x c hc⟩ hs,by simpa using I.len⟩ ⟨c,hs,.inr hc⟩
  ·exact (hs.2 b (Nat.ne_of_lt (Nat.lt_of_lt_of_le (Heap.lt_size e) (I.ok.cab x c hfn hc)))).trans (I.base.keep b o e n hb hx)
  ·obtain ⟨sl,e1⟩:=I.base.slot b o e n hb hx
   exact ⟨sl,(hs.2 b (Nat.ne_of_lt (Nat.lt_of_lt_of_le (Heap.lt_size e) (I.ok.cab x c hfn hc)))).trans e1⟩
  ·obtain ⟨o',e1⟩:=I.base.there b o e hx
   exact ⟨o',(hs.2 b (Nat.ne_of_lt (Nat.lt_of_lt_of_le (Heap.lt_size e) (I.ok.cab x c hfn hc)))).trans e1⟩
  ·by_cases hj:j=i
   ·subst hj
    rw [hi] at e1;cases e1;rw [Zk1 hiσ] at e2;cases e2;exact ⟨u,r,.inr ⟨.inl hk,c,hc,hc'⟩⟩
   ·rw [Zf1 (Ne.symm hj)] at e2
    obtain ⟨u',r',q⟩:=hl j y v' e1 e2 e3;refine ⟨u',r',?_⟩;rcases q with q|⟨k,c',e,z'⟩
    ·exact .inl q
    ·refine .inr ⟨k,c',e,z'.sameBut hs ?_⟩
     rintro rfl;exact hj (nodup_ix hN e1 (I.ok.inj _ _ _ e hc ▸ hi))
  ·by_cases hcc:c'=c
   ·subst hcc;exact ⟨_,hc'⟩
   ·obtain ⟨w2,z2⟩:=I.cell y c' e
    exact ⟨w2,z2.sameBut hs hcc⟩
  ·obtain ⟨e,n,ne,nf,d⟩:=I.pin p hp
   refine ⟨(hs.2 p.1 ?_).trans e,n,ne,nf,d⟩;intro q;rw [q,hoc] at e;have q':oc=p.2:=Option.some.inj e;exact d w' (by rw [←q'];exact hocd)
theorem store_ok {M:Model}{A:Around}{E:Value→Shared→Prop}{i:Nat}{x:Str}{v:V}{u:Value}{Q:Unit→Shared→Prop}(I:Inv X pins σ H s) (hN:X.N.Nodup) (hi:X.N[i]?=some x) (hx:Loc X.env.scope x) (r:RelV v u)
  (h:∀s',Inv X pins (σ.set i (some v)) H s'→Q () s') (hf:X.fn x=true∨X.env.scope.names.lookup x=some .local:=by first|exact .inl rfl|exact .inr rfl|assumption):wpAny M A (storeName X.env x u) Q E s :=
 store_ok2 I hN hi hx r (fun s' I' _=>h s' I') hf
theorem Inv.call' {s':Shared}{ch:List Addr}(I:Inv X pins σ H s) (ho:s'.os=s.os) (u:Un (frs X.stack) ch H H' s.heap s'.heap) (hok:HOk X.prog X.w H' s'.heap) (hg:AllBare s'.gens)
  (hch:∀b∈ch,(b∈X.ex∨X.s₀.heap.objs.size≤b)∧b≠X.env.locals∧(∀x c,X.env.cells.lookup x=some c→c≠b)∧∀p∈X.pn++pins,p.1≠b):Inv X pins σ H' s':=by
 obtain ⟨h',g',d',t',o'⟩:=s';have e:o'=s.os:=ho;subst e;exact I.call (g':=g') (t':=t') (d':=d') u hok hg hch
end
abbrev XK:=Value→Option Addr→Hp→Prop
abbrev St:=List (Option V)
abbrev VK:=V→Hp→Prop
abbrev TE:=St→Hp→VK→Prop
abbrev TT:=St→Hp→(Bool→Hp→Prop)→Prop
abbrev TA:=St→Hp→(List V→Hp→Prop)→Prop
structure Ends where
 nx:St→Hp→Prop
 rt:VK
 bk:St→Hp→Prop:=fun _ _=>False
 ct:St→Hp→Prop:=fun _ _=>False
abbrev TS:=Ends→St→Hp→Prop
def EP (X:Cx) (pins:List (Addr×Obj)) (σ:St) (Q:VK) (u:Value) (s':Shared):Prop:=∃v H',Inv X pins σ H' s'∧RelV v u∧Q v H'
def TP (X:Cx) (pins:List (Addr×Obj)) (σ:St) (Q:Bool→Hp→Prop) (b:Bool) (s':Shared):Prop:=∃H',Inv X pins σ H' s'∧Q b H'
def AP (X:Cx) (pins:List (Addr×Obj)) (σ:St) (Q:List V→Hp→Prop) (us:List Value) (s':Shared):Prop:=∃vs H',Inv X pins σ H' s'∧Vals vs us∧Q vs H'
def SP (X:Cx) (pins:List (Addr×Obj)) (D:Ends) (f:Flow) (s':Shared):Prop :=
 match f with
 | .next=>∃σ' H',Inv X pins σ' H' s'∧D.nx σ' H'
 | .brk=>∃σ' H',Inv X pins σ' H' s'∧D.bk σ' H'
 | .cont=>∃σ' H',Inv X pins σ' H' s'∧D.ct σ' H'
 | .ret u=>∃v σ' H',Inv X pins σ' H' s'∧RelV v u∧D.rt v H'
def PE (X:Cx) (e:Expr) (t:TE):Prop :=
 ∀(pins:List (Addr×Obj)) (s:Shared) (σ:St) (H:Hp) (Q:VK),Inv X pins σ H s→t σ H Q→wpAny (model X.prog X.w) X.A (eval e X.env) (EP X pins σ Q) X.xe s
def PT (X:Cx) (e:Expr) (t:TT):Prop :=
 ∀(pins:List (Addr×Obj)) (s:Shared) (σ:St) (H:Hp) (Q:Bool→Hp→Prop),Inv X pins σ H s→t σ H Q→wpAny (model X.prog X.w) X.A (isTrue e X.env (eval e X.env)) (TP X pins σ Q) X.xe s
def PW (X:Cx) (e:Expr) (t:TT):Prop :=
 ∀(whole:Sem Value) (pins:List (Addr×Obj)) (s:Shared) (σ:St) (H:Hp) (Q:Bool→Hp→Prop),Inv X pins σ H s→t σ H Q→wpAny (model X.prog X.w) X.A (isTrue e X.env whole) (TP X pins σ Q) X.xe s
theorem PW.pt {X:Cx}{e:Expr}{t:TT}(h:PW X e t):PT X e t:=h _
def PA (X:Cx) (es:List Expr) (t:TA):Prop :=
 ∀(pos:Pos) (pins:List (Addr×Obj)) (s:Shared) (σ:St) (H:Hp) (Q:List V→Hp→Prop),Inv X pins σ H s→t σ H Q→wpAny (model X.prog X.w) X.A (spliced (backTo pos (starEach es X.env))) (AP X pins σ Q) X.xe s
def PS (X:Cx) (st:Stmt) (t:TS):Prop :=
 ∀(pins:List (Addr×Obj)) (s:Shared) (σ:St) (H:Hp) (D:Ends),Inv X pins σ H s→t D σ H→wpAny (model X.prog X.w) X.A (exec st X.env) (SP X pins D) X.xe s
def PSs (X:Cx) (st:List Stmt) (t:TS):Prop :=
 ∀(pins:List (Addr×Obj)) (s:Shared) (σ:St) (H:Hp) (D:Ends),Inv X pins σ H s→t D σ H→wpAny (model X.prog X.w) X.A (execs st X.env) (SP X pins D) X.xe s
theorem thn {α:Type}{t:Sem α}{Q Q':α→Shared→Prop}{M:Model}{A:Around}{E:Value→Shared→Prop}{s:Shared}(h:wpAny M A t Q E s) (hQ:∀a s,Q a s→Q' a s):wpAny M A t Q' E s:=wpAny_mono h hQ fun _ _ x=>x
section
variable {X:Cx}
def tVar (i:Nat):TE:=fun σ H Q=>∃v,σ[i]?=some (some v)∧Q v H
def tC (v:V):TE:=fun _ H Q=>Q v H
theorem pe_var {i:Nat}{x:Str}{pos:Pos}(hN:X.N[i]?=some x) (hv:Vis X.env.scope x) (hd:(x==("__debug__" : Str))=false:=by decide) (hcd:(x==("__classdict__" : Str))=false:=by decide):PE X (.Name x pos) (tVar i):=by
 intro pins s σ H Q I h;obtain ⟨v,e,h⟩:=h;obtain ⟨m,hn,hl⟩:=I.loc;obtain ⟨u,r,l⟩:=hl i x v hN e hv;have fin:EP X pins σ Q u s:=⟨v,H,I,r,h⟩
 rcases l with ⟨hk,hm⟩|⟨hk,c,hc,hcell⟩
 ·exact wpAny_Name (wpAny_loadName_local I.ok.kind hk hn hm fin) hd
 ·rcases hk with hk|hk
  ·exact wpAny_Name (wpAny_loadName_cell I.ok.kind hk hc hcell fin) hd
  ·exact wpAny_Name (wpAny_loadName_free I.ok.kind hk hc hcell fin hcd) hd
theorem pe_int {i j pos}:PE X (.Constant (.int i) j pos) (tC (.int i)):=fun _ _ _ H _ I h=>wpAny_Constant_int ⟨.int i,H,I.tok _,⟨_,rfl⟩,h⟩
theorem pe_bl {b j pos}:PE X (.Constant (.bool b) j pos) (tC (.bl b)):=fun _ _ _ H _ I h=>Constant_bool ⟨.bl b,H,I,rfl,h⟩
theorem pe_non {j pos}:PE X (.Constant .none j pos) (tC .non):=fun _ _ _ H _ I h=>Constant_none ⟨.non,H,I,rfl,h⟩
theorem pe_str {x j pos}:PE X (.Constant (.str x) j pos) (tC (.str x)):=fun _ _ _ H _ I h=>Calls.Constant_str ⟨.str x,H,I.tok _,⟨_,rfl⟩,h⟩
def Gl (X:Cx) (x:Str):Prop:=X.env.kindOf x=some .globalImplicit
theorem ld_glob {E:Value→Shared→Prop}{pins:List (Addr×Obj)}{s:Shared}{σ:St}{H:Hp}{x:Str}{u:Value}{pos:Pos}{Q:Value→Shared→Prop}(I:Inv X pins σ H s) (hg:Gl X x) (hm:X.mg x=some u) (h:Q u s)
  (hd:(x==("__debug__" : Str))=false:=by decide):wpAny (model X.prog X.w) X.A (eval (.Name x pos) X.env) Q E s :=
 Calls.Name_function_global I.ok.kind hg (Calls.loadGlobal_global (by rw [I.ok.glob];exact I.mod.glob.keeps I.bk) hm h) hd
theorem ld_blt {E:Value→Shared→Prop}{pins:List (Addr×Obj)}{s:Shared}{σ:St}{H:Hp}{x:Str}{u:Value}{pos:Pos}{Q:Value→Shared→Prop}(I:Inv X pins σ H s) (hg:Gl X x) (hm:X.mg x=none) (hv:bootBuiltins x=some u) (h:Q u s)
  (hn:x≠"__name__":=by decide) (hd:(x==("__debug__" : Str))=false:=by decide):wpAny (model X.prog X.w) X.A (eval (.Name x pos) X.env) Q E s:=by
 obtain ⟨mb,h1,h2⟩:=I.mod.blt;exact Calls.Name_function_global I.ok.kind hg (Calls.loadGlobal_builtin (by rw [I.ok.glob];exact I.mod.glob.keeps I.bk) hm (by rw [I.ok.blt];exact h1.keeps I.bk) ((h2 x hn).trans hv) h) hd
theorem pe_glob {x:Str}{v:V}{u:Value}{pos:Pos}(hg:Gl X x) (hm:X.mg x=some u) (r:RelV v u) (hd:(x==("__debug__" : Str))=false:=by decide):PE X (.Name x pos) (tC v) :=
 fun _ _ _ H _ I h=>ld_glob I hg hm ⟨v,H,I,r,h⟩ hd
theorem pe_bltn {x:Str}{v:V}{u:Value}{pos:Pos}(hg:Gl X x) (hm:X.mg x=none) (hv:bootBuiltins x=some u) (r:RelV v u) (hn:x≠"__name__":=by decide) (hd:(x==("__debug__" : Str))=false:=by decide):PE X (.Name x pos) (tC v) :=
 fun _ _ _ H _ I h=>ld_blt I hg hm hv ⟨v,H,I,r,h⟩ hn hd
variable {a b:Expr}{ta tb:TE}{pos:Pos}
def PC (X:Cx) (op:CmpOp) (a b:Expr) (t:TE):Prop :=
 ∀(pins:List (Addr×Obj)) (s:Shared) (σ:St) (H:Hp) (Q:VK),Inv X pins σ H s→t σ H Q →
  wpAny (model X.prog X.w) X.A (eval a X.env) (fun v s₁=>wpAny (model X.prog X.w) X.A (eval b X.env) (fun u s₂=>wpAny (model X.prog X.w) X.A (compareOp op v u) (EP X pins σ Q) X.xe s₂) X.xe s₁) X.xe s
theorem nobehind (b:Expr) {op:CmpOp}(h:op≠.In) (h2:op≠.NotIn):behindInMarks op b=false:=by
 have e1:(op==CmpOp.In)=false:=by cases op<;>first|rfl|exact absurd rfl h
 have e2:(op==CmpOp.NotIn)=false:=by cases op<;>first|rfl|exact absurd rfl h2
 cases b<;>simp [behindInMarks,e1,e2]
def tB (t:TE):TT:=fun σ H Q=>t σ H fun x H1=>∃c,x=.bl c∧Q c H1
theorem pt_cmp {op:CmpOp}{t:TE}(h:PC X op a b t) (h1:behindInMarks op b=false:=by first|exact nobehind _ (by decide) (by decide)|rfl):PT X (.Compare a [op] [b] pos) (tB t):=by
 intro pins s σ H Q I hw;refine wpAny_isTrue_Compare1 (thn (h pins s σ H _ I hw) fun v s1 h1=>thn h1 fun u s2 h2=>thn h2 fun c s3 ⟨x,H1,I1,r1,q1⟩=>?_) h1;obtain ⟨d,rfl,q⟩:=q1;cases r1;exact wpAny_truthy_bool ⟨H1,I1,q⟩
theorem pt_val {e:Expr}{t:TE}(h:PE X e t) (he:∀whole,isTrue e X.env whole=(do let v ←whole;standAt e.pos;holding [v] (truthy v)):=by intro _;rfl):PT X e (tB t):=by
 intro pins s σ H Q I hw;refine isTrue_plain (thn (h pins s σ H _ I hw) fun v s1 ⟨x,H1,I1,r1,q1⟩=>?_) (he _);obtain ⟨d,rfl,q⟩:=q1;cases r1;exact wpAny_truthy_bool ⟨H1,I1,q⟩
variable {tA tB':TT}{rest:List Expr}
def tOr (t u:TT):TT:=fun σ H Q=>t σ H fun c H1=>if c=true then Q true H1 else u σ H1 Q
def tNot (t:TT):TT:=fun σ H Q=>t σ H fun c H1=>Q (!c) H1
theorem pw_or1 (ha:PT X a tA):PW X (.BoolOp .Or [a] pos) tA:=by
 intro wh pins s σ H Q I h;refine isTrue_or (thn (ha pins s σ H Q I h) fun c s1 e=>?_);cases c with
 | false=>exact isTrue_or_nil e
 | true=>exact e
theorem pw_or (ha:PT X a tA) (hb:PW X (.BoolOp .Or (b::rest) pos) tB'):PW X (.BoolOp .Or (a::b::rest) pos) (tOr tA tB'):=by
 intro wh pins s σ H Q I h;refine isTrue_or (thn (ha pins s σ H _ I h) fun c s1 ⟨H1,I1,q1⟩=>?_);cases c with
 | true=>exact ⟨H1,I1,q1⟩
 | false=>exact hb wh pins s1 σ H1 Q I1 q1
theorem pt_not (ha:PT X a tA):PT X (.UnaryOp .Not a pos) (tNot tA):=by
 intro pins s σ H Q I h;exact isTrue_not (ha pins s σ H (fun c H1=>Q (!c) H1) I h)
def tAndV (ta tb:TE):TE:=fun σ H Q=>ta σ H fun x H1=>∃c,x=.bl c∧if c=true then tb σ H1 Q else Q (.bl false) H1
def tOrV (ta tb:TE):TE:=fun σ H Q=>ta σ H fun x H1=>∃c,x=.bl c∧if c=true then Q (.bl true) H1 else tb σ H1 Q
theorem pe_one {op}{t:TE}(h:PE X a t):PE X (.BoolOp op [a] pos) t:=fun pins s σ H Q I hw=>BoolOp_one (h pins s σ H Q I hw)
theorem pe_and (ha:PE X a ta) (hb:PE X (.BoolOp .And (b::rest) pos) tb):PE X (.BoolOp .And (a::b::rest) pos) (tAndV ta tb):=by
 intro pins s σ H Q I h;refine BoolOp_and (thn (ha pins s σ H _ I h) fun v s1 ⟨x,H1,I1,r1,q1⟩=>?_);obtain ⟨c,rfl,q1⟩:=q1;cases r1;refine wpAny_truthy_bool ?_;cases c with
 | true=>exact hb pins s1 σ H1 Q I1 q1
 | false=>exact ⟨.bl false,H1,I1,rfl,q1⟩
theorem pe_or (ha:PE X a ta) (hb:PE X (.BoolOp .Or (b::rest) pos) tb):PE X (.BoolOp .Or (a::b::rest) pos) (tOrV ta tb):=by
 intro pins s σ H Q I h;refine BoolOp_or (thn (ha pins s σ H _ I h) fun v s1 ⟨x,H1,I1,r1,q1⟩=>?_);obtain ⟨c,rfl,q1⟩:=q1;cases r1;refine wpAny_truthy_bool ?_;cases c with
 | false=>exact hb pins s1 σ H1 Q I1 q1
 | true=>exact ⟨.bl true,H1,I1,rfl,q1⟩
end
def SqL (K:PySem.W.Frag) (H:Hp) (a:Addr) (xs:List V):Prop :=
 Rd H a (.lst xs) ∨
  ∃(o:Obj) (its:Array Value) (n:Nat),K.lookup a=some o∧o.cls=.type "list"∧o.dict=none∧o.data=.seq its n∧its.size≤sizeLine∧Vals xs its.toList
def SqT (K:PySem.W.Frag) (H:Hp) (a:Addr) (xs:List V):Prop :=
 Rd H a (.tup xs) ∨
  ∃(o:Obj) (its:Array Value) (n:Nat),K.lookup a=some o∧o.cls=.type "tuple"∧o.data=.seq its n∧its.size≤sizeLine∧Vals xs its.toList
def absV:Value→Option V
 | .none=>some .non
 | .bool b=>some (.bl b)
 | .int i _=>some (.int i)
 | .str x _=>some (.str x)
 | .bytes b _=>some (.byt b)
 | .float b _=>some (.flt b)
 | .ref a=>some (.ref a)
 | .type n=>some (.ty n)
 | _=>none
theorem RelV.abs {x:V}{u:Value}(r:RelV x u):absV u=some x:=by
 cases x with
 | non=>cases r;rfl
 | bl _=>cases r;rfl
 | int _=>obtain ⟨t,rfl⟩:=r;rfl
 | str _=>obtain ⟨t,rfl⟩:=r;rfl
 | byt _=>obtain ⟨t,rfl⟩:=r;rfl
 | flt _=>obtain ⟨t,rfl⟩:=r;rfl
 | ref _=>cases r;rfl
 | ty _=>cases r;rfl
theorem RelV.inj {x y:V}{u:Value}(r:RelV x u) (q:RelV y u):x=y:=Option.some.inj (r.abs.symm.trans q.abs)
theorem Vals.inj:∀{xs ys:List V}{us:List Value},Vals xs us→Vals ys us→xs=ys
 | _,_,_,.nil,.nil=>rfl
 | _,_,_,.cons r t,.cons r' t'=>by rw [r.inj r',Vals.inj t t']
section
variable {X:Cx}{pins:List (Addr×Obj)}{σ:St}{H:Hp}{s:Shared}{a:Addr}{xs ys:List V}
theorem SqL.of {K:PySem.W.Frag}(h:H a=some (.lst xs)):SqL K H a xs:=.inl (.inl h)
theorem SqT.of {K:PySem.W.Frag}(h:H a=some (.tup xs)):SqT K H a xs:=.inl (.inl h)
theorem Inv.list (I:Inv X pins σ H s) (h:SqL X.K H a xs):∃its:List Value,Vals xs its∧PlainL s.heap a its.toArray∧xs.length≤sizeLine:=by
 rcases h with h|⟨o,its,n,hk,hc,hd,hs,hz,r⟩
 ·obtain ⟨z,its,n,r,e⟩:=h.ok I.hok
  exact ⟨its,r,⟨_,n,e,rfl,rfl,rfl⟩,z⟩
 ·refine ⟨its.toList,r,⟨o,n,I.kIn a o hk,hc,hd,by simpa using hs⟩,?_⟩
  have e:=r.length;simp only [Array.length_toList] at e;omega
theorem Inv.tuple (I:Inv X pins σ H s) (h:SqT X.K H a xs):∃its:List Value,Vals xs its∧IsTup s.heap a its.toArray∧xs.length≤sizeLine:=by
 rcases h with h|⟨o,its,n,hk,hc,hs,hz,r⟩
 ·obtain ⟨z,its,r,p⟩:=h.ok I.hok
  exact ⟨its,r,p,z⟩
 ·refine ⟨its.toList,r,⟨o,I.kIn a o hk,hc,n,by simpa using hs⟩,?_⟩
  have e:=r.length;simp only [Array.length_toList] at e;omega
theorem Inv.list_inj (I:Inv X pins σ H s) (h:SqL X.K H a xs) (h':SqL X.K H a ys):xs=ys:=by
 obtain ⟨its,r,⟨o,n,e,_,_,d⟩,_⟩:=I.list h;obtain ⟨its',r',⟨o',n',e',_,_,d'⟩,_⟩:=I.list h';rw [e] at e';cases e';rw [d] at d';injection d' with d1 _
 have:its=its':=by simpa using congrArg Array.toList d1
 subst this;exact r.inj r'
theorem Inv.tuple_inj (I:Inv X pins σ H s) (h:SqT X.K H a xs) (h':SqT X.K H a ys):xs=ys:=by
 obtain ⟨its,r,⟨o,e,_,n,d⟩,_⟩:=I.tuple h;obtain ⟨its',r',⟨o',e',_,n',d'⟩,_⟩:=I.tuple h';rw [e] at e';cases e';rw [d] at d';injection d' with d1 _
 have:its=its':=by simpa using congrArg Array.toList d1
 subst this;exact r.inj r'
end
abbrev Cx.wish (X:Cx) (E:Value→Shared→Prop):Cx:={ X with xe:=E }
abbrev Cx.nox (X:Cx):Cx:=X.wish fun _ _=>False
theorem Cx.Ok.wish {X:Cx}(ok:X.Ok) (E:Value→Shared→Prop):(X.wish E).Ok :=
 ⟨ok.mod,ok.kind,ok.glob,ok.blt,ok.above,ok.inj,ok.has,ok.cab,ok.hd,ok.frames,ok.stk,ok.exf,ok.bs,ok.bsz,ok.noex,ok.exfs,ok.funs,ok.frf⟩
theorem Cx.Ok.unwish {X:Cx}{E:Value→Shared→Prop}(ok:(X.wish E).Ok):X.Ok :=
 ⟨ok.mod,ok.kind,ok.glob,ok.blt,ok.above,ok.inj,ok.has,ok.cab,ok.hd,ok.frames,ok.stk,ok.exf,ok.bs,ok.bsz,ok.noex,ok.exfs,ok.funs,ok.frf⟩
section
variable {X:Cx}{pins:List (Addr×Obj)}{σ:St}{H:Hp}{s:Shared}{E:Value→Shared→Prop}
theorem Inv.wish (I:Inv X pins σ H s) (E:Value→Shared→Prop):Inv (X.wish E) pins σ H s:=⟨I.ok.wish E,I.os,I.bare,I.base,I.loc,I.cell,I.free,I.freeC,I.pin,I.hok,I.len⟩
theorem Inv.unwish (I:Inv (X.wish E) pins σ H s):Inv X pins σ H s:=⟨I.ok.unwish,I.os,I.bare,I.base,I.loc,I.cell,I.free,I.freeC,I.pin,I.hok,I.len⟩
theorem SP.unwish {D:Ends}{f:Flow}{s':Shared}(h:SP (X.wish E) pins D f s'):SP X pins D f s':=by
 cases f with
 | next=>obtain ⟨σ',H',I,q⟩:=h;exact ⟨σ',H',I.unwish,q⟩
 | brk=>obtain ⟨σ',H',I,q⟩:=h;exact ⟨σ',H',I.unwish,q⟩
 | cont=>obtain ⟨σ',H',I,q⟩:=h;exact ⟨σ',H',I.unwish,q⟩
 | ret u=>obtain ⟨v,σ',H',I,r,q⟩:=h;exact ⟨v,σ',H',I.unwish,r,q⟩
theorem PSs.nox {st:List Stmt}{t:TS}(h:PSs X.nox st t):PSs X st t:=fun pins s σ H D I hw =>
 wpAny_mono (h pins s σ H D (I.wish _) hw) (fun _ _ q=>q.unwish) fun _ _ z=>False.elim z
end
section
variable {X:Cx}{st:Stmt}{rest:List Stmt}{t u:TS}{e:Expr}{te:TE}{pos:Pos}
def tNext:TS:=fun D σ H=>D.nx σ H
def tSeq (t u:TS):TS:=fun D σ H=>t { D with nx:=u D } σ H
theorem pss_nil:PSs X [] tNext:=fun _ _ σ H _ I h=>wpAny_execs_nil ⟨σ,H,I,h⟩
theorem pss_cons (h1:PS X st t) (h2:PSs X rest u):PSs X (st::rest) (tSeq t u):=by
 intro pins s σ H D I h;refine wpAny_execs_cons (thn (h1 pins s σ H { D with nx:=u D } I h) fun f s1 q=>?_);cases f with
 | next =>
  obtain ⟨σ',H',I',q⟩:=q;exact h2 pins s1 σ' H' D I' q
 | ret v=>exact q
 | brk=>exact q
 | cont=>exact q
theorem pss_one (h1:PS X st t):PSs X [st] t:=by
 intro pins s σ H D I h;refine wpAny_execs_cons (thn (h1 pins s σ H D I h) fun f s1 q=>?_);cases f with
 | next=>exact wpAny_execs_nil q
 | ret v=>exact q
 | brk=>exact q
 | cont=>exact q
theorem Inv.quiet {pins:List (Addr×Obj)}{σ:St}{H:Hp}{s:Shared}(I:Inv X pins σ H s):interactive X.env=false:=by simp [interactive,I.ok.kind]
def tDrop (te:TE):TS:=fun D σ H=>te σ H fun _ H1=>D.nx σ H1
theorem ps_expr (he:PE X e te) (hs:swapsWith e none pos.line X.env=pure false:=by rfl):PS X (.Expr e pos) (tDrop te):=by
 intro pins s σ H D I h;exact wpAny_Expr_any (thn (he pins s σ H _ I h) fun v s1 ⟨x,H1,I1,r1,q1⟩=>⟨σ,H1,I1,q1⟩) I.quiet hs
def tRet (te:TE):TS:=fun D σ H=>te σ H D.rt
theorem ps_ret (he:PE X e te):PS X (.Return (some e) pos) (tRet te):=by
 intro pins s σ H D I h;exact wpAny_Return_some (thn (he pins s σ H _ I h) fun v s1 ⟨x,H1,I1,r1,q1⟩=>⟨x,σ,H1,I1,r1,q1⟩)
def tIfS (c:TT) (t u:TS):TS:=fun D σ H=>c σ H fun b H1=>if b=true then t D σ H1 else u D σ H1
theorem ps_if {c:Expr}{a b:List Stmt}{tc:TT}(hc:PT X c tc) (ha:PSs X a t) (hb:PSs X b u):PS X (.If c a b pos) (tIfS tc t u):=by
 intro pins s σ H D I h;refine wpAny_If (thn (hc pins s σ H _ I h) fun d s1 ⟨H1,I1,q1⟩=>?_);cases d with
 | true=>exact ha pins s1 σ H1 D I1 q1
 | false=>exact hb pins s1 σ H1 D I1 q1
def tNever:TS:=fun _ _ _=>False
theorem ps_never:PS X st tNever:=fun _ _ _ _ _ _ h=>h.elim
theorem pss_never {sts:List Stmt}:PSs X sts tNever:=fun _ _ _ _ _ _ h=>h.elim
end
abbrev TG:=V→St→Hp→(St→Hp→Prop)→Prop
abbrev TGs:=List V→St→Hp→(St→Hp→Prop)→Prop
def PG (X:Cx) (target:Expr) (t:TG):Prop :=
 ∀(pins:List (Addr×Obj)) (s:Shared) (σ:St) (H:Hp) (v:V) (u:Value) (Q:St→Hp→Prop),Inv X pins σ H s→RelV v u→t v σ H Q →
  wpAny (model X.prog X.w) X.A (assign target X.env u) (fun _ s'=>∃σ' H',Inv X pins σ' H' s'∧Q σ' H') X.xe s
def PGs (X:Cx) (ts:List Expr) (t:TGs):Prop :=
 ∀(pins:List (Addr×Obj)) (s:Shared) (σ:St) (H:Hp) (vs:List V) (us:List Value) (Q:St→Hp→Prop),Inv X pins σ H s→Vals vs us→t vs σ H Q →
  wpAny (model X.prog X.w) X.A (assignInOrder ((assignEach ts X.env).map (·.2)) us) (fun _ s'=>∃σ' H',Inv X pins σ' H' s'∧Q σ' H') X.xe s
section
variable {X:Cx}{pos:Pos}
def gName (i:Nat):TG:=fun v σ H Q=>Q (σ.set i (some v)) H
theorem pg_name {i:Nat}{x:Str}(hN:X.N.Nodup) (hi:X.N[i]?=some x) (hx:Loc X.env.scope x) (hf:X.fn x=true∨X.env.scope.names.lookup x=some .local:=by first|exact .inl rfl|exact .inr rfl|assumption):PG X (.Name x pos) (gName i):=by
 intro pins s σ H v u Q I r h;exact wpAny_assign_Name (store_ok I hN hi hx r (fun s' I'=>⟨_,H,I',h⟩) hf)
def gNil:TGs:=fun vs σ H Q=>vs = []∧Q σ H
def gCons (t:TG) (u:TGs):TGs:=fun vs σ H Q=>∃v r,vs=v::r∧t v σ H fun σ' H'=>u r σ' H' Q
theorem pgs_nil:PGs X [] gNil:=by
 intro pins s σ H vs us Q I r h;obtain ⟨e,h⟩:=h;subst e;cases r;exact assignInOrder_nil ⟨σ,H,I,h⟩
theorem pgs_cons {e:Expr}{es:List Expr}{t:TG}{u:TGs}(h1:PG X e t) (h2:PGs X es u)
  (hs:(assignEach (e::es) X.env).map (·.2)=assign e X.env::(assignEach es X.env).map (·.2):=by rfl):PGs X (e::es) (gCons t u):=by
 intro pins s σ H vs us Q I r h;obtain ⟨v,vr,e1,h⟩:=h;subst e1;cases r with
 | cons r rr =>
  rw [hs];refine assignInOrder_cons (thn (h1 pins s σ H _ _ _ I r h) fun _ s1 ⟨σ1,H1,I1,q1⟩=>?_);exact h2 pins s1 σ1 H1 _ _ Q I1 rr q1
def gTup (K:PySem.W.Frag) (n:Nat) (t:TGs):TG:=fun v σ H Q=>∃a xs,v=.ref a∧SqT K H a xs∧xs.length=n∧t xs σ H Q
theorem pg_tup {es:List Expr}{k:Nat}{t:TGs}{n:Nat}(hc:X.calm=true) (h:PGs X es t)
  (hn:(assignEach es X.env).length=n:=by rfl) (hst:(assignEach es X.env).findIdx? (·.1)=none:=by rfl):PG X (.Tuple es k pos) (gTup X.K n t):=by
 intro pins s σ H v u Q I r hw;obtain ⟨a,xs,e1,hq,hl,hw⟩:=hw;subst e1;cases r;obtain ⟨its,rv,ht,hz⟩:=I.tuple hq;refine assign_Tuple_tuple (I.ok.hd hc) ht (by simp [hn,←hl,rv.length]) hst fun h' hx=>?_;have I1:Inv X pins σ H { s with heap:=h' }:=I.kept (t':=s.toks) fun b o e=>hx b o (Nat.ne_of_lt (Heap.lt_size e)) e;exact h pins _ σ H xs _ Q I1 (by simpa using rv) hw
def tAsg (te:TE) (g:TG):TS:=fun D σ H=>te σ H fun x H1=>g x σ H1 D.nx
theorem ps_set {i:Nat}{x:Str}{e:Expr}{te:TE}{pos':Pos}(hN:X.N.Nodup) (hi:X.N[i]?=some x) (hx:Loc X.env.scope x) (he:PE X e te) (hs:swapsWith e (some (.Name x pos')) pos.line X.env=pure false:=by rfl) (hf:X.fn x=true∨X.env.scope.names.lookup x=some .local:=by first|exact .inl rfl|exact .inr rfl|assumption) :
  PS X (.Assign [.Name x pos'] e pos) (tAsg te (gName i)):=by
 intro pins s σ H D I h;refine wpAny_Assign_Name (thn (he pins s σ H _ I h) fun v s1 ⟨y,H1,I1,r1,q1⟩=>?_) hs;exact store_ok I1 hN hi hx r1 (fun s2 I2=>⟨_,H1,I2,q1⟩) hf
end
structure It where
 go:Nat→Hp→Prop
 yld:Nat→Hp→V→Hp→Prop
 stop:Nat→Hp→Prop
def FpOk (X:Cx) (pins:List (Addr×Obj)) (H:Hp) (b:Addr):Prop :=
 H b=none∧b≠X.env.locals∧b∉X.fs∧(b∈X.ex∨X.s₀.heap.objs.size≤b)∧(∀x c,X.env.cells.lookup x=some c→c≠b)∧∀p∈X.pn++pins,p.1≠b
theorem Inv.fpOk {X:Cx}{pins:List (Addr×Obj)}{σ:St}{H H':Hp}{s:Shared}{b:Addr}(I:Inv X pins σ H s) (hb:s.heap.objs.size≤b) (hn:H' b=none):FpOk X pins H' b:=by
 refine ⟨hn,Nat.ne_of_gt (Nat.lt_of_lt_of_le I.lt hb),I.nofs hb,.inr (Nat.le_trans I.sz hb),fun x c e z=>?_,fun p hp z=>?_⟩
 ·obtain ⟨v,q⟩:=I.cell x c e
  exact absurd (Nat.lt_of_lt_of_le q.lt (by rw [z];exact hb)) (Nat.lt_irrefl _)
 ·exact absurd (Nat.lt_of_lt_of_le (Heap.lt_size (I.pin p hp).1) (by rw [z];exact hb)) (Nat.lt_irrefl _)
structure Turn (P:Program) (w:World) (K:PySem.W.Frag) (tg:Expr) (J:It) (fp:List Addr) (it:Addr) (tn:Nat→Heap→Prop):Prop where
 mem:it∈fp
 obj:∀i h,tn i h→∀b∈fp,∃o,h.get? b=some o∧∀v,o.data≠.cell v
 keep:∀i h h',tn i h→(∀b∈fp,∀o,h.get? b=some o→h'.get? b=some o)→tn i h'
 item:∀(X:Cx),X.prog=P→X.w=w→X.K=K→X.calm=true→∀(i:Nat) (pins:List (Addr×Obj)) (s:Shared) (σ:St) (H:Hp) (E:Value→Shared→Prop),Inv X pins σ H s→(∀b∈fp,FpOk X pins H b)→tn i s.heap→J.go i H →
  wpAny (model P w) X.A (pyNext (.ref it)) (fun r s1=>∃u,r=some u ∧
   wpAny (model P w) X.A (letOwnedTupleGo tg (.ref it) u) (fun _ s2=>∃x H',Inv X pins σ H' s2∧RelV x u∧J.yld i H x H'∧tn (i+1) s2.heap∧∀b∈fp,H' b=none) E s1) E s
 done:∀(X:Cx),X.prog=P→X.w=w→X.K=K→X.calm=true→∀(i:Nat) (pins:List (Addr×Obj)) (s:Shared) (σ:St) (H:Hp) (E:Value→Shared→Prop),Inv X pins σ H s→(∀b∈fp,FpOk X pins H b)→tn i s.heap→J.stop i H →
  wpAny (model P w) X.A (pyNext (.ref it)) (fun r s1=>r=none∧Inv X pins σ H s1) E s
 self:∀(A:Around) (i:Nat) (s:Shared) (Q:Value→Shared→Prop) (E:Value→Shared→Prop),tn i s.heap→Q (.ref it) s→wpAny (model P w) A (pyIter (.ref it)) Q E s
abbrev TI:=St→Hp→(It→Hp→Prop)→Prop
def PIE (X:Cx) (pins:List (Addr×Obj)) (σ:St) (tg:Expr) (R:It→Hp→Prop) (itv:Value) (s2:Shared):Prop :=
 ∃(it:Addr) (fp:List Addr) (tn:Nat→Heap→Prop) (J:It) (H':Hp),itv=.ref it∧Inv X pins σ H' s2∧Turn X.prog X.w X.K tg J fp it tn∧tn 0 s2.heap∧(∀b∈fp,FpOk X pins H' b)∧R J H'
def PI (X:Cx) (tg iter:Expr) (wi:TI):Prop :=
 ∀(pins:List (Addr×Obj)) (s:Shared) (σ:St) (H:Hp) (R:It→Hp→Prop),Inv X pins σ H s→wi σ H R →
  wpAny (model X.prog X.w) X.A (eval iter X.env) (fun v s1=>wpAny (model X.prog X.w) X.A (pyIter v) (PIE X pins σ tg R) X.xe s1) X.xe s
theorem go_of {M:Model}{A:Around}{E:Value→Shared→Prop}{s:Shared}{tg:Expr}{it:Addr}{u:Value}{o:Obj}{n:String}{vs:Array Value}{Q:Unit→Shared→Prop}(ho:s.heap.get? it=some o) (hc:o.cls=.type n) (hd:o.data=.fields vs)
    (hn:["enumerate","zip","dict_itemiterator","dict_reverseitemiterator","odict_iterator","itertools.zip_longest","itertools.pairwise"].contains n=false) (hQ:Q () s):wpAny M A (letOwnedTupleGo tg (.ref it) u) Q E s:=by
  unfold letOwnedTupleGo;cases tg<;>first
    | exact wpAny_pure hQ
    | (cases u<;>first
        | exact wpAny_pure hQ
        | (refine wpAny_bind (wpAny_load ho ?_)
           rw [hc,hd];show wpAny M A (if (["enumerate","zip","dict_itemiterator","dict_reverseitemiterator","odict_iterator","itertools.zip_longest","itertools.pairwise"].contains n&&vs[0]? == some (rawInt _))=true then _ else _) Q E s;rw [if_neg (by intro h;rw [hn,Bool.false_and] at h;cases h)];exact wpAny_pure hQ))
def Itl (K:PySem.W.Frag) (a:Addr):It :=
 ⟨fun i H=>∃xs x,SqL K H a xs∧xs[i]?=some x,fun i H x H'=>H'=H∧∀xs,SqL K H a xs→xs[i]?=some x,fun i H=>∃xs,SqL K H a xs∧xs.length≤i⟩
def Itt (K:PySem.W.Frag) (a:Addr):It :=
 ⟨fun i H=>∃xs x,SqT K H a xs∧xs[i]?=some x,fun i H x H'=>H'=H∧∀xs,SqT K H a xs→xs[i]?=some x,fun i H=>∃xs,SqT K H a xs∧xs.length≤i⟩
def Itr (lo:Int) (n:Nat):It:=⟨fun i _=>i < n,fun i H x H'=>H'=H∧x=.int (lo+i),fun i _=>n≤i⟩
theorem turn_list {P:Program}{w:World}{K:PySem.W.Frag}{tg:Expr}(a it:Addr):Turn P w K tg (Itl K a) [it] it (fun i h=>h.IsListIter it a i) where
 mem:=by simp
 obj:=fun i h st b hb=>by
  have e:b=it:=by simpa using hb
  subst e;obtain ⟨o,e,c,d⟩:=st;exact ⟨o,e,fun v z=>by rw [d] at z;cases z⟩
 keep:=fun i h h' st k=>st.at fun o e=>k it (by simp) o e
 item:=by
  intro X hP hw hK hc i pins s σ H E I hf st hg;subst hP hw hK;obtain ⟨xs,x,hq,hx⟩:=hg;obtain ⟨its,rv,p,hz⟩:=I.list hq;obtain ⟨u,hu,ru⟩:=rv.get hx;obtain ⟨f0,f1,f2,f3,f4,f5⟩:=hf it (by simp);refine wpAny_pyNext_list_item st p.isList (x:=u) (by simpa using hu) fun h' st' sb=>?_;have I1:Inv X pins σ H { s with heap:=h' }:=I.turned (t':=s.toks) (fun b o hb e=>(sb.2 b hb).trans e) f0 f1 f3 f4 f5;obtain ⟨o,e,c,d⟩:=id st';exact ⟨u,rfl,go_of (s:={ s with heap:=h' }) e c d (by decide) ⟨x,H,I1,ru,⟨rfl,fun ys hy=>by rw [I.list_inj hy hq];exact hx⟩,st',fun b hb=>(hf b hb).1⟩⟩
 done:=by
  intro X hP hw hK hc i pins s σ H E I hf st hg;subst hP hw hK;obtain ⟨xs,hq,hx⟩:=hg;obtain ⟨its,rv,p,hz⟩:=I.list hq;obtain ⟨f0,f1,f2,f3,f4,f5⟩:=hf it (by simp);have hl:=rv.length;exact wpAny_pyNext_list_end (I.ok.hd hc) st p.isList (by simp;omega) fun h' eb=>⟨rfl,I.turned (t':=s.toks) (fun b o hb e=>eb b o hb e) f0 f1 f3 f4 f5⟩
 self:=fun _ _ _ _ _ st h=>wpAny_pyIter_listiter st h
theorem turn_tuple {P:Program}{w:World}{K:PySem.W.Frag}{tg:Expr}(a it:Addr):Turn P w K tg (Itt K a) [it] it (fun i h=>h.IsTupleIter it a i) where
 mem:=by simp
 obj:=fun i h st b hb=>by
  have e:b=it:=by simpa using hb
  subst e;obtain ⟨o,e,c,d⟩:=st;exact ⟨o,e,fun v z=>by rw [d] at z;cases z⟩
 keep:=fun i h h' st k=>st.at fun o e=>k it (by simp) o e
 item:=by
  intro X hP hw hK hc i pins s σ H E I hf st hg;subst hP hw hK;obtain ⟨xs,x,hq,hx⟩:=hg;obtain ⟨its,rv,p,hz⟩:=I.tuple hq;obtain ⟨u,hu,ru⟩:=rv.get hx;obtain ⟨f0,f1,f2,f3,f4,f5⟩:=hf it (by simp);refine wpAny_pyNext_tuple_item st (show s.heap.IsTuple a its.toArray from p) (x:=u) (by simpa using hu) fun h' st' sb=>?_;have I1:Inv X pins σ H { s with heap:=h' }:=I.turned (t':=s.toks) (fun b o hb e=>(sb.2 b hb).trans e) f0 f1 f3 f4 f5;obtain ⟨o,e,c,d⟩:=id st';exact ⟨u,rfl,go_of (s:={ s with heap:=h' }) e c d (by decide) ⟨x,H,I1,ru,⟨rfl,fun ys hy=>by rw [I.tuple_inj hy hq];exact hx⟩,st',fun b hb=>(hf b hb).1⟩⟩
 done:=by
  intro X hP hw hK hc i pins s σ H E I hf st hg;subst hP hw hK;obtain ⟨xs,hq,hx⟩:=hg;obtain ⟨its,rv,p,hz⟩:=I.tuple hq;obtain ⟨f0,f1,f2,f3,f4,f5⟩:=hf it (by simp);have hl:=rv.length;exact wpAny_pyNext_tuple_end (I.ok.hd hc) st (show s.heap.IsTuple a its.toArray from p) (by simp;omega) fun h' eb=>⟨rfl,I.turned (t':=s.toks) (fun b o hb e=>eb b o hb e) f0 f1 f3 f4 f5⟩
 self:=fun _ _ _ _ _ st h=>wpAny_pyIter_tupleiter st h
theorem turn_range {P:Program}{w:World}{K:PySem.W.Frag}{tg:Expr}(it:Addr) (lo:Int) (n:Nat):Turn P w K tg (Itr lo n) [it] it (fun i h=>IsRangeIter h it (lo + (i:Nat) * 1) ((n:Int) - (i:Nat)) 1) where
 mem:=by simp
 obj:=fun i h st b hb=>by
  have e:b=it:=by simpa using hb
  subst e;exact ⟨_,st,fun v z=>by
   have z':Data.fields _=Data.cell v:=z;cases z'⟩
 keep:=fun i h h' st k=>k it (by simp) _ st
 item:=by
  intro X hP hw hK hc i pins s σ H E I hf st hg;subst hP hw hK;obtain ⟨f0,f1,f2,f3,f4,f5⟩:=hf it (by simp);have W:=Walks.range (prog:=X.prog) (w:=X.w) (I.ok.hd hc) it lo 1 n;refine W.item i s _ _ hg st fun v h' tk hv st' kk=>?_;obtain ⟨t,rfl⟩:=hv;have I1:Inv X pins σ H { s with heap:=h',toks:=tk }:=I.turned (fun b o hb e=>kk b o (by simpa using hb) e) f0 f1 f3 f4 f5;refine ⟨_,rfl,go_of (s:={ s with heap:=h',toks:=tk }) (n:="range_iterator") st' rfl rfl (by decide) ⟨.int (lo+i),H,I1,⟨t,?_⟩,⟨rfl,rfl⟩,st',fun b hb=>(hf b hb).1⟩⟩;rw [Int.mul_one]
 done:=by
  intro X hP hw hK hc i pins s σ H E I hf st hg;subst hP hw hK;obtain ⟨f0,f1,f2,f3,f4,f5⟩:=hf it (by simp);exact wpAny_pyNext_range_end (I.ok.hd hc) st (by have:n≤i:=hg;omega) fun h' eb=>⟨rfl,I.turned (t':=s.toks) (fun b o hb e=>eb b o hb e) f0 f1 f3 f4 f5⟩
 self:=fun _ _ _ _ _ st h=>wpAny_pyIter_rangeiter st h
section
variable {X:Cx}{tg:Expr}
def iList (K:PySem.W.Frag) (tl:TE):TI:=fun σ H R=>tl σ H fun x H1=>∃a,x=.ref a∧(∃xs,SqL K H1 a xs)∧R (Itl K a) H1
def iTup (K:PySem.W.Frag) (tl:TE):TI:=fun σ H R=>tl σ H fun x H1=>∃a,x=.ref a∧(∃xs,SqT K H1 a xs)∧R (Itt K a) H1
theorem pi_list {l:Expr}{tl:TE}(hl:PE X l tl):PI X tg l (iList X.K tl):=by
 intro pins s σ H R I h;refine thn (hl pins s σ H _ I h) fun v s1 ⟨x,H1,I1,r1,q1⟩=>?_;obtain ⟨a,e,⟨xs,hq⟩,q⟩:=q1;subst e;cases r1;obtain ⟨its,rv,p,hz⟩:=I1.list hq;refine wpAny_pyIter_list p.isList ?_;refine ⟨s1.heap.objs.size,[s1.heap.objs.size],_,_,H1,rfl,I1.kept (t':=s1.toks) fun b o e=>Heap.get?_push_of_some _ e,turn_list a _,⟨_,Heap.get?_push_size _ rfl,rfl,rfl⟩,fun b hb=>?_,q⟩;have e:b=s1.heap.objs.size:=by simpa using hb
 subst e;exact I1.fpOk (Nat.le_refl _) (I1.hok.fresh (Nat.le_refl _))
theorem pi_tup {l:Expr}{tl:TE}(hl:PE X l tl):PI X tg l (iTup X.K tl):=by
 intro pins s σ H R I h;refine thn (hl pins s σ H _ I h) fun v s1 ⟨x,H1,I1,r1,q1⟩=>?_;obtain ⟨a,e,⟨xs,hq⟩,q⟩:=q1;subst e;cases r1;obtain ⟨its,rv,p,hz⟩:=I1.tuple hq;refine wpAny_pyIter_tuple (show s1.heap.IsTuple a its.toArray from p) ?_;refine ⟨s1.heap.objs.size,[s1.heap.objs.size],_,_,H1,rfl,I1.kept (t':=s1.toks) fun b o e=>Heap.get?_push_of_some _ e,turn_tuple a _,⟨_,Heap.get?_push_size _ rfl,rfl,rfl⟩,fun b hb=>?_,q⟩;have e:b=s1.heap.objs.size:=by simpa using hb
 subst e;exact I1.fpOk (Nat.le_refl _) (I1.hok.fresh (Nat.le_refl _))
theorem range_it {pins:List (Addr×Obj)}{σ:St}{H:Hp}{s:Shared}{R:It→Hp→Prop}{E:Value→Shared→Prop}{lo hi:Int}{t u v:Tok}{tk:Nat}(I:Inv X pins σ H s) (h1:-(2 ^ 62)≤lo) (h2:lo < 2 ^ 62) (h3:-(2 ^ 62)≤hi) (h4:hi < 2 ^ 62)
  (q:R (Itr lo (hi - lo).toNat) H):wpAny (model X.prog X.w) X.A (pyIter (.ref s.heap.objs.size)) (PIE X pins σ tg R) E { s with heap:=s.heap.push { cls:=.type "range",data:=.fields #[.int lo t,.int hi u,.int 1 v] },toks:=tk }:=by
 refine wpAny_pyIter_range (IsRange.new ..) (small_one h1 h2 h3 h4) ?_;have I1:Inv X pins σ H { s with heap:=s.heap.push { cls:=.type "range",data:=.fields #[.int lo t,.int hi u,.int 1 v] },toks:=tk }:=I.kept fun b o e=>Heap.get?_push_of_some _ e;refine ⟨(s.heap.push { cls:=.type "range",data:=.fields #[.int lo t,.int hi u,.int 1 v] }).objs.size,[(s.heap.push { cls:=.type "range",data:=.fields #[.int lo t,.int hi u,.int 1 v] }).objs.size],_,_,H,rfl,
  I1.kept (t':=tk) fun b o e=>Heap.get?_push_of_some _ e,turn_range _ lo (hi - lo).toNat,?_,fun b hb=>?_,q⟩
 ·have e1:lo + ((0:Nat):Int) * 1=lo:=by simp
  have e2:(((hi - lo).toNat:Nat):Int) - ((0:Nat):Int)=Builtin.Range.rangeSize lo hi 1:=by rw [rangeSize_one];split<;>omega
  show IsRangeIter _ _ (lo + ((0:Nat):Int) * 1) ((((hi - lo).toNat:Nat):Int) - ((0:Nat):Int)) 1;rw [e1,e2];exact Heap.get?_push_size _ rfl
 ·have e:b=(s.heap.push { cls:=.type "range",data:=.fields #[.int lo t,.int hi u,.int 1 v] }).objs.size:=by simpa using hb
  subst e;exact I1.fpOk (Nat.le_refl _) (I1.hok.fresh (Nat.le_refl _))
def iRng1 (ta:TA):TI:=fun σ H R=>ta σ H fun vs H1=>∃j:Int,vs = [.int j]∧-(2 ^ 62)≤j∧j < 2 ^ 62∧R (Itr 0 j.toNat) H1
theorem pi_range1 {a:Expr}{ta:TA}{p pos:Pos}(hg:Gl X "range") (hm:X.mg "range" = none) (ha:PA X [a] ta) (hs:starEach [a] X.env = [(false,eval a X.env)]:=by rfl):PI X tg (.Call (.Name "range" p) [a] [] pos) (iRng1 ta):=by
 intro pins s σ H R I h;refine Call_ (ld_blt I hg hm boot_range (PyProof.Rows.callWith_type1 (thn (ha pos pins s σ H _ I h) fun us s1 ⟨vs,H1,I1,r1,q1⟩=>?_) hs rfl));obtain ⟨j,e,q1,q2,q⟩:=q1;subst e;cases r1 with
 | cons r rr =>
  cases rr;obtain ⟨t,rfl⟩:=r;exact call_range_1 (range_it I1 (by omega) (by omega) q1 q2 (by simpa using q))
def tFor (wi:TI) (g:TG) (tb:TS):TS:=fun D σ H=>wi σ H fun J H1=>∃W:Nat→Nat→St→Hp→Prop,(∃m,W 0 m σ H1)∧∀i m σ H,W i m σ H →
 (J.stop i H∧D.nx σ H)∨(J.go i H∧∃N:St→Hp→Prop,(∀σ' H',N σ' H'→∃m',m' < m∧W (i+1) m' σ' H')∧∀x H',J.yld i H x H'→g x σ H' fun σ2 H2=>tb { D with nx:=N,ct:=N,bk:=D.nx } σ2 H2)
def pinsAt (fp:List Addr) (h:Heap):List (Addr×Obj):=fp.filterMap fun b=>(h.get? b).map fun o=>(b,o)
theorem mem_pinsAt {fp:List Addr}{h:Heap}{b:Addr}{o:Obj}(hb:b∈fp) (e:h.get? b=some o):(b,o)∈pinsAt fp h:=List.mem_filterMap.mpr ⟨b,hb,by rw [e];rfl⟩
theorem of_pinsAt {fp:List Addr}{h:Heap}{p:Addr×Obj}(hp:p∈pinsAt fp h):p.1∈fp∧h.get? p.1=some p.2:=by
 obtain ⟨b,hb,e⟩:=List.mem_filterMap.mp hp;cases q:h.get? b with
 | none=>rw [q] at e;cases e
 | some o =>
  rw [q] at e;have e':(b,o)=p:=Option.some.inj e;subst e';exact ⟨hb,q⟩
theorem Inv.pinned {pins:List (Addr×Obj)}{σ:St}{H:Hp}{s:Shared}{fp:List Addr}(I:Inv X pins σ H s) (hf:∀b∈fp,FpOk X pins H b) (ho:∀b∈fp,∃o,s.heap.get? b=some o∧∀v,o.data≠.cell v):Inv X (pins++pinsAt fp s.heap) σ H s :=
 I.pins_of fun p hp=>(Zd1.mp hp).elim (fun z=>I.pin p (List.mem_append_right _ z)) fun z=>by
  obtain ⟨hb,e⟩:=of_pinsAt z;obtain ⟨f0,f1,f2,_⟩:=hf p.1 hb;obtain ⟨o,e',d⟩:=ho p.1 hb;rw [e] at e';cases e';exact ⟨e,f0,f1,f2,d⟩
theorem Inv.unpinned {pins pl:List (Addr×Obj)}{σ:St}{H:Hp}{s:Shared}(I:Inv X (pins++pl) σ H s):Inv X pins σ H s:=I.pins_of fun p hp=>I.pin p (List.mem_append_right _ (List.mem_append_left _ hp))
theorem ps_for {iter:Expr}{body:List Stmt}{wi:TI}{g:TG}{tb:TS}{pos:Pos}(hp:PassesOwn (model X.prog X.w) X.A X.env X.xe) (hc:X.calm=true) (hi:PI X tg iter wi) (hg:PG X tg g) (hb:PSs X body tb)
  (hs:∀x,foldedSetIterable iter X.env x=pure x:=by intro _;rfl):PS X (.For tg iter body [] pos) (tFor wi g tb):=by
 intro pins s σ H D I h;refine wpAny_For (thn (hi pins s σ H _ I h) fun v s1 h1=>thn h1 fun itv s2 h2=>?_) hs;obtain ⟨it,fp,tn,J,H2,e,I2,T,st2,f2,W,⟨m0,w0⟩,turn⟩:=h2;subst e;have stat:∀{H':Hp},(∀b∈fp,H' b=none)→∀b∈fp,FpOk X pins H' b:=fun hn b hb=>⟨hn b hb,(f2 b hb).2⟩
 refine codeAny_forLoop_any (fun n s'=>∃i σ' H',Inv X pins σ' H' s'∧tn i s'.heap∧(∀b∈fp,H' b=none)∧W i n σ' H') ?_ m0 ⟨0,σ,H2,I2,st2,fun b hb=>(f2 b hb).1,w0⟩;rintro n s3 ⟨i,σ3,H3,I3,st3,fr3,w3⟩;rcases turn i n σ3 H3 w3 with ⟨stop,qn⟩|⟨go,N,hN,step⟩
 ·refine wpAny_passesOwn hp (thn (T.done X rfl rfl rfl hc i pins s3 σ3 H3 X.xe I3 (stat fr3) st3 stop) fun r s4 ⟨hr,I4⟩=>?_)
  subst hr;exact wpAny_execs_nil ⟨σ3,H3,I4,qn⟩
 ·refine wpAny_passesOwn hp (thn (T.item X rfl rfl rfl hc i pins s3 σ3 H3 X.xe I3 (stat fr3) st3 go) fun r s4 ⟨u,hr,h4⟩=>?_)
  subst hr;refine wpAny_passesOwn hp (thn h4 fun _ s5 ⟨x,H5,I5,r5,y5,st5,fr5⟩=>?_);have I5':=I5.pinned (stat fr5) (T.obj _ _ st5);refine wpAny_passesOwn hp (thn (hg _ s5 σ3 H5 x u _ I5' r5 (step x H5 y5)) fun _ s6 ⟨σ6,H6,I6,q6⟩=>?_);refine wpAny_passesOwn hp (thn (hb _ s6 σ6 H6 _ I6 q6) fun f s7 q7=>?_);have again:∀{σ7:St}{H7:Hp},Inv X (pins++pinsAt fp s5.heap) σ7 H7 s7→N σ7 H7→∃m,m < n∧∃i σ' H',Inv X pins σ' H' s7∧tn i s7.heap∧(∀b∈fp,H' b=none)∧W i m σ' H':=fun {σ7 H7} I7 n7=>by
   obtain ⟨m',hm,w7⟩:=hN σ7 H7 n7;refine ⟨m',hm,i+1,σ7,H7,I7.unpinned,T.keep _ _ _ st5 fun b hb o e=>(I7.pin (b,o) (List.mem_append_right _ (List.mem_append_right _ (mem_pinsAt hb e)))).1,fun b hb=>?_,w7⟩;obtain ⟨o,e,d⟩:=T.obj _ _ st5 b hb;exact (I7.pin (b,o) (List.mem_append_right _ (List.mem_append_right _ (mem_pinsAt hb e)))).2.1
  cases f with
  | next=>obtain ⟨σ7,H7,I7,n7⟩:=q7;exact again I7 n7
  | cont=>obtain ⟨σ7,H7,I7,n7⟩:=q7;exact again I7 n7
  | brk=>obtain ⟨σ7,H7,I7,q7⟩:=q7;exact ⟨σ7,H7,I7.unpinned,q7⟩
  | ret v=>obtain ⟨x7,σ7,H7,I7,r7,q7⟩:=q7;exact ⟨x7,σ7,H7,I7.unpinned,r7,q7⟩
end
abbrev R2:=V→V→Hp→VK→Prop
def OpR (X:Cx) (f:Value→Value→Sem Value) (r:R2):Prop :=
 ∀(pins:List (Addr×Obj)) (s:Shared) (σ:St) (H:Hp) (x y:V) (v u:Value) (Q:VK),Inv X pins σ H s→RelV x v→RelV y u→r x y H Q →
  wpAny (model X.prog X.w) X.A (f v u) (EP X pins σ Q) X.xe s
def UnR (X:Cx) (f:Value→Sem Value) (r:V→Hp→VK→Prop):Prop :=
 ∀(pins:List (Addr×Obj)) (s:Shared) (σ:St) (H:Hp) (x:V) (v:Value) (Q:VK),Inv X pins σ H s→RelV x v→r x H Q →
  wpAny (model X.prog X.w) X.A (f v) (EP X pins σ Q) X.xe s
def CallR (X:Cx) (f:Value) (r:List V→Hp→VK→Prop):Prop :=
 ∀(pins:List (Addr×Obj)) (s:Shared) (σ:St) (H:Hp) (xs:List V) (us:List Value) (Q:VK),Inv X pins σ H s→Vals xs us→r xs H Q →
  wpAny (model X.prog X.w) X.A (call f us) (EP X pins σ Q) X.xe s
def tOp (r:R2) (ta tb:TE):TE:=fun σ H Q=>ta σ H fun x H1=>tb σ H1 fun y H2=>r x y H2 Q
def tUn (r:V→Hp→VK→Prop) (ta:TE):TE:=fun σ H Q=>ta σ H fun x H1=>r x H1 Q
def rI (C:Int→Int→Prop) (g:Int→Int→V):R2:=fun x y H Q=>∃i j,x=.int i∧y=.int j∧C i j∧Q (g i j) H
def rI0 (g:Int→Int→V):R2:=fun x y H Q=>∃i j,x=.int i∧y=.int j∧Q (g i j) H
def rU (g:Int→V):V→Hp→VK→Prop:=fun x H Q=>∃i,x=.int i∧Q (g i) H
section
variable {X:Cx}{a b c:Expr}{ta tb tc:TE}{pos:Pos}
theorem binT (ha:PE X a ta) (hb:PE X b tb) {pins:List (Addr×Obj)}{s:Shared}{σ:St}{H:Hp}{R:V→V→Hp→Prop}(I:Inv X pins σ H s)
  (h:ta σ H fun x H1=>tb σ H1 fun y H2=>R x y H2) {Q:Value→Shared→Prop}{f:Value→Value→Sem Value}
  (hf:∀v u s2 x y H2,Inv X pins σ H2 s2→RelV x v→RelV y u→R x y H2→wpAny (model X.prog X.w) X.A (f v u) Q X.xe s2) :
  wpAny (model X.prog X.w) X.A (eval a X.env) (fun v s₁=>wpAny (model X.prog X.w) X.A (eval b X.env) (fun u s₂=>wpAny (model X.prog X.w) X.A (f v u) Q X.xe s₂) X.xe s₁) X.xe s:=by
 refine thn (ha pins s σ H _ I h) fun v s1 ⟨x,H1,I1,r1,q1⟩=>?_;refine thn (hb pins s1 σ H1 _ I1 q1) fun u s2 ⟨y,H2,I2,r2,q2⟩=>?_;exact hf v u s2 x y H2 I2 r1 r2 q2
theorem pe_op {op:Operator}{r:R2}(ho:OpR X (binaryOp op) r) (ha:PE X a ta) (hb:PE X b tb):PE X (.BinOp a op b pos) (tOp r ta tb):=by
 intro pins s σ H Q I h;exact wpAny_BinOp (binT ha hb I h fun v u s2 x y H2 I2 rx ry q=>ho pins s2 σ H2 x y v u Q I2 rx ry q)
theorem pe_un {op:UnaryOp}{r:V→Hp→VK→Prop}(ho:UnR X (unaryOp op) r) (ha:PE X a ta):PE X (.UnaryOp op a pos) (tUn r ta):=by
 intro pins s σ H Q I h;exact UnaryOp_ (thn (ha pins s σ H _ I h) fun v s1 ⟨x,H1,I1,r1,q1⟩=>ho pins s1 σ H1 x v Q I1 r1 q1)
theorem opI {f:Value→Value→Sem Value}{C:Int→Int→Prop}{g:Int→Int→Int}
  (rule:∀(i j:Int) (t u:Tok) (s:Shared) (Q:Value→Shared→Prop) (E:Value→Shared→Prop),C i j→Q (.int (g i j) s.toks) { s with toks:=s.toks+1 }→wpAny (model X.prog X.w) X.A (f (.int i t) (.int j u)) Q E s) :
  OpR X f (rI C fun i j=>.int (g i j)):=by
 intro pins s σ H x y v u Q I rx ry h;obtain ⟨i,j,rfl,rfl,hc,q⟩:=h;obtain ⟨t,rfl⟩:=rx;obtain ⟨t',rfl⟩:=ry;exact rule i j t t' s _ _ hc ⟨.int (g i j),H,I.tok _,⟨_,rfl⟩,q⟩
theorem opI0 {f:Value→Value→Sem Value}{g:Int→Int→Int}
  (rule:∀(i j:Int) (t u:Tok) (s:Shared) (Q:Value→Shared→Prop) (E:Value→Shared→Prop),Q (.int (g i j) s.toks) { s with toks:=s.toks+1 }→wpAny (model X.prog X.w) X.A (f (.int i t) (.int j u)) Q E s) :
  OpR X f (rI0 fun i j=>.int (g i j)):=by
 intro pins s σ H x y v u Q I rx ry h;obtain ⟨i,j,rfl,rfl,q⟩:=h;obtain ⟨t,rfl⟩:=rx;obtain ⟨t',rfl⟩:=ry;exact rule i j t t' s _ _ ⟨.int (g i j),H,I.tok _,⟨_,rfl⟩,q⟩
theorem opB0 {f:Value→Value→Sem Value}{g:Int→Int→Bool}
  (rule:∀(i j:Int) (t u:Tok) (s:Shared) (Q:Value→Shared→Prop) (E:Value→Shared→Prop),Q (.bool (g i j)) s→wpAny (model X.prog X.w) X.A (f (.int i t) (.int j u)) Q E s) :
  OpR X f (rI0 fun i j=>.bl (g i j)):=by
 intro pins s σ H x y v u Q I rx ry h;obtain ⟨i,j,rfl,rfl,q⟩:=h;obtain ⟨t,rfl⟩:=rx;obtain ⟨t',rfl⟩:=ry;exact rule i j t t' s _ _ ⟨.bl (g i j),H,I,rfl,q⟩
def CDiv (i j:Int):Prop:=0 < j∧j < 1073741824
def CPow (i j:Int):Prop:=0≤j∧j≤1000000∧i.natAbs < 2 ^ 64
theorem op_add:OpR X (binaryOp .Add) (rI0 fun i j=>.int (i+j)):=opI0 fun _ _ _ _ _ _ _ q=>add_int q
theorem op_sub:OpR X (binaryOp .Sub) (rI0 fun i j=>.int (i - j)):=opI0 fun _ _ _ _ _ _ _ q=>sub_int q
theorem op_fdiv:OpR X (binaryOp .FloorDiv) (rI CDiv fun i j=>.int (i / j)):=opI fun i j _ _ _ _ _ hc q=>by
 have h1:(0:Int) < j:=hc.1;have h2:j < 1073741824:=hc.2;exact floordiv_int (by omega) (by rw [Int.fdiv_eq_ediv_of_nonneg i (by omega)];exact q) (.inl (PyProof.noPylong_small (by omega)))
theorem op_mod:OpR X (binaryOp .Mod) (rI (fun _ j=>0 < j) fun i j=>.int (i % j)):=opI fun i j _ _ _ _ _ hc q=>by
 have h1:(0:Int) < j:=hc;exact mod_int' (by omega) (by rw [Int.fmod_eq_emod_of_nonneg i (by omega)];exact q)
theorem op_pow:OpR X (binaryOp .Pow) (rI CPow fun i j=>.int (i ^ j.toNat)):=opI fun _ _ _ _ _ _ _ hc q=>pow_int_small hc.1 hc.2.1 hc.2.2 q
theorem unI {f:Value→Sem Value}{g:Int→Int}
  (rule:∀(i:Int) (t:Tok) (s:Shared) (Q:Value→Shared→Prop) (E:Value→Shared→Prop),Q (.int (g i) s.toks) { s with toks:=s.toks+1 }→wpAny (model X.prog X.w) X.A (f (.int i t)) Q E s) :
  UnR X f (rU fun i=>.int (g i)):=by
 intro pins s σ H x v Q I rx h;obtain ⟨i,rfl,q⟩:=h;obtain ⟨t,rfl⟩:=rx;exact rule i t s _ _ ⟨.int (g i),H,I.tok _,⟨_,rfl⟩,q⟩
theorem un_neg:UnR X (unaryOp .USub) (rU fun i=>.int (-i)):=unI fun _ _ _ _ _ q=>neg_int q
end
def scal:V→V→Bool
 | .non,.non=>true | .non,.int _=>true | .int _,.non=>true | .non,.bl _=>true | .bl _,.non=>true | .non,.str _=>true | .str _,.non=>true
 | .int _,.int _=>true | .bl _,.bl _=>true | .str _,.str _=>true | .byt _,.byt _=>true
 | .int _,.str _=>true | .str _,.int _=>true | .bl _,.str _=>true | .str _,.bl _=>true
 | _,_=>false
def rEq:R2:=fun x y H Q=>scal x y=true∧Q (.bl (decide (x=y))) H
def rNe:R2:=fun x y H Q=>scal x y=true∧Q (.bl (!decide (x=y))) H
theorem dec_int {i j:Int}:decide (V.int i=V.int j)=(i==j):=by
 rw [Bool.eq_iff_iff];simp
theorem dec_bl {i j:Bool}:decide (V.bl i=V.bl j)=(i==j):=by
 rw [Bool.eq_iff_iff];simp
theorem dec_str {i j:Str}:decide (V.str i=V.str j)=(i==j):=by
 rw [Bool.eq_iff_iff];simp
theorem dec_byt {i j:Array UInt8}:decide (V.byt i=V.byt j)=(i.toList==j.toList):=by
 rw [Bool.eq_iff_iff];cases i;cases j;simp
section
variable {X:Cx}{a b c:Expr}{ta tb tc:TE}{pos:Pos}
theorem fin_bl {pins:List (Addr×Obj)}{σ:St}{H:Hp}{s:Shared}{Q:VK}{k k':Bool}(I:Inv X pins σ H s) (q:Q (.bl k) H) (e:k=k'):EP X pins σ Q (.bool k') s:=by
 subst e;exact ⟨.bl k,H,I,rfl,q⟩
theorem op_eq:OpR X (compareOp .Eq) rEq:=by
 intro pins s σ H x y v u Q I rx ry h;obtain ⟨hs,q⟩:=h;cases x with
 | non =>
  cases rx;cases y with
  | non=>cases ry;exact PySem.EqNone.eq_none_none (fin_bl I q (by simp))
  | bl j=>cases ry;exact PySem.EqNone.eq_none_bool (fin_bl I q (by simp))
  | int j=>obtain ⟨t',rfl⟩:=ry;exact PySem.EqNone.eq_none_int (fin_bl I q (by simp))
  | str j=>obtain ⟨t',rfl⟩:=ry;exact PySem.EqNone.eq_none_str (fin_bl I q (by simp))
  | _=>exact absurd (show false=true from hs) Zl
 | bl i =>
  cases rx;cases y with
  | non=>cases ry;exact PySem.EqNone.eq_bool_none (fin_bl I q (by simp))
  | bl j=>cases ry;exact eq_bool (fin_bl I q dec_bl)
  | str j=>obtain ⟨t',rfl⟩:=ry;exact PySem.EqMixed.eq_bool_str (fin_bl I q (by simp))
  | _=>exact absurd (show false=true from hs) Zl
 | int i =>
  obtain ⟨t,rfl⟩:=rx;cases y with
  | non=>cases ry;exact PySem.EqNone.eq_int_none (fin_bl I q (by simp))
  | int j=>obtain ⟨t',rfl⟩:=ry;exact eq_int (fin_bl I q dec_int)
  | str j=>obtain ⟨t',rfl⟩:=ry;exact PySem.EqMixed.eq_int_str (fin_bl I q (by simp))
  | _=>exact absurd (show false=true from hs) Zl
 | str i =>
  obtain ⟨t,rfl⟩:=rx;cases y with
  | non=>cases ry;exact PySem.EqNone.eq_str_none (fin_bl I q (by simp))
  | bl j=>cases ry;exact PySem.EqMixed.eq_str_bool (fin_bl I q (by simp))
  | int j=>obtain ⟨t',rfl⟩:=ry;exact PySem.EqMixed.eq_str_int (fin_bl I q (by simp))
  | str j=>obtain ⟨t',rfl⟩:=ry;exact eq_str (fin_bl I q dec_str)
  | _=>exact absurd (show false=true from hs) Zl
 | byt i =>
  obtain ⟨t,rfl⟩:=rx;cases y with
  | byt j=>obtain ⟨t',rfl⟩:=ry;exact PySem.W.eq_bytes (fin_bl I q dec_byt)
  | _=>exact absurd (show false=true from hs) Zl
 | _=>cases y<;>exact absurd (show false=true from hs) Zl
theorem op_ne:OpR X (compareOp .NotEq) rNe:=by
 intro pins s σ H x y v u Q I rx ry h;obtain ⟨hs,q⟩:=h;cases x with
 | non =>
  cases rx;cases y with
  | non=>cases ry;exact PySem.EqNone.ne_none_none (fin_bl I q (by simp))
  | bl j=>cases ry;exact PySem.EqNone.ne_none_bool (fin_bl I q (by simp))
  | int j=>obtain ⟨t',rfl⟩:=ry;exact PySem.EqNone.ne_none_int (fin_bl I q (by simp))
  | str j=>obtain ⟨t',rfl⟩:=ry;exact PySem.EqNone.ne_none_str (fin_bl I q (by simp))
  | _=>exact absurd (show false=true from hs) Zl
 | bl i =>
  cases rx;cases y with
  | non=>cases ry;exact PySem.EqNone.ne_bool_none (fin_bl I q (by simp))
  | bl j=>cases ry;exact ne_bool (fin_bl I q (congrArg not dec_bl))
  | str j=>obtain ⟨t',rfl⟩:=ry;exact PySem.EqMixed.ne_bool_str (fin_bl I q (by simp))
  | _=>exact absurd (show false=true from hs) Zl
 | int i =>
  obtain ⟨t,rfl⟩:=rx;cases y with
  | non=>cases ry;exact PySem.EqNone.ne_int_none (fin_bl I q (by simp))
  | int j=>obtain ⟨t',rfl⟩:=ry;exact ne_int (fin_bl I q (congrArg not dec_int))
  | str j=>obtain ⟨t',rfl⟩:=ry;exact PySem.EqMixed.ne_int_str (fin_bl I q (by simp))
  | _=>exact absurd (show false=true from hs) Zl
 | str i =>
  obtain ⟨t,rfl⟩:=rx;cases y with
  | non=>cases ry;exact PySem.EqNone.ne_str_none (fin_bl I q (by simp))
  | bl j=>cases ry;exact PySem.EqMixed.ne_str_bool (fin_bl I q (by simp))
  | int j=>obtain ⟨t',rfl⟩:=ry;exact PySem.EqMixed.ne_str_int (fin_bl I q (by simp))
  | str j=>obtain ⟨t',rfl⟩:=ry;exact ne_str (fin_bl I q (congrArg not dec_str))
  | _=>exact absurd (show false=true from hs) Zl
 | byt i =>
  obtain ⟨t,rfl⟩:=rx;cases y with
  | byt j=>obtain ⟨t',rfl⟩:=ry;exact PySem.W.ne_bytes (fin_bl I q (congrArg not dec_byt))
  | _=>exact absurd (show false=true from hs) Zl
 | _=>cases y<;>exact absurd (show false=true from hs) Zl
theorem op_lt:OpR X (compareOp .Lt) (rI0 fun i j=>.bl (decide (i < j))):=opB0 fun _ _ _ _ _ _ _ q=>lt_int q
theorem op_le:OpR X (compareOp .LtE) (rI0 fun i j=>.bl (decide (i≤j))):=opB0 fun _ _ _ _ _ _ _ q=>le_int q
theorem op_gt:OpR X (compareOp .Gt) (rI0 fun i j=>.bl (decide (j < i))):=opB0 fun _ _ _ _ _ _ _ q=>gt_int q
theorem op_ge:OpR X (compareOp .GtE) (rI0 fun i j=>.bl (decide (j≤i))):=opB0 fun _ _ _ _ _ _ _ q=>ge_int q
theorem nomark (b:Expr) {op:CmpOp}(h:op≠.In:=by decide) (h2:op≠.NotIn:=by decide):behindInMarks op b=false:=by
 have e1:(op==CmpOp.In)=false:=by cases op<;>first|rfl|exact absurd rfl h
 have e2:(op==CmpOp.NotIn)=false:=by cases op<;>first|rfl|exact absurd rfl h2
 cases b<;>simp [behindInMarks,e1,e2]
theorem pe_cmpR {op:CmpOp}{r:R2}(ho:OpR X (compareOp op) r) (ha:PE X a ta) (hb:PE X b tb) (hm:behindInMarks op b=false):PE X (.Compare a [op] [b] pos) (tOp r ta tb):=by
 intro pins s σ H Q I h;exact wpAny_Compare1 (binT ha hb I h fun v u s2 x y H2 I2 rx ry q=>ho pins s2 σ H2 x y v u Q I2 rx ry q) hm
def tTest (t:TE):TT:=fun σ H Q=>t σ H fun x H'=>∃k,x=.bl k∧Q k H'
theorem pt_cmpR {op:CmpOp}{r:R2}(ho:OpR X (compareOp op) r) (ha:PE X a ta) (hb:PE X b tb) (hm:behindInMarks op b=false):PT X (.Compare a [op] [b] pos) (tTest (tOp r ta tb)):=by
 intro pins s σ H Q I h;refine wpAny_isTrue_Compare1 (thn (ha pins s σ H _ I h) fun v s1 ⟨x,H1,I1,r1,q1⟩=>thn (hb pins s1 σ H1 _ I1 q1) fun u s2 ⟨y,H2,I2,r2,q2⟩ =>
  thn (ho pins s2 σ H2 x y v u _ I2 r1 r2 q2) fun c s3 ⟨z,H3,I3,r3,k,e,q3⟩=>?_) hm
 subst e;cases r3;exact wpAny_truthy_bool ⟨H3,I3,q3⟩
def tChain (r r':R2) (ta tb tc:TE):TE:=fun σ H Q=>ta σ H fun x H1=>tb σ H1 fun y H2=>r x y H2 fun z H3=>∃k,z=.bl k ∧
 (if k=true then tc σ H3 fun w' H4=>r' y w' H4 Q else Q (.bl false) H3)
theorem pe_chain {op op':CmpOp}{r r':R2}(ho:OpR X (compareOp op) r) (ho':OpR X (compareOp op') r') (ha:PE X a ta) (hb:PE X b tb) (hc:PE X c tc)
  (hm:lastMarks [op,op'] [b,c]=false:=by with_unfolding_all rfl):PE X (.Compare a [op,op'] [b,c] pos) (tChain r r' ta tb tc):=by
 intro pins s σ H Q I h;refine Compare_chain (thn (ha pins s σ H _ I h) fun v s1 ⟨x,H1,I1,r1,q1⟩=>chain_link (thn (hb pins s1 σ H1 _ I1 q1) fun u s2 ⟨y,H2,I2,r2,q2⟩ =>
  thn (ho pins s2 σ H2 x y v u _ I2 r1 r2 q2) fun d s3 ⟨z,H3,I3,r3,k,e,q3⟩=>?_)) hm
 subst e;cases r3;refine wpAny_truthy_bool ?_;cases k with
 | false=>exact ite_ff ⟨.bl false,H3,I3,rfl,q3⟩
 | true=>exact ite_tt (chain_last (thn (hc pins s3 σ H3 _ I3 q3) fun w' s4 ⟨z',H4,I4,r4,q4⟩=>ho' pins s4 σ H4 y z' u w' Q I4 r2 r4 q4))
theorem line63:(sizeLine:Nat) < 2 ^ 63:=by rw [sizeLine_eq];decide
theorem vals1 {x:V}{us:List Value}(r:Vals [x] us):∃u,us = [u]∧RelV x u:=by
 cases r with
 | cons r1 r2=>cases r2;exact ⟨_,rfl,r1⟩
theorem vals2 {x y:V}{us:List Value}(r:Vals [x,y] us):∃u w',us = [u,w']∧RelV x u∧RelV y w':=by
 cases r with
 | cons r1 r2 =>
  cases r2 with
  | cons r3 r4=>cases r4;exact ⟨_,_,rfl,r1,r3⟩
end
structure ObjM (h:Heap) (x dx C:Addr) (mA:Str→Option Value):Prop where
 obj:h.get? x=some (PySem.W.instObj C dx)
 ns:h.Ns1 dx mA
 ne:dx≠x
theorem lookIn_ns {h:Heap}{dx:Addr}{mA:Str→Option Value}(n:h.Ns1 dx mA):∃od,h.get? dx=some od∧∀name,PySem.W.lookIn name od=some (mA name):=by
 obtain ⟨o,es,ep,ho,hd,hk,_,hm⟩:=n;refine ⟨o,ho,fun name=>?_⟩;have e:=hm name;unfold nsFind findBy at e;rw [←Array.find?_toList] at e;unfold PySem.W.lookIn;rw [hd];dsimp only;split
 ·rename_i y q
  rw [q] at e;exact congrArg some e
 ·rename_i q
  rw [q] at e;have a:es.toList.any (·.refKey)=false:=by
   rw [List.any_eq_false];intro y hy;obtain ⟨z,t,hkey⟩:=hk y (Array.mem_toList_iff.mp hy);simp [DictEntry.refKey,hkey]
  have a':¬es.toList.any (·.refKey)=true:=by rw [a];exact Zl
  rw [if_neg a'];exact congrArg some e
theorem ObjM.look {h:Heap}{x dx C:Addr}{mA:Str→Option Value}(I:ObjM h x dx C mA):∃od,PySem.W.InstAt h x (PySem.W.instObj C dx) C (some od)∧∀name,PySem.W.lookIn name od=some (mA name) :=
 let ⟨od,ho,hl⟩:=lookIn_ns I.ns
 ⟨od,⟨I.obj,rfl,rfl,ho⟩,hl⟩
section
variable {prog:Program}{w:World}{A:Around}{E:Value→Shared→Prop}{s:Shared}{K:PySem.W.Frag}{x dx C f:Addr}{mA:Str→Option Value}{name:Str}{v:Value}
theorem get_map {expr:Bool}{Q:Value→Shared→Prop}(X:K.In s.heap) (I:ObjM s.heap x dx C mA) (hg:PySem.W.plainGet K C name=true) (hh:PySem.W.hasDictIn K C=true)
  (ha:PySem.W.findIn K (.ref C) name=some none) (hv:mA name=some v) (hv':PySem.W.handedIn v=true) (h:Q v { s with toks:=s.toks+1 }) :
  wpAny (model prog w) A (getAttr (.ref x) name expr) Q E s:=by
 obtain ⟨od,J,hl⟩:=I.look;exact PySem.W.get_value X J (PySem.W.plainGet_of hg).1 (PySem.W.findObj_own hh ha rfl (by rw [hl,hv])) hv' h
theorem get_meth {pl:Sem Bool}{Q:Value×List Value→Shared→Prop}(X:K.In s.heap) (I:ObjM s.heap x dx C mA) (hg:PySem.W.plainGet K C name=true)
  (hf:PySem.W.findIn K (.ref C) name=some (some (.ref f))) (ht:PySem.W.isFn K (.ref f)=true) (hv:mA name=none) (h:Q (.ref f,[.ref x]) s) :
  wpAny (model prog w) A (getMethod (.ref x) name pl) Q E s:=by
 obtain ⟨od,J,hl⟩:=I.look;exact PySem.W.method_fn X J (PySem.W.plainGet_of hg).1 (PySem.W.plainGet_of hg).2 hf (beq_iff_eq.mp ht) (by show (PySem.W.lookIn name od).map (·.isSome)=some false;rw [hl,hv];rfl) h
theorem set_map {ns:List Str}{Q:Unit→Shared→Prop}(X:K.In s.heap) (I:ObjM s.heap x dx C mA)
  (hs:PySem.W.findIn K (.ref C) "__setattr__" = some (some (.builtin "object.__setattr__"))) (hp:PySem.W.plainOver K C=true) (ht:PySem.W.takerIn K C name=some none) (hh:PySem.W.hasDictIn K C=true)
  (hw:PySem.Within mA ns) (hsz:ns.length≤sizeLine)
  (h:∀h',ObjM h' x dx C (fun y=>if y=name then some v else mA y)→Heap.SameBut dx s.heap h'→Q () { s with heap:=h',toks:=s.toks+2 }) :
  wpAny (model prog w) A (setAttr (.ref x) name v) Q E s:=by
 obtain ⟨od,J,hl⟩:=I.look;refine PySem.W.set_plain X J hs (PySem.W.osa_open (s:={ s with toks:=s.toks+1 }) (r:=none) X J hp ht fun b=>?_);obtain ⟨cd,hc,hd'⟩:=PySem.W.any_some hh;have hx:s.heap.get? x=some ⟨.ref C,some dx,.plain,#[]⟩:=I.obj;refine wpAny_bind (wpAny_pure (wpAny_bind (wpAny_bind (wpAny_loadPart hx (wpAny_bind (PySem.W.Looks.here (s:={ s with toks:=s.toks+1 }) (PySem.W.looks_clsIn X hc) ?_))))));rw [hd'];refine wpAny_pure (a:=some dx) (wpAny_bind (wpAny_pure (wpAny_bind ?_)));refine wpAny_nsSet1 (s:={ s with toks:=s.toks+1 }) I.ns fun h' hn2 hs2=>?_;obtain ⟨oD,esD,epD,hoD,hdD,hcD⟩:=hn2.count (PySem.Within.cons name v hw);refine wpAny_bind (wpAny_lookBehind hoD (by rw [hdD];exact pastItsLine_dict (Nat.le_trans hcD (by rw [Zq];omega))) ?_);exact wpAny_pure (h _ ⟨(hs2.2 _ (Ne.symm I.ne)).trans I.obj,hn2,I.ne⟩ hs2)
theorem make_map {R:Result→Shared→Prop}{vs:List Value}{kw:List (Str×Value)}(X:K.In s.heap) (hm:PySem.W.makesIn K C=true)
  (hi:PySem.W.findIn K (.ref C) "__init__" = some (some (.ref f))) (hf:PySem.W.typeIn K (.ref f)=some (.type "function"))
  (h:codeAny (model prog w) (A.under (.builtin "type.__call__" ⟨.ref C::vs,kw⟩)) (.call (.ref f) ⟨.ref (s.heap.objs.size+1)::vs,kw⟩) (PySem.W.InitBack (s.heap.objs.size+1) R)
   { s with heap:=(s.heap.push PySem.W.emptyDict).push (PySem.W.instObj C s.heap.objs.size) }) :
  codeAny (model prog w) A (.call (.ref C) ⟨vs,kw⟩) R s:=by
 obtain ⟨hh,g,d,t,os⟩:=s;exact PySem.W.make_core (PySem.W.makes_of X hm) (PySem.W.looks_findIn X hi) (fun self=>PySem.W.bind_fn X self hf) (.inl rfl) h
end
def putF (f:Str) (v:V):List (Str×V)→List (Str×V)
 | []=>[(f,v)]
 | (g,x)::r=>if g=f then (g,v)::r else (g,x)::putF f v r
theorem lookup_putF (f g:Str) (v:V):∀fs:List (Str×V),(putF f v fs).lookup g=if g=f then some v else fs.lookup g
 | []=>by
  show List.lookup g [(f,v)]=_;by_cases h:g=f
  ·have hb:(g==f)=true:=beq_iff_eq.mpr h
   simp only [List.lookup,hb,if_pos h]
  ·have hb:(g==f)=false:=beq_eq_false_iff_ne.mpr h
   simp only [List.lookup,hb,if_neg h]
 | (k,x)::r=>by
  have ih:=lookup_putF f g v r;rw [show putF f v ((k,x)::r)=(if k=f then (k,v)::r else (k,x)::putF f v r) from rfl];by_cases hk:k=f
  ·rw [if_pos hk]
   by_cases h:g=k
   ·have hb:(g==k)=true:=beq_iff_eq.mpr h
    simp only [List.lookup,hb,if_pos (h.trans hk)]
   ·have hb:(g==k)=false:=beq_eq_false_iff_ne.mpr h
    simp only [List.lookup,hb,if_neg (fun e:g=f=>h (e.trans hk.symm))]
  ·rw [if_neg hk]
   by_cases h:g=k
   ·have hb:(g==k)=true:=beq_iff_eq.mpr h
    simp only [List.lookup,hb,if_neg (fun e:g=f=>hk (h.symm.trans e))]
   ·have hb:(g==k)=false:=beq_eq_false_iff_ne.mpr h
    simp only [List.lookup,hb];exact ih
theorem keys_putF (f:Str) (v:V):∀fs:List (Str×V),f∈(putF f v fs).map (·.1)∧∀g,g∈fs.map (·.1)→g∈(putF f v fs).map (·.1)
 | []=>⟨by simp [putF],fun g h=>by simp at h⟩
 | (k,x)::r=>by
  obtain ⟨i1,i2⟩:=keys_putF f v r;rw [show putF f v ((k,x)::r)=(if k=f then (k,v)::r else (k,x)::putF f v r) from rfl];by_cases hk:k=f
  ·rw [if_pos hk]
   subst hk;exact ⟨by simp,fun g h=>by simpa using h⟩
  ·rw [if_neg hk]
   refine ⟨?_,fun g h=>?_⟩
   ·rw [Zh]
    exact Ze _ i1
   ·rw [Zh] at h ⊢
    rcases Zk.mp h with e|e
    ·exact Zk.mpr (.inl e)
    ·exact Ze _ (i2 g e)
theorem length_putF (f:Str) (v:V):∀fs:List (Str×V),(putF f v fs).length≤fs.length+1
 | []=>by simp [putF]
 | (k,x)::r=>by
  have ih:=length_putF f v r;rw [show putF f v ((k,x)::r)=(if k=f then (k,v)::r else (k,x)::putF f v r) from rfl];by_cases hk:k=f
  ·rw [if_pos hk,Zq,Zq];omega
  ·rw [if_neg hk,Zq,Zq];omega
theorem RelO.some_of {v:V}{o:Option Value}(r:RelO (some v) o):∃u,o=some u∧RelV v u:=by
 cases o with
 | none=>exact (show False from r).elim
 | some u=>exact ⟨u,rfl,r⟩
theorem RelO.none_of {o:Option Value}(r:RelO none o):o=none:=by
 cases o with
 | none=>rfl
 | some u=>exact (show False from r).elim
theorem handed_of {v:V}{u:Value}(r:RelV v u):PySem.W.handedIn u=true:=by
 cases v with
 | non=>cases (show u=Value.none from r);rfl
 | bl b=>cases (show u=Value.bool b from r);rfl
 | int i=>obtain ⟨t,e⟩:=(show ∃t,u=Value.int i t from r);cases e;rfl
 | str x=>obtain ⟨t,e⟩:=(show ∃t,u=Value.str x t from r);cases e;rfl
 | byt b=>obtain ⟨t,e⟩:=(show ∃t,u=Value.bytes b t from r);cases e;rfl
 | flt b=>obtain ⟨t,e⟩:=(show ∃t,u=Value.float b t from r);cases e;rfl
 | ref a=>cases (show u=Value.ref a from r);rfl
 | ty n=>cases (show u=Value.type n from r);rfl
section
variable {P:Program}{w:World}{H H':Hp}{h h':Heap}{a C dx:Addr}{fs fs':List (Str×V)}
theorem ins_get (hok:HOk P w H h) (e:H a=some (.ins C dx fs)):∃mA,ObjM h a dx C mA∧(∀f,RelO (fs.lookup f) (mA f))∧PySem.Within mA (fs.map (·.1))∧fs.length≤1000∧H dx=some (.own a):=by
 obtain ⟨d,z,ne,ob,mA,n,r,q⟩:=(show ObjOk P w H h a (.ins C dx fs) from hok a _ e)
 exact ⟨mA,⟨ob,n,ne⟩,r,q,z,d⟩
end
structure Cls (K:PySem.W.Frag) (C:Addr):Prop where
 pg:PySem.W.plainGet K C Str.empty=true
 hd:PySem.W.hasDictIn K C=true
 po:PySem.W.plainOver K C=true
 sa:PySem.W.findIn K (.ref C) "__setattr__" = some (some (.builtin "object.__setattr__"))
theorem Cls.get {K:PySem.W.Frag}{C:Addr}(c:Cls K C) (f:Str):PySem.W.plainGet K C f=true:=c.pg
def NoAttr (K:PySem.W.Frag) (C:Addr) (f:Str):Prop:=PySem.W.findIn K (.ref C) f=some none
theorem NoAttr.taker {K:PySem.W.Frag}{C:Addr}{f:Str}(n:NoAttr K C f):PySem.W.takerIn K C f=some none:=by
 unfold PySem.W.takerIn;rw [show PySem.W.findIn K (.ref C) f=some none from n];rfl
structure Meth (K:PySem.W.Frag) (C:Addr) (m:Str) (f:Addr):Prop where
 at_:PySem.W.findIn K (.ref C) m=some (some (.ref f))
 fn:PySem.W.isFn K (.ref f)=true
 kp:PySem.W.keepIn K (.ref f)=true
section
variable {X:Cx}{pins:List (Addr×Obj)}{σ:St}{H:Hp}{s:Shared}{a C dx:Addr}{fs:List (Str×V)}{f:Str}{v:V}{A:Around}{E:Value→Shared→Prop}
theorem getattr_ok {b:Bool}{Q:Value→Shared→Prop}(I:Inv X pins σ H s) (e:H a=some (.ins C dx fs)) (c:Cls X.K C) (n:NoAttr X.K C f) (l:fs.lookup f=some v)
  (h:∀u s',Inv X pins σ H s'→RelV v u→Q u s'):wpAny (model X.prog X.w) A (getAttr (.ref a) f b) Q E s:=by
 obtain ⟨mA,O,r,_,_,_⟩:=ins_get I.hok e;obtain ⟨u,hu,ru⟩:=RelO.some_of (v:=v) (o:=mA f) (by rw [←l];exact r f);exact get_map I.kIn O (c.get f) c.hd n hu (handed_of ru) (h u _ (I.tok _) ru)
theorem getmeth_ok {m:Str}{g:Addr}{pl:Sem Bool}{Q:Value×List Value→Shared→Prop}(I:Inv X pins σ H s) (e:H a=some (.ins C dx fs)) (c:Cls X.K C) (k:Meth X.K C m g) (l:fs.lookup m=none)
  (h:Q (.ref g,[.ref a]) s):wpAny (model X.prog X.w) A (getMethod (.ref a) m pl) Q E s:=by
 obtain ⟨mA,O,r,_,_,_⟩:=ins_get I.hok e;have hn:mA m=none:=RelO.none_of (by rw [←l];exact r m);exact get_meth I.kIn O (c.get m) k.at_ k.fn hn h
theorem setattr_ok {y:V}{u:Value}{Q:Unit→Shared→Prop}(I:Inv X pins σ H s) (e:H a=some (.ins C dx fs)) (c:Cls X.K C) (n:NoAttr X.K C f) (hl:fs.length < 1000) (ry:RelV y u)
  (h:∀s',Inv X pins σ (upd H a (.ins C dx (putF f y fs))) s'→Q () s'):wpAny (model X.prog X.w) A (setAttr (.ref a) f u) Q E s:=by
 obtain ⟨mA,O,r,wi,_,ho⟩:=ins_get I.hok e;have hz:(fs.map (·.1)).length≤sizeLine:=by rw [Zd,sizeLine_eq];omega
 refine set_map I.kIn O c.sa c.po n.taker c.hd wi hz fun h' O' sb=>h _ ?_;have hd:∃o,h'.get? dx=some o:=let ⟨o,_,_,e',_⟩:=O'.ns;⟨o,e'⟩;refine I.write (x:=a) (e:=dx) (by rw [e];exact True.intro) (.inr ho) (fun b q hb z=>(sb.2 b hb).trans z) hd ?_;refine ⟨by rw [upd_ne O.ne];exact ho,?_,O.ne,O'.obj,_,O'.ns,fun g=>?_,fun g hg=>?_⟩
 ·have:=length_putF f y fs;omega
 ·show RelO ((putF f y fs).lookup g) (if g=f then some u else mA g)
  rw [lookup_putF];by_cases q:g=f
  ·rw [if_pos q,if_pos q];exact ry
  ·rw [if_neg q,if_neg q];exact r g
 ·by_cases q:g=f
  ·rw [q];exact (keys_putF f y fs).1
  ·refine (keys_putF f y fs).2 g (wi g fun z=>hg ?_)
   show (if g=f then some u else mA g)=none;rw [if_neg q];exact z
theorem Inv.made (I:Inv X pins σ H s):Inv X pins σ (upd (upd H s.heap.objs.size (.own (s.heap.objs.size+1))) (s.heap.objs.size+1) (.ins C s.heap.objs.size []))
  { s with heap:=(s.heap.push PySem.W.emptyDict).push (PySem.W.instObj C s.heap.objs.size) }:=by
 have e1:(s.heap.push PySem.W.emptyDict).get? s.heap.objs.size=some PySem.W.emptyDict:=Heap.get?_push_size s.heap rfl;have e2:((s.heap.push PySem.W.emptyDict).push (PySem.W.instObj C s.heap.objs.size)).get? (s.heap.objs.size+1)=some (PySem.W.instObj C s.heap.objs.size):=by
  have:=Heap.get?_push_size (s.heap.push PySem.W.emptyDict) (o:=PySem.W.instObj C s.heap.objs.size) rfl
  rwa [Heap.size_push] at this
 have e3:(s.heap.push PySem.W.emptyDict).Ns s.heap.objs.size (fun _=>none):=⟨PySem.W.emptyDict,#[],_,e1,rfl,(fun e he=>absurd he (by simp)),fun _=>rfl⟩
 have I1:=I.laid (a:=s.heap.objs.size) (o:=.own (s.heap.objs.size+1)) (h':=s.heap.push PySem.W.emptyDict) (t':=s.toks) (fun b u q=>Heap.get?_push_of_some _ q) (Nat.le_refl _) ⟨_,e1⟩;refine I1.laid (a:=s.heap.objs.size+1) (o:=.ins C s.heap.objs.size []) (t':=s.toks) (fun b u q=>Heap.get?_push_of_some _ q) (Nat.le_of_eq (Heap.size_push _ _)) ?_;have ne:s.heap.objs.size≠s.heap.objs.size+1:=Nat.ne_of_lt (Nat.lt_succ_self _);refine ⟨by rw [upd_ne ne,upd_same],Nat.zero_le _,ne,e2,fun _=>none,(Heap.Ns1.of_empty e3).at fun o q=>Heap.get?_push_of_some _ q,fun _=>True.intro,fun y hy=>absurd rfl hy⟩
theorem attr_of {prog:Program}{w:World}{env:Env}{e:Expr}{f:Str}{pos:Pos}{s:Shared}{Q:Value→Shared→Prop}(hb:attributeBase e f env (eval e env)=eval e env)
  (h:wpAny (model prog w) A (eval e env) (fun o s₁=>wpAny (model prog w) A (getAttr o f true) Q E s₁) E s):wpAny (model prog w) A (eval (.Attribute e f pos) env) Q E s :=
 Attribute_any_ h (by rw [arm_eval_Attribute,hb])
end
def tFld (K:PySem.W.Frag) (ta:TE) (f:Str):TE:=fun σ H Q=>ta σ H fun x H1=>∃a C dx fs v,x=.ref a∧H1 a=some (.ins C dx fs)∧Cls K C∧NoAttr K C f∧fs.lookup f=some v∧Q v H1
def sFld (K:PySem.W.Frag) (ta tv:TE) (f:Str):TS:=fun D σ H=>tv σ H fun y H1=>ta σ H1 fun x H2=>∃a C dx fs,x=.ref a∧H2 a=some (.ins C dx fs)∧Cls K C∧NoAttr K C f∧fs.length < 1000 ∧
 D.nx σ (upd H2 a (.ins C dx (putF f y fs)))
section
variable {X:Cx}{o e value:Expr}{f:Str}{pos pos' tpos:Pos}{ta tv:TE}
theorem pe_fld (he:PE X e ta) (hb:attributeBase e f X.env (eval e X.env)=eval e X.env):PE X (.Attribute e f pos) (tFld X.K ta f):=by
 intro pins s σ H Q I h;refine attr_of hb (thn (he pins s σ H _ I h) fun u s1 ⟨x,H1,I1,rx,a,C,dx,fs,v,ex,ea,c,n,l,q⟩=>?_);subst ex;obtain rfl:u=Value.ref a:=rx;exact getattr_ok I1 ea c n l fun u' s2 I2 ru=>⟨v,H1,I2,ru,q⟩
theorem ps_fld (ha:PE X o ta) (hv:PE X value tv) (hs:swapsWith value (some (.Attribute o f pos')) pos.line X.env=pure false):PS X (.Assign [.Attribute o f pos'] value pos) (sFld X.K ta tv f):=by
 intro pins s σ H D I h;refine plainObj_wpAny_Assign_Attribute (thn (hv pins s σ H _ I h) fun u s1 ⟨y,H1,I1,ry,q⟩=>thn (ha pins s1 σ H1 _ I1 q) fun ov s2 ⟨x,H2,I2,rx,a,C,dx,fs,ex,ea,c,n,l,q2⟩=>?_) hs;subst ex;obtain rfl:ov=Value.ref a:=rx;exact setattr_ok I2 ea c n l ry fun s3 I3=>⟨σ,_,I3,q2⟩
end
structure Room (k:Nat) (A:Around):Prop where
 hd:A.handled=none
 dp:A.depth+3 * k+5 < recursionLimit
 un:A.units+16 * k+200 < cLine
 gd:A.guards=some []
theorem Room.mono {j k:Nat}{A:Around}(r:Room k A) (h:j≤k):Room j A:=⟨r.hd,by have:=r.dp;omega,by have:=r.un;omega,r.gd⟩
theorem Room.deeper {k:Nat}{A:Around}(r:Room (k+1) A) (env:Env):Room k (A.deeper env) :=
 ⟨r.hd,by have:=r.dp;show A.depth+1+3 * k+5 < _;omega,by have:=r.un;show A.units+3+16 * k+200 < _;omega,r.gd⟩
theorem make_depth {A:Around}{C:Addr}{us:List Value}{kw:List (Str×Value)}:(A.under (.builtin "type.__call__" ⟨.ref C::us,kw⟩)).depth=A.depth+1:=by
 first|rfl|simp [Around.under,Code.weight,Code.isCreation,Code.isGuard,Code.isCaller,Code.frames,Code.isFrame,guardIds]
theorem make_units {A:Around}{C:Addr}{us:List Value}{kw:List (Str×Value)}:(A.under (.builtin "type.__call__" ⟨.ref C::us,kw⟩)).units=A.units+1:=by
 first|rfl|simp [Around.under,Code.cUnits,Code.frames,Code.isFrame]
theorem Room.make {k:Nat}{A:Around}(r:Room (k+1) A) (C:Addr) (us:List Value) (kw:List (Str×Value)):Room k (A.under (.builtin "type.__call__" ⟨.ref C::us,kw⟩)) :=
 ⟨r.hd,by have:=r.dp;rw [make_depth];omega,by have:=r.un;rw [make_units];omega,by first|exact r.gd|simpa [Around.under,Code.isGuard,guardIds] using r.gd⟩
theorem Room.depth {k:Nat}{A:Around}(r:Room k A):A.depth < recursionLimit:=by have:=r.dp;omega
theorem Room.units {k:Nat}{A:Around}(r:Room k A):A.units+64 < cLine:=by have:=r.un;omega
def tNil:TA:=fun _ H Q=>Q [] H
def tCons (ta:TE) (tr:TA):TA:=fun σ H Q=>ta σ H fun x H1=>tr σ H1 fun xs H2=>Q (x::xs) H2
section
variable {X:Cx}{e:Expr}{es:List Expr}{te:TE}{t:TA}{pos:Pos}
theorem pa_nil:PA X [] tNil:=fun _ _ _ _ H Q I h=>Calls.spliced_nil ⟨[],H,I,.nil,h⟩
theorem pa_cons (ha:PE X e te) (hr:PA X es t) (hs:starEach (e::es) X.env=(false,eval e X.env)::starEach es X.env:=by rfl):PA X (e::es) (tCons te t):=by
 intro pos pins s σ H Q I h;rw [hs];show wpAny _ _ (spliced ((false,eval e X.env)::backTo pos (starEach es X.env))) _ _ s;refine Calls.spliced_cons (thn (ha pins s σ H _ I h) fun u s1 ⟨x,H1,I1,r1,q1⟩=>?_);exact thn (hr pos pins s1 σ H1 _ I1 q1) fun us s2 ⟨xs,H2,I2,r2,q2⟩=>⟨x::xs,H2,I2,.cons r1 r2,q2⟩
def tTup (t:TA):TE:=fun σ H Q=>t σ H fun xs H1=>xs.length≤sizeLine∧∀p,H1 p=none→Q (.ref p) (upd H1 p (.tup xs))
def tLst (t:TA):TE:=fun σ H Q=>t σ H fun xs H1=>xs.length≤sizeLine∧∀p,H1 p=none→Q (.ref p) (upd H1 p (.lst xs))
theorem pe_tup {x1}(h:PA X es t):PE X (.Tuple es x1 pos) (tTup t):=by
 intro pins s σ H Q I hq;refine wpAny_Tuple_spliced (thn (h pos pins s σ H _ I hq) fun us s1 ⟨xs,H1,I1,r,z,q⟩=>⟨by rw [←r.length];exact z,?_⟩);have hf:H1 s1.heap.objs.size=none:=I1.hok.fresh (Nat.le_refl _);refine ⟨.ref s1.heap.objs.size,upd H1 s1.heap.objs.size (.tup xs),I1.laid (t':=s1.toks) (fun b u e=>Heap.get?_push_of_some _ e) (Nat.le_refl _) ?_,rfl,q _ hf⟩;exact ⟨z,us,r,⟨_,Heap.get?_push_size _ rfl,rfl,_,rfl⟩⟩
theorem pe_lst (h:PA X es t):PE X (.List es pos) (tLst t):=by
 intro pins s σ H Q I hq;refine wpAny_List_spliced (thn (h pos pins s σ H _ I hq) fun us s1 ⟨xs,H1,I1,r,z,q⟩=>⟨by rw [←r.length];exact z,?_⟩);have hf:H1 s1.heap.objs.size=none:=I1.hok.fresh (Nat.le_refl _);refine ⟨.ref s1.heap.objs.size,upd H1 s1.heap.objs.size (.lst xs),I1.laid (t':=s1.toks) (fun b u e=>Heap.get?_push_of_some _ e) (Nat.le_refl _) ?_,rfl,q _ hf⟩;exact ⟨z,us,0,r,Heap.get?_push_size _ rfl⟩
end
abbrev Sp:=List V→Hp→VK→XK→Prop
abbrev CXT:=List Env→Hp→Shared→XK→Value→Shared→Prop
structure Env0 (P:Program) (w:World) (K:PySem.W.Frag) (mg:Str→Option Value) (base:Heap) (A:Around) (outer:List Env) (s:Shared) (H:Hp):Prop where
 frames:A.frames=some outer
 mod:Mod K mg base
 bs:∀b o,base.get? b=some o→s.heap.get? b=some o∧H b=none
 bsz:base.objs.size≤s.heap.objs.size
 funs:s.heap.FunFrames base outer
 frf:∀b∈frs outer,H b=none
 hok:HOk P w H s.heap
 bare:AllBare s.gens
def CE (outer:List Env) (P:Program) (w:World) (H:Hp) (s:Shared) (Q:VK) (u:Value) (s':Shared):Prop :=
 ∃v H',s'.os=s.os∧AllBare s'.gens∧Un (frs outer) [] H H' s.heap s'.heap∧HOk P w H' s'.heap∧RelV v u∧Q v H'
def CR (CX:CXT) (outer:List Env) (P:Program) (w:World) (H:Hp) (s:Shared) (Q:VK) (E:XK) (r:Result) (s':Shared):Prop :=
 match r with
 | .ok (.ret u)=>CE outer P w H s Q u s'
 | .ok _=>False
 | .error e=>CX outer H s E e s'
structure FnOk (P:Program) (w:World) (K:PySem.W.Frag) (mg:Str→Option Value) (base:Heap) (CX:CXT) (k:Nat) (f:Addr) (fd:FuncData) (ps:List Str) (sp:Sp):Prop where
 len:∀vs H Q E,sp vs H Q E→vs.length=ps.length
 run:∀(A:Around) (outer:List Env) (s:Shared) (H:Hp) (args:Args) (us:List Value) (vs:List V) (Q:VK) (E:XK),Room k A→Env0 P w K mg base A outer s H→BindsTo s fd args (ps.zip us)→Vals vs us→sp vs H Q E →
  codeAny (model P w) A (.call (.ref f) args) (CR CX outer P w H s Q E) s
theorem FnOk.imp {P:Program}{w:World}{K:PySem.W.Frag}{mg:Str→Option Value}{base:Heap}{CX:CXT}{k:Nat}{f:Addr}{fd:FuncData}{ps:List Str}{sp sp':Sp}(F:FnOk P w K mg base CX k f fd ps sp)
  (h:∀vs H Q E,sp' vs H Q E→sp vs H Q E):FnOk P w K mg base CX k f fd ps sp' :=
 ⟨fun vs H Q E q=>F.len vs H Q E (h _ _ _ _ q),fun A outer s H args us vs Q E hr he hb hv hs=>F.run A outer s H args us vs Q E hr he hb hv (h _ _ _ _ hs)⟩
theorem Env0.make {P:Program}{w:World}{K:PySem.W.Frag}{mg:Str→Option Value}{base:Heap}{A:Around}{outer:List Env}{s:Shared}{H:Hp}(e:Env0 P w K mg base A outer s H) (C:Addr) (us:List Value) (kw:List (Str×Value)) :
  Env0 P w K mg base (A.under (.builtin "type.__call__" ⟨.ref C::us,kw⟩)) outer s H:=⟨by first|exact e.frames|(simpa [Around.under,Code.envs,Code.isFrame,pushEnvs] using e.frames),e.mod,e.bs,e.bsz,e.funs,e.frf,e.hok,e.bare⟩
section
variable {X:Cx}{pins:List (Addr×Obj)}{σ:St}{H:Hp}{s s':Shared}
theorem Inv.env0 (I:Inv X pins σ H s):Env0 X.prog X.w X.K X.mg X.base X.A X.stack s H :=
 ⟨I.ok.frames,I.ok.mod,I.bs,Nat.le_trans I.ok.bsz I.sz,I.stack,I.stkFree,I.hok,I.bare⟩
theorem Inv.after {Q:VK}{u:Value}(I:Inv X pins σ H s) (h:CE X.stack X.prog X.w H s Q u s'):EP X pins σ Q u s':=by
 obtain ⟨v,H',os,bare,un,hok,r,q⟩:=h;obtain ⟨hh,g,d,t,os'⟩:=s';obtain rfl:os'=s.os:=os;exact ⟨v,H',I.call (h':=hh) (g':=g) (d':=d) (t':=t) (ch:=[]) un hok bare (fun b z=>absurd z (by simp)),r,q⟩
end
def tCall (sp:Sp) (dvs:List V) (E:XK) (t:TA):TE:=fun σ H Q=>t σ H fun vs H1=>sp (vs++dvs) H1 Q E
def tMeth (C:Addr) (m:Str) (sp:Sp) (dvs:List V) (E:XK) (ta:TE) (t:TA):TE:=fun σ H Q=>ta σ H fun x H1=>∃a dx fs,x=.ref a∧H1 a=some (.ins C dx fs)∧fs.lookup m=none ∧
 t σ H1 fun vs H2=>sp (x::(vs++dvs)) H2 Q E
def tMake (C:Addr) (sp:Sp) (dvs:List V) (E:XK) (t:TA):TE:=fun σ H Q=>t σ H fun vs H1=>∀x dx,H1 x=none→H1 dx=none→dx≠x →
 sp (.ref x::(vs++dvs)) (upd (upd H1 dx (.own x)) x (.ins C dx [])) (fun v H2=>v=.non∧Q (.ref x) H2) E
def Binds (K:PySem.W.Frag) (fd:FuncData) (ps:List Str) (ds:List Value):Prop :=
 ∀(s:Shared) (us:List Value),K.In s.heap→(us++ds).length=ps.length→BindsTo s fd ⟨us,[]⟩ (ps.zip (us++ds))
theorem Binds.all {K:PySem.W.Frag}{fd:FuncData}{ps:List Str}(h:∀us:List Value,us.length=ps.length→bindArgs fd ⟨us,[]⟩=pure (ps.zip us)):Binds K fd ps []:=fun s us _ hl=>by
 rw [List.append_nil] at hl ⊢;exact .of_eq (h us hl)
def Passes (CX:CXT) (X:Cx) (E:XK):Prop:=∀(pins:List (Addr×Obj)) (σ:St) (H:Hp) (s:Shared) (e:Value) (s':Shared),Inv X pins σ H s→CX X.stack H s E e s'→X.xe e s'
section
variable {X:Cx}{CX:CXT}{k:Nat}{f C:Addr}{fd:FuncData}{ps:List Str}{sp:Sp}{dvs:List V}{ds:List Value}{E:XK}{x m:Str}{p pos apos:Pos}{e o:Expr}{es:List Expr}{ta:TE}{t:TA}
theorem run_fn {pins:List (Addr×Obj)}{σ:St}{H:Hp}{s:Shared}{Q:VK}{us:List Value}{vs:List V}(F:FnOk X.prog X.w X.K X.mg X.base CX k f fd ps sp) (hr:Room k X.A) (hb:Binds X.K fd ps ds) (hd:Vals dvs ds) (hx:Passes CX X E)
  (I:Inv X pins σ H s) (r:Vals vs us) (h:sp (vs++dvs) H Q E):wpAny (model X.prog X.w) X.A (call (.ref f) us) (EP X pins σ Q) X.xe s:=by
 have r2:Vals (vs++dvs) (us++ds):=r.append hd;have hl:(us++ds).length=ps.length:=by rw [←r2.length];exact F.len _ _ _ _ h
 refine wpAny_call (codeAny_mono (F.run X.A X.stack s H ⟨us,[]⟩ (us++ds) (vs++dvs) Q E hr I.env0 (hb s us I.kIn hl) r2 h) fun r s' hq=>?_);cases r with
 | error e=>exact hx pins σ H s e s' I hq
 | ok fl =>
  cases fl with
  | ret u=>exact I.after hq
  | next=>exact False.elim hq
  | brk=>exact False.elim hq
  | cont=>exact False.elim hq
theorem pe_call (F:FnOk X.prog X.w X.K X.mg X.base CX k f fd ps sp) (hr:Room k X.A) (hg:Gl X x) (hm:X.mg x=some (.ref f)) (hk:PySem.W.keepIn X.K (.ref f)=true) (hb:Binds X.K fd ps ds) (hd:Vals dvs ds) (hx:Passes CX X E)
  (ha:PA X (e::es) t) (hdb:(x==("__debug__" : Str))=false:=by decide) (he:starEach (e::es) X.env=(false,eval e X.env)::starEach es X.env:=by rfl) (hpl:(backTo pos (starEach es X.env)).any (·.1)=false:=by rfl) :
  PE X (.Call (.Name x p) (e::es) [] pos) (tCall sp dvs E t):=by
 intro pins s σ H Q I h;refine wpAny_Call_Name_kw (ld_glob I hg hm ?_ hdb);refine PySem.W.callWith_K (h₀:=X.base) I.ok.mod.kin hk (thn (ha pos pins s σ H _ I h) fun us s1 ⟨vs,H1,I1,r,q⟩=>⟨I1.kIn,?_⟩) he hpl;exact run_fn F hr hb hd hx I1 r q
theorem pe_meth {pl:Sem Bool}(he:PE X o ta) (c:Cls X.K C) (hm:Meth X.K C m f) (F:FnOk X.prog X.w X.K X.mg X.base CX k f fd ps sp) (hr:Room k X.A) (hb:Binds X.K fd ps ds) (hd:Vals dvs ds) (hx:Passes CX X E) (ha:PA X (e::es) t)
  (hst:starEach (e::es) X.env=(false,eval e X.env)::starEach es X.env:=by rfl) (hpl:(backTo pos (starEach es X.env)).any (·.1)=false:=by rfl)
  (ht:eval (.Call (.Attribute o m apos) (e::es) [] pos) X.env=(do
   let ov ←eval o X.env
   standAt apos.atName
   let (f,first) ←holding [ov] (getMethod ov m pl)
   callWith pos f first (backTo pos (starEach (e::es) X.env)) (backToKw pos (keywordEach [] X.env))):=by rfl) :
  PE X (.Call (.Attribute o m apos) (e::es) [] pos) (tMeth C m sp dvs E ta t):=by
 intro pins s σ H Q I h;refine PySem.W.methodCall_KW (pl:=pl) (thn (he pins s σ H _ I h) fun u s1 ⟨x,H1,I1,rx,a,dx,fs,ex,ea,l,q⟩=>?_) ht;subst ex;obtain rfl:u=Value.ref a:=rx;refine getmeth_ok I1 ea c hm l ?_;refine PySem.W.callWith_K (first:=[.ref a]) (h₀:=X.base) I.ok.mod.kin hm.kp (thn (ha pos pins s1 σ H1 _ I1 q) fun us s2 ⟨vs,H2,I2,r,q2⟩=>⟨I2.kIn,?_⟩) hst hpl;exact run_fn (us:=.ref a::us) (vs:=.ref a::vs) F hr hb hd hx I2 (.cons rfl r) q2
theorem pe_meth0 {pl:Sem Bool}(he:PE X o ta) (c:Cls X.K C) (hm:Meth X.K C m f) (F:FnOk X.prog X.w X.K X.mg X.base CX k f fd ps sp) (hr:Room k X.A) (hb:Binds X.K fd ps ds) (hd:Vals dvs ds) (hx:Passes CX X E)
  (ht:eval (.Call (.Attribute o m apos) [] [] pos) X.env=(do
   let ov ←eval o X.env
   standAt apos.atName
   let (f,first) ←holding [ov] (getMethod ov m pl)
   callWith pos f first (backTo pos (starEach [] X.env)) (backToKw pos (keywordEach [] X.env))):=by rfl) :
  PE X (.Call (.Attribute o m apos) [] [] pos) (tMeth C m sp dvs E ta tNil):=by
 intro pins s σ H Q I h;refine PySem.W.methodCall_KW (pl:=pl) (thn (he pins s σ H _ I h) fun u s1 ⟨x,H1,I1,rx,a,dx,fs,ex,ea,l,q⟩=>?_) ht;subst ex;obtain rfl:u=Value.ref a:=rx;refine getmeth_ok I1 ea c hm l ?_;exact PySem.W.callWith_K0 (first:=[.ref a]) I1.kIn hm.kp (run_fn (us:=[.ref a]) (vs:=[.ref a]) F hr hb hd hx I1 (.cons rfl .nil) q)
structure Mk (K:PySem.W.Frag) (C f:Addr):Prop where
 makes:PySem.W.makesIn K C=true
 init:PySem.W.findIn K (.ref C) "__init__" = some (some (.ref f))
 fn:PySem.W.isFn K (.ref f)=true
 kp:PySem.W.keepIn K (.ref C)=true
theorem run_make {pins:List (Addr×Obj)}{σ:St}{H:Hp}{s:Shared}{Q:VK}{us:List Value}{vs:List V}(M:Mk X.K C f) (F:FnOk X.prog X.w X.K X.mg X.base CX k f fd ps sp) (hr:Room (k+1) X.A) (hb:Binds X.K fd ps ds) (hd:Vals dvs ds)
  (hx:Passes CX X E) (I:Inv X pins σ H s) (r:Vals vs us)
  (h:∀x dx,H x=none→H dx=none→dx≠x→sp (.ref x::(vs++dvs)) (upd (upd H dx (.own x)) x (.ins C dx [])) (fun v H2=>v=.non∧Q (.ref x) H2) E) :
  wpAny (model X.prog X.w) X.A (call (.ref C) us) (EP X pins σ Q) X.xe s:=by
 have hq:=h (s.heap.objs.size+1) s.heap.objs.size (I.hok.fresh (Nat.le_succ _)) (I.hok.fresh (Nat.le_refl _)) (Nat.ne_of_lt (Nat.lt_succ_self _));have I2:=Inv.made (C:=C) I;have r2:Vals (V.ref (s.heap.objs.size+1)::(vs++dvs)) (Value.ref (s.heap.objs.size+1)::(us++ds)):=.cons rfl (r.append hd);have hl:(Value.ref (s.heap.objs.size+1)::us++ds).length=ps.length:=by
  have e:=r2.length;rw [F.len _ _ _ _ hq] at e;exact e.symm
 refine wpAny_call (make_map (f:=f) I.kIn M.makes M.init (beq_iff_eq.mp M.fn) (codeAny_mono (F.run _ X.stack _ _ ⟨Value.ref (s.heap.objs.size+1)::us,[]⟩ (Value.ref (s.heap.objs.size+1)::(us++ds)) _ _ E (hr.make C us [])
  (I2.env0.make C us []) (hb _ (Value.ref (s.heap.objs.size+1)::us) I2.kIn hl) r2 hq) fun r s' hq'=>?_))
 cases r with
 | error e=>exact hx pins σ _ _ e s' I2 hq'
 | ok fl =>
  cases fl with
  | ret u =>
   obtain ⟨v,H',I3,rv,ev,q3⟩:=I2.after hq';subst ev;exact ⟨rv,⟨V.ref (s.heap.objs.size+1),H',I3,rfl,q3⟩⟩
  | next=>exact False.elim hq'
  | brk=>exact False.elim hq'
  | cont=>exact False.elim hq'
theorem pe_make0 (M:Mk X.K C f) (F:FnOk X.prog X.w X.K X.mg X.base CX k f fd ps sp) (hr:Room (k+1) X.A) (hg:Gl X x) (hm:X.mg x=some (.ref C)) (hb:Binds X.K fd ps ds) (hd:Vals dvs ds) (hx:Passes CX X E)
  (hdb:(x==("__debug__" : Str))=false:=by decide):PE X (.Call (.Name x p) [] [] pos) (tMake C sp dvs E tNil):=by
 intro pins s σ H Q I h;refine wpAny_Call_Name_kw (ld_glob I hg hm ?_ hdb);exact PySem.W.callWith_K0 I.kIn M.kp (run_make (us:=[]) M F hr hb hd hx I .nil h)
end
structure FnScope (N P:List Str) (sc:Scope):Prop where
 kind:sc.kind=.function
 co:sc.isCoroutine=false
 gen:sc.isGenerator=false
 nd:N.Nodup
 pre:N.take P.length=P
 par:∀x∈P,sc.names.lookup x=some .local∨sc.names.lookup x=some .cell
 nofree:∀y∈sc.names,y.2≠.free
theorem bindL_out {kindOf:Str→Option NameKind}{x:Str}:∀{binds:List (Str×Value)}{m:Str→Option Value},(∀v,(x,v)∉binds)→bindL kindOf binds m x=m x
 | [],_,_=>rfl
 | (n,v)::r,m,h=>by
  unfold bindL;rw [bindL_out fun w hw=>h w (Ze _ hw)];split
  ·have:x≠n:=by rintro rfl;exact h v Zf
   simp [this]
  ·rfl
theorem bindC_out {kindOf:Str→Option NameKind}{x:Str}:∀{binds:List (Str×Value)}{m:Str→Option Value},(∀v,(x,v)∉binds)→bindC kindOf binds m x=m x
 | [],_,_=>rfl
 | (n,v)::r,m,h=>by
  unfold bindC;rw [bindC_out fun w hw=>h w (Ze _ hw)];split
  ·rfl
  ·have:x≠n:=by rintro rfl;exact h v Zf
   simp [this]
theorem bindL_get {kindOf:Str→Option NameKind}{x:Str}{v:Value}:∀{P:List Str}{vs:List Value}{i:Nat}{m:Str→Option Value},P.Nodup→P[i]?=some x→vs[i]?=some v→kindOf x=some .local →
  bindL kindOf (P.zip vs) m x=some v
 | [],_,_,_,_,h,_,_=>by simp at h
 | _::_,[],_,_,_,_,h,_=>by simp at h
 | p::P,w::vs,0,m,nd,h1,h2,hk=>by
  simp at h1 h2;subst h1;subst h2;show bindL kindOf ((p,w)::P.zip vs) m p=_;unfold bindL;rw [bindL_out fun v hv=>(List.nodup_cons.mp nd).1 (List.of_mem_zip hv).1,if_pos hk];simp
 | p::P,w::vs,i+1,m,nd,h1,h2,hk=>by
  show bindL kindOf ((p,w)::P.zip vs) m x=_;unfold bindL;exact bindL_get (i:=i) (List.nodup_cons.mp nd).2 (by simpa using h1) (by simpa using h2) hk
theorem bindC_get {kindOf:Str→Option NameKind}{x:Str}{v:Value}:∀{P:List Str}{vs:List Value}{i:Nat}{m:Str→Option Value},P.Nodup→P[i]?=some x→vs[i]?=some v→kindOf x≠some .local →
  bindC kindOf (P.zip vs) m x=some v
 | [],_,_,_,_,h,_,_=>by simp at h
 | _::_,[],_,_,_,_,h,_=>by simp at h
 | p::P,w::vs,0,m,nd,h1,h2,hk=>by
  simp at h1 h2;subst h1;subst h2;show bindC kindOf ((p,w)::P.zip vs) m p=_;unfold bindC;rw [bindC_out fun v hv=>(List.nodup_cons.mp nd).1 (List.of_mem_zip hv).1,if_neg hk];simp
 | p::P,w::vs,i+1,m,nd,h1,h2,hk=>by
  show bindC kindOf ((p,w)::P.zip vs) m x=_;unfold bindC;exact bindC_get (i:=i) (List.nodup_cons.mp nd).2 (by simpa using h1) (by simpa using h2) hk
def start (N:List Str) (vs:List V):St:=vs.map some++List.replicate (N.length - vs.length) none
def cxOf (CX:CXT) (P:Program) (w:World) (K:PySem.W.Frag) (mg:Str→Option Value) (base:Heap) (N:List Str) (qual:Str) (scope:Scope) (f:Addr) (cd:Value) (A:Around) (outer:List Env) (s:Shared) (H:Hp) (E:XK):Cx where
 prog:=P
 w:=w
 K:=K
 mg:=mg
 base:=base
 A:=A.deeper (envOfC qual scope s.heap.objs.size f cd)
 N:=N
 s₀:=s
 H₀:=H
 env:=envOfC qual scope s.heap.objs.size f cd
 outer:=outer
 stack:=envOfC qual scope s.heap.objs.size f cd::outer
 ex:=[]
 calm:=true
 fn:=fun _=>true
 pn:=[]
 xe:=fun e s'=>wpAny (model P w) (A.deeper (envOfC qual scope s.heap.objs.size f cd)) (leaving (envOfC qual scope s.heap.objs.size f cd) e) (fun _ s''=>CX outer H s E e s'') (fun e' s''=>CX outer H s E e' s'') s'
theorem cell_has {sc:Scope}{n:Nat}{x:Str}(h:sc.names.lookup x=some .cell):∃c,(cellsFrom n sc.names []).lookup x=some c:=by
 have q:=PySem.W.cellsFrom_some sc.names n [] (.inl h);exact Option.isSome_iff_exists.mp q
theorem inv_start {CX:CXT}{P:Program}{w:World}{K:PySem.W.Frag}{mg:Str→Option Value}{base:Heap}{N ps:List Str}{qual:Str}{scope:Scope}{f:Addr}{cd:Value}{A:Around}{outer:List Env}{s s1:Shared}{H:Hp}{E:XK}{us:List Value}{vs:List V}
  (S:FnScope N ps scope) (hd:A.handled=none) (e0:Env0 P w K mg base A outer s H) (hl:vs.length=ps.length) (r:Vals vs us)
  (x:InCallC s s.heap.objs.size (bindL (envOfC qual scope s.heap.objs.size f cd).kindOf (ps.zip us) fun _=>none) (cellsFrom (s.heap.objs.size+1) scope.names []) (bindC (envOfC qual scope s.heap.objs.size f cd).kindOf (ps.zip us) fun _=>none) s1) :
  Inv (cxOf CX P w K mg base N qual scope f cd A outer s H E) [] (start N vs) H s1:=by
 have hpl:ps.length≤N.length:=by have:=congrArg List.length S.pre;rw [Zq1] at this;omega
 obtain ⟨h1,tk,rfl,hk⟩:=x.done;have noA:∀b:Addr,b∉(cxOf CX P w K mg base N qual scope f cd A outer s H E).ex:=fun b z=>absurd (show b∈([]:List Addr) from z) (by simp);refine ⟨⟨e0.mod,S.kind,rfl,rfl,Nat.le_refl _,fun y z c h1 h2=>?_,fun y hy=>?_,fun y c _ h=>?_,fun _=>hd,Around.frames_deeper e0.frames,.inr ⟨rfl,rfl⟩,fun b z=>absurd z (noA b),e0.bs,e0.bsz,fun b _ _=>noA b,fun b z=>absurd z (noA b),e0.funs,e0.frf⟩,
  rfl,e0.bare,Un.kept hk,⟨_,x.toInCall.ns,fun i y v h1 h2 h3=>?_⟩,fun y c h=>⟨_,x.cell y c h⟩,e0.hok.fresh (Nat.le_refl _),fun y c h=>?_,fun p hp=>absurd (show p∈([]:List (Addr×Obj)) from hp) (by simp),e0.hok.kept hk,?_⟩
 ·exact name_of_addr x.apart (PySem.mem_of_lookup h1) (PySem.mem_of_lookup h2)
 ·have hy:scope.names.lookup y=some .cell∨scope.names.lookup y=some .free:=hy
  rcases hy with hy|hy
  ·exact cell_has hy
  ·exact absurd rfl (S.nofree _ (PySem.mem_of_lookup hy))
 ·exact Nat.le_of_lt (x.above y c (PySem.mem_of_lookup h))
 ·have hi:i < vs.length:=by
   unfold start at h2;by_cases hi:i < vs.length
   ·exact hi
   ·rw [List.getElem?_append_right (by simpa using hi)] at h2
    rw [List.getElem?_replicate] at h2;split at h2<;>cases h2
  have ha:vs[i]?=some v:=by
   unfold start at h2;rw [Za1 (by simpa using hi),Zj] at h2;cases e:vs[i]? with
   | none=>rw [e] at h2;cases h2
   | some a=>rw [e] at h2;cases h2;rfl
  obtain ⟨u,hu,rv⟩:=r.get ha;have hp:ps[i]?=some y:=by
   rw [←S.pre,List.getElem?_take_of_lt (by omega)];exact h1
  have ndP:ps.Nodup:=by rw [←S.pre];exact S.nd.sublist (List.take_sublist _ _)
  refine ⟨u,rv,?_⟩;rcases S.par y (List.mem_of_getElem? hp) with k|k
  ·exact .inl ⟨k,bindL_get ndP hp hu k⟩
  ·obtain ⟨c,e⟩:=cell_has (n:=s.heap.objs.size+1) k
   refine .inr ⟨.inl k,c,e,?_⟩;have q:=x.cell y c e;rw [bindC_get ndP hp hu (by show scope.names.lookup y≠_;rw [k];decide)] at q;exact q
 ·exact e0.hok.fresh (Nat.le_of_lt (x.above y c (PySem.mem_of_lookup h)))
 ·unfold start
  show _=N.length;rw [Zp,Zd,List.length_replicate];omega
theorem fn_of {CX:CXT}{P:Program}{w:World}{K:PySem.W.Frag}{mg:Str→Option Value}{base:Heap}{k:Nat}{f:Addr}{name qual:Str}{params:Arguments}{body:List Stmt}{scope:Scope}{dV kV doc pm cdv ct oc:Value}{an od:Option Addr}
  {osl:Array (Option Value)}{N ps:List Str}{sp:Sp}(lk:K.lookup f=some ⟨oc,od,.func (PySem.W.fnOf name qual params body scope dV kV doc pm an cdv ct),osl⟩) (hcd:PySem.W.codeIn K cdv qual=true) (S:FnScope N ps scope)
  (len:∀vs H Q E,sp vs H Q E→vs.length=ps.length)
  (hbody:∀(A:Around) (outer:List Env) (s:Shared) (H:Hp) (vs:List V) (Q:VK) (E:XK),Room k (A.deeper (envOfC qual scope s.heap.objs.size f cdv))→sp vs H Q E →
   ∃t,PSs (cxOf CX P w K mg base N qual scope f cdv A outer s H E) body t∧t { nx:=fun _ H'=>Q .non H',rt:=Q } (start N vs) H) :
  FnOk P w K mg base CX (k+1) f (PySem.W.fnOf name qual params body scope dV kV doc pm an cdv ct) ps sp:=by
 refine ⟨len,fun A outer s H args us vs Q E hr e0 hb r hsp=>?_⟩;have hl:=len _ _ _ _ hsp;have KX:K.In s.heap:=e0.mod.kin.keeps fun b o e=>(e0.bs b o e).1;have lim:s.heap.NoLimit:=e0.mod.nolimit.keeps fun b o e=>(e0.bs b o e).1;have hkind:∀y∈ps.zip us,scope.names.lookup y.1=some .local∨(scope.names.lookup y.1=some .cell∧((cellsFrom (s.heap.objs.size+1) scope.names []).lookup y.1).isSome=true):=fun ⟨n,v⟩ hy=>by
  rcases S.par n (List.of_mem_zip hy).1 with q|q
  ·exact .inl q
  ·exact .inr ⟨q,PySem.W.cellsFrom_some _ _ _ (.inl q)⟩
 refine codeAny_call_function hr.depth (KX _ _ lk) rfl S.co S.gen rfl (PySem.W.codeRec_of KX hcd) (hb _ _ _ _ ?_);refine wpAny_newFunctionEnv_cells S.kind hkind fun env he s1 x=>?_;subst he;refine ⟨lim.keeps x.toInCall.keep,codeAny_func ?_⟩;obtain ⟨t,ht,hq⟩:=hbody A outer s H vs Q E (hr.deeper _) hsp;have I:Inv (cxOf CX P w K mg base N qual scope f cdv A outer s H E) [] (start N vs) H s1:=inv_start S hr.hd e0 hl r x;refine wpAny_mono (ht [] s1 (start N vs) H _ I hq) (fun fl s' hs=>?_) fun e s' hs=>hs;have fin:∀{σ':St}{H':Hp}{v:V}{u:Value},Inv (cxOf CX P w K mg base N qual scope f cdv A outer s H E) [] σ' H' s'→RelV v u→Q v H'→CE outer P w H s Q u s' :=
  fun {σ' H' v u} J rv q=>⟨v,H',J.os,J.bare,J.base,J.hok,rv,q⟩
 cases fl with
 | ret u =>
  obtain ⟨v,σ',H',J,rv,q⟩:=hs;exact fin J rv q
 | next =>
  obtain ⟨σ',H',J,q⟩:=hs;exact fin (v:=V.non) (u:=Value.none) J rfl q
 | brk =>
  obtain ⟨_,_,_,q⟩:=hs;exact False.elim q
 | cont =>
  obtain ⟨_,_,_,q⟩:=hs;exact False.elim q
section
variable {X:Cx}{x:Str}{p pos:Pos}{e:Expr}{es:List Expr}{t:TA}{id T:String}{r:List V→Hp→VK→Prop}
def tCB (r:List V→Hp→VK→Prop) (t:TA):TE:=fun σ H Q=>t σ H fun vs H1=>r vs H1 Q
theorem pe_callB (hc:CallR X (.builtin id) r) (hg:Gl X x) (hm:X.mg x=none) (hv:bootBuiltins x=some (.builtin id)) (ha:PA X (e::es) t) (hn:x≠"__name__":=by decide) (hdb:(x==("__debug__" : Str))=false:=by decide)
  (he:starEach (e::es) X.env=(false,eval e X.env)::starEach es X.env:=by rfl) (hpl:(backTo pos (starEach es X.env)).any (·.1)=false:=by rfl):PE X (.Call (.Name x p) (e::es) [] pos) (tCB r t):=by
 intro pins s σ H Q I h;refine wpAny_Call_Name_kw (ld_blt I hg hm hv ?_ hn hdb);exact PyProof.Rows.callWith_builtin1 (thn (ha pos pins s σ H _ I h) fun us s1 ⟨vs,H1,I1,r1,q1⟩=>hc pins s1 σ H1 vs us Q I1 r1 q1) he hpl
theorem pe_callTy (hc:CallR X (.type T) r) (hg:Gl X x) (hm:X.mg x=none) (hv:bootBuiltins x=some (.type T)) (ha:PA X (e::es) t) (hn:x≠"__name__":=by decide) (hdb:(x==("__debug__" : Str))=false:=by decide)
  (he:starEach (e::es) X.env=(false,eval e X.env)::starEach es X.env:=by rfl) (hpl:(backTo pos (starEach es X.env)).any (·.1)=false:=by rfl):PE X (.Call (.Name x p) (e::es) [] pos) (tCB r t):=by
 intro pins s σ H Q I h;refine wpAny_Call_Name_kw (ld_blt I hg hm hv ?_ hn hdb);exact PyProof.Rows.callWith_type1 (thn (ha pos pins s σ H _ I h) fun us s1 ⟨vs,H1,I1,r1,q1⟩=>hc pins s1 σ H1 vs us Q I1 r1 q1) he hpl
end
end L2
namespace HT
open PySem PyProof.Rows
section
variable {prog:Program}{w:World}{A:Around}{E:Value→Shared→Prop}{s:Shared}
def sIx (n d:Nat):Option Int→Nat
 | none=>d
 | some v=>if v < 0 then (v + (n:Int)).toNat else min v.toNat n
end
end HT
namespace L2
open PySem PySem.Spec PyProof.Rows
abbrev TO:=St→Hp→(Option Int→Hp→Prop)→Prop
def PO (X:Cx) (e:Option Expr) (t:TO):Prop :=
 ∀(pins:List (Addr×Obj)) (s:Shared) (σ:St) (H:Hp) (Q:Option Int→Hp→Prop),Inv X pins σ H s→t σ H Q →
  wpAny (model X.prog X.w) X.A (evalPart e X.env) (fun u s'=>∃o H',Inv X pins σ H' s'∧IsPart u o∧Q o H') X.xe s
def tNoPart:TO:=fun _ H Q=>Q none H
def tPart (t:TE):TO:=fun σ H Q=>t σ H fun x H1=>∃i,x=.int i∧Q (some i) H1
section
variable {X:Cx}{e:Expr}{te:TE}{lo hi:Option Expr}{tl th:TO}{pos p2:Pos}
theorem po_none:PO X none tNoPart:=by
 intro pins s σ H Q I h;rw [evalPart_none];exact wpAny_pure ⟨none,H,I,.none,h⟩
theorem po_some (h:PE X e te):PO X (some e) (tPart te):=by
 intro pins s σ H Q I hw;rw [evalPart_some];refine thn (h pins s σ H _ I hw) fun u s1 ⟨x,H1,I1,r1,q1⟩=>?_;obtain ⟨i,rfl,q⟩:=q1;obtain ⟨t,rfl⟩:=r1;exact ⟨some i,H1,I1,.int i t,q⟩
def SlR (X:Cx) (r:V→Option Int→Option Int→Hp→VK→Prop):Prop :=
 ∀(pins:List (Addr×Obj)) (s:Shared) (σ:St) (H:Hp) (x:V) (v vl vu:Value) (lo hi:Option Int) (sl:Addr) (Q:VK),Inv X pins σ H s→RelV x v→s.heap.IsSliceOf sl vl vu .none→IsPart vl lo→IsPart vu hi→r x lo hi H Q →
  ∃T id,typeLookup (.type T) "__getitem__" = pure (some (.builtin id))∧s.TypeIs v T∧wpAny (model X.prog X.w) X.A (getItem v (.ref sl)) (EP X pins σ Q) X.xe s
def tSl (r:V→Option Int→Option Int→Hp→VK→Prop) (te:TE) (tl th:TO):TE:=fun σ H Q=>te σ H fun x H1=>tl σ H1 fun l H2=>th σ H2 fun u H3=>r x l u H3 Q
theorem pe_slice {r:V→Option Int→Option Int→Hp→VK→Prop}(hr:SlR X r) (he:PE X e te) (hl:PO X lo tl) (hu:PO X hi th):PE X (.Subscript e (.Slice lo hi none p2) pos) (tSl r te tl th):=by
 intro pins s σ H Q I h;refine Subscript_ (thn (he pins s σ H _ I h) fun v s1 ⟨x,H1,I1,r1,q1⟩=>?_);refine wpAny_Slice (thn (hl pins s1 σ H1 _ I1 q1) fun vl s2 ⟨l,H2,I2,pl,q2⟩=>thn (hu pins s2 σ H2 _ I2 q2) fun vu s3 ⟨u,H3,I3,pu,q3⟩=>?_);rw [evalPart_none];refine wpAny_pure ?_;have I4:Inv X pins σ H3 { s3 with heap:=s3.heap.push { cls:=.type "slice",data:=.fields #[vl,vu,.none] } }:=I3.kept (t':=s3.toks) fun b ob q=>Heap.get?_push_of_some _ q;obtain ⟨T,id,hT,ht,hg⟩:=hr pins { s3 with heap:=s3.heap.push { cls:=.type "slice",data:=.fields #[vl,vu,.none] } } σ H3 x v vl vu l u s3.heap.objs.size Q I4 r1 (Heap.IsSliceOf.new ..) pl pu q3;show wpAny (model X.prog X.w) X.A (subscriptTail e (.Slice lo hi none p2) v (.ref s3.heap.objs.size)) (EP X pins σ Q) X.xe { s3 with heap:=s3.heap.push { cls:=.type "slice",data:=.fields #[vl,vu,.none] } };exact tail_any (ops:=[.ref s3.heap.objs.size,v]) ht hT hg (by with_unfolding_all rfl)
def cutV (xs:List V) (lo hi:Option Int):List V:=(xs.drop (HT.sIx xs.length 0 lo)).take (HT.sIx xs.length xs.length hi - HT.sIx xs.length 0 lo)
theorem cutV_length (xs:List V) (lo hi:Option Int):(cutV xs lo hi).length≤xs.length:=by
 unfold cutV;rw [Zq1,List.length_drop];omega
end
def ixN (n:Nat) (i:Int):Option Nat:=if 0≤i then (if i < n then some i.toNat else none) else if -(n:Int)≤i then some (i+n).toNat else none
def atI {α:Type}(xs:List α) (i:Int):Option α:=(ixN xs.length i).bind fun j=>xs[j]?
theorem ixN_seq {n:Nat}{i:Int}{j:Nat}(h:ixN n i=some j):seqIndex? i n=some j∧j < n∧-(n:Int)≤i∧i < n:=by
 unfold ixN at h;by_cases h0:0≤i
 ·rw [if_pos h0] at h
  by_cases h1:i < n
  ·rw [if_pos h1] at h
   have e:i.toNat=j:=Option.some.inj h;exact ⟨by rw [seqIndex_of h0 h1,e],by omega,by omega,h1⟩
  ·rw [if_neg h1] at h;cases h
 ·rw [if_neg h0] at h
  by_cases h1:-(n:Int)≤i
  ·rw [if_pos h1] at h
   have e:(i+n).toNat=j:=Option.some.inj h;exact ⟨by rw [seqIndex_neg (by omega) h1,e],by omega,h1,by omega⟩
  ·rw [if_neg h1] at h;cases h
theorem atI_get {α:Type}{xs:List α}{i:Int}{v:α}(h:atI xs i=some v):∃j,seqIndex? i xs.length=some j∧xs[j]?=some v∧j < xs.length∧-(xs.length:Int)≤i∧i < xs.length:=by
 unfold atI at h;cases e:ixN xs.length i with
 | none=>rw [e] at h;cases h
 | some j =>
  rw [e] at h;obtain ⟨h1,h2,h3,h4⟩:=ixN_seq e;exact ⟨j,h1,h,h2,h3,h4⟩
def PlainIx (b:Expr):Prop:=∀o i,subscripted b false o i=operate [o,i] (getItem o i)
def IxR (X:Cx) (r:R2):Prop :=
 ∀(value slice:Expr) (pins:List (Addr×Obj)) (s:Shared) (σ:St) (H:Hp) (x y:V) (v u:Value) (Q:VK),Inv X pins σ H s→RelV x v→RelV y u→r x y H Q →
  subscripted slice false v u=operate [v,u] (getItem v u)→wpAny (model X.prog X.w) X.A (subscriptTail value slice v u) (EP X pins σ Q) X.xe s
def MtR (X:Cx) (id:String) (r:V→List V→Hp→VK→Prop):Prop :=
 ∀(pins:List (Addr×Obj)) (s:Shared) (σ:St) (H:Hp) (x:V) (xs:List V) (v:Value) (us:List Value) (Q:VK),Inv X pins σ H s→RelV x v→Vals xs us→r x xs H Q →
  wpAny (model X.prog X.w) X.A (call (.builtin id) (v::us)) (EP X pins σ Q) X.xe s
section
variable {X:Cx}{a b:Expr}{ta tb:TE}{pos:Pos}
theorem pe_ix {r:R2}(hr:IxR X r) (ha:PE X a ta) (hb:PE X b tb) (hs:PlainIx b):PE X (.Subscript a b pos) (tOp r ta tb):=by
 intro pins s σ H Q I h;exact Subscript_ (binT ha hb I h fun v u s2 x y H2 I2 rx ry q=>hr a b pins s2 σ H2 x y v u Q I2 rx ry q (hs _ _))
def rIxL (K:PySem.W.Frag):R2:=fun x y H Q=>∃p xs i v,x=.ref p∧y=.int i∧SqL K H p xs∧atI xs i=some v∧Q v H
theorem ix_list:IxR X (rIxL X.K):=by
 intro value slice pins s σ H x y v u Q I rx ry h hs;obtain ⟨p,xs,i,z,rfl,rfl,hq,he,q⟩:=h;cases rx;obtain ⟨t,rfl⟩:=ry;obtain ⟨its,r,pl,hz⟩:=I.list hq;obtain ⟨j,h1,h2,h3,h4,h5⟩:=atI_get he;obtain ⟨w,ew,rw'⟩:=r.get h2;have hl:=r.length;have hn:=line63;have fin:EP X pins σ Q w s:=⟨z,H,I,rw',q⟩
 by_cases h0:0≤i
 ·have hj:i.toNat=j:=by
   rw [seqIndex_of h0 h5] at h1;exact Option.some.inj h1
  exact item_listR pl.isList h0 (by omega) (by rw [hj];simpa using ew) fin hs
 ·have hj:(i + (its.toArray.size:Int)).toNat=j:=by
   rw [seqIndex_neg (by omega) h4] at h1;rw [Zm,←hl];exact Option.some.inj h1
  exact subscriptTail_builtinR (x:=w) pl.isList.typeIs slot_list_getitem.lookup
   (wpAny_getItem_list_neg (Q:=fun r s'=>r=w∧EP X pins σ Q r s') pl.isList (by omega) (by rw [Zm]<;>omega) (by omega) (by rw [hj];simpa using ew) ⟨rfl,fin⟩) hs
theorem slice_bounds (lo hi:Option Int) (n:Nat):(sliceBounds lo hi none n).1=((HT.sIx n 0 lo:Nat):Int)∧(sliceBounds lo hi none n).2.1=((HT.sIx n n hi:Nat):Int)∧(sliceBounds lo hi none n).2.2=1:=by
 refine ⟨?_,?_,rfl⟩
 ·cases lo with
  | none=>simp [sliceBounds,HT.sIx]
  | some i =>
   simp only [sliceBounds,HT.sIx,Option.getD_none,show (1:Int) > 0 by decide,if_true];by_cases h:i < 0
   ·simp only [h,if_true]<;>omega
   ·simp only [h,if_false]<;>omega
 ·cases hi with
  | none=>simp [sliceBounds,HT.sIx]
  | some i =>
   simp only [sliceBounds,HT.sIx,Option.getD_none,show (1:Int) > 0 by decide,if_true];by_cases h:i < 0
   ·simp only [h,if_true]<;>omega
   ·simp only [h,if_false]<;>omega
theorem slicePick_cut (its:List Value) (lo hi:Option Int):slicePick its.toArray lo hi none=((its.drop (HT.sIx its.length 0 lo)).take (HT.sIx its.length its.length hi - HT.sIx its.length 0 lo)).toArray:=by
 obtain ⟨h1,h2,h3⟩:=slice_bounds lo hi its.toArray.size;unfold slicePick;rw [h1,h2,h3];simp only [sliceRange_one,pick_run,Zm]<;>rfl
def rSlL (K:PySem.W.Frag):V→Option Int→Option Int→Hp→VK→Prop:=fun x lo hi H Q=>∃a xs,x=.ref a∧SqL K H a xs∧∀p,H p=none→Q (.ref p) (upd H p (.lst (cutV xs lo hi)))
theorem sl_list:SlR X (rSlL X.K):=by
 intro pins s σ H x v vl vu lo hi sl Q I rx hs pl pu h;obtain ⟨a,xs,rfl,hx,q⟩:=h;cases rx;obtain ⟨its,r,ht,hz⟩:=I.list hx;have hlen:=r.length;refine ⟨"list",_,slot_list_getitem.lookup,ht.isList.typeIs,?_⟩;refine wpAny_getItem_list_slice ht.isList hs pl pu .none (by simp) ?_ (by rw [Zm]<;>omega);rw [slicePick_cut,←hlen];refine ⟨.ref s.heap.objs.size,_,I.laid (t':=s.toks) (o:=.lst (cutV xs lo hi)) (fun b ob q=>Heap.get?_push_of_some _ q) (Nat.le_refl _) ?_,rfl,q _ (I.hok.fresh (Nat.le_refl _))⟩;exact ⟨Nat.le_trans (cutV_length xs lo hi) hz,_,0,(r.drop (HT.sIx xs.length 0 lo)).take (HT.sIx xs.length xs.length hi - HT.sIx xs.length 0 lo),Heap.get?_push_size _ rfl⟩
def flatV:V→Bool
 | .non=>true
 | .bl _=>true
 | .int _=>true
 | .str _=>true
 | _=>false
def eqV:V→V→Bool
 | .non,.non=>true
 | .bl a,.bl b=>a==b
 | .bl a,.int b=>(if a then 1 else 0)==b
 | .int a,.bl b=>a==(if b then 1 else 0)
 | .int a,.int b=>a==b
 | .str a,.str b=>a==b
 | _,_=>false
theorem eqAt_V {A:Around}{s:Shared}{y x:V}{u v:Value}(ry:RelV y u) (rx:RelV x v) (fy:flatV y=true) (fx:flatV x=true):SeqAt.EqAt A s u v (eqV y x):=by
 cases y with
 | non =>
  cases ry;cases x with
  | non=>cases rx;exact SeqAt.EqAt.same _
  | bl b=>cases rx;exact SeqAt.EqAt.none_bool b
  | int b=>obtain ⟨t,rfl⟩:=rx;exact SeqAt.EqAt.none_int b t
  | str b=>obtain ⟨t,rfl⟩:=rx;exact SeqAt.EqAt.none_str b t
  | _=>exact absurd (show false=true from fx) Zl
 | bl a =>
  cases ry;cases x with
  | non=>cases rx;exact SeqAt.EqAt.bool_none a
  | bl b=>cases rx;exact SeqAt.EqAt.bool_bool a b
  | int b=>obtain ⟨t,rfl⟩:=rx;exact SeqAt.EqAt.bool_int a b t
  | str b=>obtain ⟨t,rfl⟩:=rx;exact SeqAt.EqAt.bool_str a b t
  | _=>exact absurd (show false=true from fx) Zl
 | int a =>
  obtain ⟨t',rfl⟩:=ry;cases x with
  | non=>cases rx;exact SeqAt.EqAt.int_none a t'
  | bl b=>cases rx;exact SeqAt.EqAt.int_bool a t' b
  | int b=>obtain ⟨t,rfl⟩:=rx;exact SeqAt.EqAt.int_int a t' b t
  | str b=>obtain ⟨t,rfl⟩:=rx;exact SeqAt.EqAt.int_str a t' b t
  | _=>exact absurd (show false=true from fx) Zl
 | str a =>
  obtain ⟨t',rfl⟩:=ry;cases x with
  | non=>cases rx;exact SeqAt.EqAt.str_none a t'
  | bl b=>cases rx;exact SeqAt.EqAt.str_bool a t' b
  | int b=>obtain ⟨t,rfl⟩:=rx;exact SeqAt.EqAt.str_int a t' b t
  | str b=>obtain ⟨t,rfl⟩:=rx;exact SeqAt.EqAt.str_str a t' b t
  | _=>exact absurd (show false=true from fx) Zl
 | _=>exact absurd (show false=true from fy) Zl
def eqU (x:V) (u:Value):Bool:=match u with
 | .none=>eqV .non x
 | .bool b=>eqV (.bl b) x
 | .int i _=>eqV (.int i) x
 | .str z _=>eqV (.str z) x
 | _=>false
theorem eqU_of {x y:V}{u:Value}(r:RelV y u) (f:flatV y=true):eqU x u=eqV y x:=by
 cases y with
 | non=>cases r;rfl
 | bl b=>cases r;rfl
 | int i=>obtain ⟨t,rfl⟩:=r;rfl
 | str z=>obtain ⟨t,rfl⟩:=r;rfl
 | _=>exact absurd (show false=true from f) Zl
theorem any_eqU {x:V}:∀{xs:List V}{us:List Value},Vals xs us→xs.all flatV=true→us.any (eqU x)=xs.any fun y=>eqV y x
 | _,_,.nil,_=>rfl
 | y::xs,u::us,.cons r t,f=>by
  rw [List.all_cons,Zc1] at f;rw [List.any_cons,List.any_cons,eqU_of r f.1,any_eqU t f.2]
theorem mem_eqAt {A:Around}{s:Shared}{x:V}{v:Value}(rx:RelV x v) (fx:flatV x=true):∀{xs:List V}{us:List Value},Vals xs us→xs.all flatV=true→∀u∈us,SeqAt.EqAt A s u v (eqU x u)
 | _,_,.nil,_=>fun u hu=>by cases hu
 | y::xs,u::us,.cons r t,f=>fun u' hu=>by
  rw [List.all_cons,Zc1] at f;rcases Zk.mp hu with rfl|hu
  ·rw [eqU_of r f.1];exact eqAt_V r rx f.1 fx
  ·exact mem_eqAt rx fx t f.2 u' hu
def inV (x:V) (xs:List V):Bool:=xs.any fun y=>eqV y x
def rIn (K:PySem.W.Frag) (neg:Bool):R2:=fun x y H Q=>∃p xs,y=.ref p∧(SqL K H p xs∨SqT K H p xs)∧flatV x=true∧xs.all flatV=true∧Q (.bl (if neg then !inV x xs else inV x xs)) H
theorem op_notIn_seq:OpR X (compareOp .NotIn) (rIn X.K true):=by
 intro pins s σ H x y v u Q I rx ry h;obtain ⟨p,xs,rfl,hq,fx,fs,q⟩:=h;cases ry;rcases hq with hq|hq
 ·obtain ⟨its,r,pl,hz⟩:=I.list hq
  refine SeqAt.notIn_listAt (eqU x) pl.isList (fun w hw=>mem_eqAt rx fx r fs w (by simpa using hw)) ⟨.bl _,H,I,rfl,?_⟩;rw [show its.toArray.any (eqU x)=its.any (eqU x) by simp,any_eqU r fs];exact q
 ·obtain ⟨its,r,pl,hz⟩:=I.tuple hq
  refine SeqAt.notIn_tupleAt (eqU x) pl (fun w hw=>mem_eqAt rx fx r fs w (by simpa using hw)) ⟨.bl _,H,I,rfl,?_⟩;rw [show its.toArray.any (eqU x)=its.any (eqU x) by simp,any_eqU r fs];exact q
theorem call_len_seq:CallR X (.builtin "len") (fun xs H Q=>∃p ys,xs = [.ref p]∧(SqL X.K H p ys∨SqT X.K H p ys)∧Q (.int ys.length) H):=by
 intro pins s σ H xs us Q I r h;obtain ⟨p,ys,rfl,hq,q⟩:=h;obtain ⟨u,rfl,rx⟩:=vals1 r;cases rx;have hn:=line63;rcases hq with hq|hq
 ·obtain ⟨its,r',pl,hz⟩:=I.list hq
  have hlen:=r'.length;exact Calls.call_len_list pl.isList (by simp only [Zm]<;>omega) ⟨.int ys.length,H,I.tok _,⟨s.toks+1,by rw [Zm,hlen]⟩,q⟩
 ·obtain ⟨its,r',pl,hz⟩:=I.tuple hq
  have hlen:=r'.length;exact len_tuple pl (by simp only [Zm]<;>omega) ⟨.int ys.length,H,I.tok _,⟨s.toks+1,by rw [Zm,hlen]⟩,q⟩
theorem call_len_str:CallR X (.builtin "len") (fun xs H Q=>∃z,xs = [.str z]∧z.length≤sizeLine∧Q (.int z.length) H):=by
 intro pins s σ H xs us Q I r h;obtain ⟨z,rfl,hz,q⟩:=h;obtain ⟨u,rfl,t,rfl⟩:=vals1 r;have hn:=line63;exact len_str (by omega) ⟨.int z.length,H,I.tok _,⟨_,rfl⟩,q⟩
theorem call_list_of:CallR X (.type "list") (fun xs H Q=>∃p ys,xs = [.ref p]∧(SqL X.K H p ys∨SqT X.K H p ys)∧∀l,H l=none→Q (.ref l) (upd H l (.lst ys))):=by
 intro pins s σ H xs us Q I r h;obtain ⟨p,ys,rfl,hq,q⟩:=h;obtain ⟨u,rfl,rx⟩:=vals1 r;cases rx;have fin:∀(its:List Value),Vals ys its→ys.length≤sizeLine→∀(h':Heap) (c':Nat),(∀b o',s.heap.get? b=some o'→h'.get? b=some o') →
   h'.get? s.heap.objs.size=some { cls:=.type "list",dict:=none,data:=.seq its.toArray c',slots:=#[] }→EP X pins σ Q (.ref s.heap.objs.size) { s with heap:=h' }:=fun its r' hz h' c' kp e =>
  ⟨.ref s.heap.objs.size,_,I.laid (t':=s.toks) kp (Nat.le_refl _) (show ObjOk X.prog X.w _ h' _ (.lst ys) from ⟨hz,its,c',r',e⟩),rfl,q _ (I.hok.fresh (Nat.le_refl _))⟩
 rcases hq with hq|hq
 ·obtain ⟨its,r',pl,hz⟩:=I.list hq
  have hlen:=r'.length;obtain ⟨o,ho,hc,n,hd⟩:=pl.isList;exact call_list_seq p (.inl rfl) ho hc hd (fun h' c' kp e=>fin its r' hz h' c' kp e) (by simp only [Zm]<;>omega)
 ·obtain ⟨its,r',pl,hz⟩:=I.tuple hq
  have hlen:=r'.length;obtain ⟨o,ho,hc,n,hd⟩:=pl;exact call_list_seq p (.inr rfl) ho hc hd (fun h' c' kp e=>fin its r' hz h' c' kp e) (by simp only [Zm]<;>omega)
theorem call_tuple_of:CallR X (.type "tuple") (fun xs H Q=>∃p ys,xs = [.ref p]∧((SqL X.K H p ys∧∀l,H l=none→Q (.ref l) (upd H l (.tup ys)))∨(SqT X.K H p ys∧Q (.ref p) H))):=by
 intro pins s σ H xs us Q I r h;obtain ⟨p,ys,rfl,h⟩:=h;obtain ⟨u,rfl,rx⟩:=vals1 r;cases rx;rcases h with ⟨hq,q⟩|⟨hq,q⟩
 ·obtain ⟨its,r',pl,hz⟩:=I.list hq
  have hlen:=r'.length;refine call_tuple_list pl.isList (fun h' kp=>?_) (by simp only [Zm]<;>omega);have I1:Inv X pins σ H { s with heap:=h' }:=I.kept (t':=s.toks) kp;have I2:Inv X pins σ (upd H h'.objs.size (.tup ys)) { s with heap:=h'.push { cls:=.type "tuple",data:=.seq its.toArray } } :=
   I1.laid (t':=s.toks) (fun b o e=>Heap.get?_push_of_some _ e) (Nat.le_refl _) (show ObjOk X.prog X.w _ _ _ (.tup ys) from ⟨hz,its,r',IsTup.new _ _⟩)
  exact ⟨.ref h'.objs.size,_,I2,rfl,q _ (I1.hok.fresh (Nat.le_refl _))⟩
 ·obtain ⟨its,r',pl,hz⟩:=I.tuple hq
  exact call_tuple_same pl ⟨.ref p,H,I,rfl,q⟩
def tyV (K:PySem.W.Frag) (T:String) (x:V) (H:Hp):Prop:=match x with
 | .str _=>T = "str"
 | .int _=>T = "int"
 | .ref p=>(T = "list"∧∃xs,SqL K H p xs)∨(T = "tuple"∧∃o,K.lookup p=some o∧o.cls=.type "tuple"∧o.dict=none) ∨
   (T = "dict"∧((∃kvs,H p=some (.dK kvs))∨∃kvs,H p=some (.dT kvs)))∨(T = "set"∧∃S n,H p=some (.set S n))
 | _=>False
theorem tyV_is {pins:List (Addr×Obj)}{σ:St}{H:Hp}{s:Shared}{T:String}{x:V}{v:Value}(I:Inv X pins σ H s) (r:RelV x v) (ty:tyV X.K T x H) :
  s.TypeIs v T∧∀a,v=.ref a→∃ob,s.heap.get? a=some ob∧ob.dict=none:=by
 cases x with
 | str z =>
  obtain ⟨t,rfl⟩:=r;cases (show T = "str" from ty);exact ⟨typeIs_str s z t,fun _ e=>nomatch e⟩
 | int i =>
  obtain ⟨t,rfl⟩:=r;cases (show T = "int" from ty);exact ⟨typeIs_int s i t,fun _ e=>nomatch e⟩
 | ref p =>
  cases r;rcases ty with ⟨rfl,xs,hq⟩|⟨rfl,o,hk,hc,hd⟩|⟨rfl,hk⟩|⟨rfl,S,n,hk⟩
  ·obtain ⟨its,_,pl,_⟩:=I.list hq
   refine ⟨pl.isList.typeIs,fun a e=>?_⟩;cases e;obtain ⟨o,n,e,c,hd,_⟩:=pl;exact ⟨o,e,hd⟩
  ·refine ⟨⟨o,I.kIn p o hk,hc⟩,fun a e=>?_⟩
   cases e;exact ⟨o,I.kIn _ o hk,hd⟩
  ·have z:∃o,s.heap.get? p=some o∧o.ExactDict:=by
    rcases hk with ⟨kvs,hk⟩|⟨kvs,hk⟩
    ·obtain ⟨_,_,_,_,o,_,_,e,ex,_⟩:=I.hok p _ hk
     exact ⟨o,e,ex⟩
    ·obtain ⟨_,_,_,_,o,_,_,e,ex,_⟩:=I.hok p _ hk
     exact ⟨o,e,ex⟩
   obtain ⟨o,e,ex⟩:=z;refine ⟨⟨o,e,ex.1⟩,fun a e2=>?_⟩;cases e2;exact ⟨o,e,ex.2.1⟩
  ·obtain ⟨o,_,_,_,e,ex,_⟩:=I.hok p _ hk
   refine ⟨⟨o,e,ex.1⟩,fun a e2=>?_⟩;cases e2;exact ⟨o,e,ex.2.1⟩
 | _=>exact False.elim ty
def tBM (K:PySem.W.Frag) (T:String) (r:V→List V→Hp→VK→Prop) (to:TE) (t:TA):TE:=fun σ H Q=>to σ H fun x H1=>tyV K T x H1∧t σ H1 fun xs H2=>r x xs H2 Q
variable {o e:Expr}{es:List Expr}{to:TE}{t:TA}{name:Str}{apos cpos:Pos}{T id:String}{r:V→List V→Hp→VK→Prop}
theorem pe_bm (pa:PlainAttrs T) (slot:Slot T name id) (hty:typeOf (.builtin id)=pure (.type "method_descriptor")) (hm:MtR X id r) (ho:PE X o to) (ha:PA X (e::es) t)
  (hbase:attributeBase o name X.env (eval o X.env)=eval o X.env:=by rfl)
  (hfew:((backTo cpos (starEach (e::es) X.env)).all (fun x=>!x.1)&&(backToKw cpos (keywordEach [] X.env)).all (fun x=>x.1.isSome)
   && decide ((e::es).length + ([]:List Keyword).length + (if ([]:List Keyword).isEmpty then 0 else 1) < 30))=true:=by rfl)
  (hline:(apos.endLine==cpos.line)=true:=by rfl) (hs:starEach (e::es) X.env=(false,eval e X.env)::starEach es X.env:=by rfl) (hplain:(backTo cpos (starEach es X.env)).any (·.1)=false:=by rfl) :
  PE X (.Call (.Attribute o name apos) (e::es) [] cpos) (tBM X.K T r to t):=by
 intro pins s σ H Q I h;refine wpAny_Call_method_late hbase hfew hline rfl (thn (ho pins s σ H _ I h) fun v s1 ⟨x,H1,I1,r1,ty,q1⟩=>?_);obtain ⟨h1,h2⟩:=tyV_is I1 r1 ty;refine ⟨T,id,pa,slot,hty,h1,h2,?_⟩;have hA:=ha cpos pins s1 σ H1 _ I1 q1;rw [hs] at hA ⊢;refine Calls.callWith_builtin (by show (false || (backTo cpos (starEach es X.env)).any (·.1))=false;rw [hplain]<;>rfl) (Calls.evalArgs_plain ?_);exact thn hA fun us s2 ⟨vs,H2,I2,r2,q2⟩=>hm pins s2 σ H2 x vs v us Q I2 r1 r2 q2
end
def MtM (X:Cx) (id:String) (r:V→List V→Hp→VK→Prop):Prop :=
 ∀(pins:List (Addr×Obj)) (s:Shared) (σ:St) (H:Hp) (x:V) (xs:List V) (v:Value) (us:List Value) (Q:VK),Inv X pins σ H s→RelV x v→Vals xs us→r x xs H Q →
  wpAny (model X.prog X.w) X.A (call (.builtin id) (v::us)) (EP X pins σ Q) X.xe s
theorem Vals.one:∀{x:V}{us:List Value},Vals [x] us→∃u,us = [u]∧RelV x u
 | _,_,.cons r .nil=>⟨_,rfl,r⟩
theorem Vals.rep {xs:List V}{us:List Value}(h:Vals xs us):∀k:Nat,Vals (List.replicate k xs).flatten (List.replicate k us).flatten
 | 0=>.nil
 | k+1=>by
  rw [List.replicate_succ,List.replicate_succ,List.flatten_cons,List.flatten_cons];exact Vals.append h (Vals.rep h k)
theorem foldl_rep (its:List Value):∀(k:Nat) (acc:List Value),
  List.foldl (fun x1 x2=>x1++x2) acc.toArray (List.replicate k its.toArray)=(acc++(List.replicate k its).flatten).toArray
 | 0,acc=>by simp
 | k+1,acc=>by
  have e:acc.toArray++its.toArray=(acc++its).toArray:=by simp
  have e2:(acc++its)++(List.replicate k its).flatten=acc++(List.replicate (k+1) its).flatten:=by
   rw [List.replicate_succ,List.flatten_cons,Zb1]
  rw [←e2,←foldl_rep its k (acc++its),←e,List.replicate_succ,List.foldl_cons]
section
variable {X:Cx}{pins:List (Addr×Obj)}{σ:St}{H:Hp}{s:Shared}{l b:Addr}{xs ys zs:List V}
theorem Inv.lset {its its':List Value}{n:Nat}{f:Array Value→Array Value}{t':Nat}(I:Inv X pins σ H s) (hH:H l=some (.lst xs))
  (e:s.heap.get? l=some { cls:=.type "list",data:=.seq its.toArray n }) (hf:f its.toArray=its'.toArray) (hv:Vals ys its') (hz:ys.length≤sizeLine) :
  Inv X pins σ (upd H l (.lst ys)) { s with heap:=s.heap.update l (Obj.mapSeq f),toks:=t' }:=by
 have q:=PySem.IsL.update e f;rw [hf] at q;refine I.write (x:=l) (e:=l) (by rw [hH];exact trivial) (.inl rfl) (fun b' u hb hu=>(Heap.get?_update_other s.heap (Obj.mapSeq f) (Ne.symm hb)).trans hu) ⟨_,q⟩ ?_;exact ⟨hz,its',_,hv,q⟩
theorem Inv.lnew {its:List Value}{t':Nat}(I:Inv X pins σ H s) (hv:Vals ys its) (hz:ys.length≤sizeLine) :
  Inv X pins σ (upd H s.heap.objs.size (.lst ys)) { s with heap:=s.heap.push { cls:=.type "list",data:=.seq its.toArray },toks:=t' } :=
 I.laid (fun _ _ q=>Heap.get?_push_of_some _ q) (Nat.le_refl _) ⟨hz,its,0,hv,Heap.get?_push_size _ rfl⟩
theorem Inv.fresh (I:Inv X pins σ H s):H s.heap.objs.size=none:=I.hok.fresh (Nat.le_refl _)
theorem Inv.lstM (I:Inv X pins σ H s) (hH:H l=some (.lst xs)):xs.length≤sizeLine∧∃(its:List Value) (n:Nat),Vals xs its∧xs.length=its.length∧s.heap.get? l=some { cls:=.type "list",data:=.seq its.toArray n }:=by
 obtain ⟨z,its,n,r,e⟩:=I.hok l _ hH;exact ⟨z,its,n,r,r.length,e⟩
theorem notLongL {n:Nat}(h:n≤sizeLine):Builtin.List.listTooLong n=false:=by
 unfold Builtin.List.listTooLong;exact Zo (by omega)
end
section
variable {X:Cx}
def rAppend:V→List V→Hp→VK→Prop:=fun x vs H Q=>∃l xs y,x=.ref l∧vs = [y]∧H l=some (.lst xs)∧xs.length < sizeLine∧Q .non (upd H l (.lst (xs++[y])))
theorem mt_append:MtM X "list.append" rAppend:=by
 intro pins s σ H x vs v us Q I rx rv h;obtain ⟨l,xs,y,rfl,rfl,hH,hz,q⟩:=h;cases rx;obtain ⟨u,rfl,ru⟩:=rv.one;obtain ⟨z,its,n,r,hl,e⟩:=I.lstM hH;refine call_meets F.slot_list_append ⟨_,e,rfl⟩ F.entry_list_append (F.args_list_append_2 _ _) (PySem.list_append l its.toArray n u (by rw [Zm];omega)) ⟨e,?_⟩;refine ⟨.non,_,I.lset (its':=its++[u]) hH e (by simp) (r.append (.cons ru .nil)) ?_,rfl,q⟩;rw [Zp,List.length_singleton];omega
def rRep:R2:=fun x y H Q=>∃l k xs,x=.ref l∧y=.int k∧H l=some (.lst xs)∧-(2 ^ 63)≤k∧k < 2 ^ 63∧xs.length * k.toNat≤sizeLine ∧
 ∀p,H p=none→Q (.ref p) (upd H p (.lst (List.replicate k.toNat xs).flatten))
theorem len_rep {α:Type}(xs:List α) (k:Nat):(List.replicate k xs).flatten.length=k * xs.length:=by
 induction k with
 | zero=>simp
 | succ k ih=>rw [List.replicate_succ,List.flatten_cons,Zp,ih,Nat.succ_mul,Nat.add_comm]
theorem op_rep:OpR X (binaryOp .Mult) rRep:=by
 intro pins s σ H x y v u Q I rx ry h;obtain ⟨l,k,xs,rfl,rfl,hH,h1,h2,hz,q⟩:=h;cases rx;obtain ⟨t,rfl⟩:=ry;obtain ⟨z,its,n,r,hl,e⟩:=I.lstM hH;have hlen:its.toArray.size * k.toNat≤sizeLine:=by rw [Zm,←hl];exact hz
 have hcap:¬its.toArray.size * k.toNat > (2 ^ 63 - 1) / 8:=by
  have:(sizeLine:Nat)≤(2 ^ 63 - 1) / 8:=by decide
  omega
 have hfit:¬(!Builtin.List.listFitsIndex k)=true:=by
  rw [fitsIndex_both h1 h2];exact Zl
 have hlong:¬Builtin.List.listTooLong (its.toArray.size * k.toNat)=true:=by
  rw [notLongL hlen];exact Zl
 have hnew:List.foldl (fun x1 x2=>x1++x2) #[] (List.replicate (if its.toArray.isEmpty=true then 0 else k.toNat) its.toArray)=(List.replicate k.toNat its).flatten.toArray:=by
  have f0:∀m:Nat,List.foldl (fun x1 x2=>x1++x2) #[] (List.replicate m its.toArray)=(List.replicate m its).flatten.toArray:=fun m=>by
   have:=foldl_rep its m [];rw [List.nil_append] at this;exact this
  rw [f0];cases its with
  | nil=>simp
  | cons a r'=>rw [if_neg (by simp)]
 refine wpAny_binaryOp_repeat_ref (T:="list") (U:="int") (by decide) ⟨_,e,rfl⟩ (fun s'=>typeIs_int s' k t) noFill_list_mul F.fills_int_mul F.slot_int_rmul repeat_list F.slot_int_index.lookup
  (call_meets F.slot_int_rmul (typeIs_int s k t) F.entry_int_rmul (F.args_int_rmul_2 _ _) (int___rmul___int_list k t l its.toArray n)
   ⟨e,rfl,⟨_,e,rfl⟩,call_meets F.slot_list_mul ⟨_,e,rfl⟩ F.entry_list_mul (F.args_list_mul_2 _ _) (AutoListH.list___mul___list_int_3 l its.toArray n k t hfit hcap hlong) ⟨e,?_⟩⟩)
 rw [hnew];exact ⟨.ref _,_,I.lnew (t':=s.toks) (r.rep k.toNat) (by rw [len_rep,Nat.mul_comm];exact hz),rfl,q _ I.fresh⟩
end
section
variable {κ:Type} [DecidableEq κ]
def valV (kvs:List (κ×V)) (k:κ):Option V:=(kvs.find? fun kv=>decide (kv.1=k)).map (·.2)
def putK (kvs:List (κ×V)) (k:κ) (v:V):List (κ×V) :=
 if (kvs.any fun kv=>decide (kv.1=k))=true then kvs.map (fun kv=>if kv.1=k then (kv.1,v) else kv) else kvs++[(k,v)]
theorem valV_pos {p:κ×V}{r:List (κ×V)}{k:κ}(e:p.1=k):valV (p::r) k=some p.2:=by simp [valV,List.find?_cons,e]
theorem valV_neg {p:κ×V}{r:List (κ×V)}{k:κ}(e:¬p.1=k):valV (p::r) k=valV r k:=by simp [valV,List.find?_cons,e]
theorem valV_any (k:κ):∀kvs:List (κ×V),(kvs.any fun kv=>decide (kv.1=k))=(valV kvs k).isSome
 | []=>rfl
 | p::r=>by
  rw [List.any_cons];by_cases e:p.1=k
  ·simp only [valV_pos e,Zn e,Bool.true_or,Option.isSome_some]
  ·rw [valV_neg e,Zo e,Bool.false_or];exact valV_any k r
theorem length_putK (kvs:List (κ×V)) (k:κ) (v:V):(putK kvs k v).length≤kvs.length+1:=by
 unfold putK;split
 ·rw [Zd];omega
 ·rw [Zp,Zq,List.length_nil];omega
theorem RelO.isSome_eq {o:Option V}{u:Option Value}(r:RelO o u):o.isSome=u.isSome:=by
 cases o with
 | none=>cases u with
  | none=>rfl
  | some _=>exact (show False from r).elim
 | some _=>cases u with
  | none=>exact (show False from r).elim
  | some _=>rfl
theorem KV.val {kvs:List (κ×V)}{vs:List (κ×Value)}(r:KV kvs vs) (k:κ):RelO (valV kvs k) (valueAt vs k):=by
 unfold KV at r
 induction r with
 | nil=>exact True.intro
 | @cons p q ps qs h t ih =>
  obtain ⟨h1,h2⟩:=h;by_cases e:p.1=k
  ·have e':q.1=k:=h1.symm.trans e
   have b:valueAt (q::qs) k=some q.2:=by simp [valueAt,List.find?_cons,e']
   rw [valV_pos e,b];exact h2
  ·have e':¬q.1=k:=fun z=>e (h1.trans z)
   have b:valueAt (q::qs) k=valueAt qs k:=by simp [valueAt,List.find?_cons,e']
   rw [valV_neg e,b];exact ih
theorem KV.any {kvs:List (κ×V)}{vs:List (κ×Value)}(r:KV kvs vs) (k:κ):(kvs.any fun kv=>decide (kv.1=k))=vs.any fun kv=>decide (kv.1=k):=by
 unfold KV at r
 induction r with
 | nil=>rfl
 | cons h t ih=>rw [List.any_cons,List.any_cons,ih,h.1]
theorem KV.repl {kvs:List (κ×V)}{vs:List (κ×Value)}(r:KV kvs vs) (k:κ) {y:V}{u:Value}(ry:RelV y u) :
  KV (kvs.map fun kv=>if kv.1=k then (kv.1,y) else kv) (vs.map fun kv=>if kv.1=k then (kv.1,u) else kv):=by
 unfold KV at r ⊢
 induction r with
 | nil=>exact .nil
 | @cons p q ps qs h t ih =>
  rw [Zh,Zh];refine .cons ?_ ih;obtain ⟨h1,h2⟩:=h;by_cases e:p.1=k
  ·rw [if_pos e,if_pos (h1.symm.trans e)];exact ⟨h1,ry⟩
  ·rw [if_neg e,if_neg (fun z=>e (h1.trans z))];exact ⟨h1,h2⟩
theorem KV.put {kvs:List (κ×V)}{vs:List (κ×Value)}(r:KV kvs vs) (k:κ) {y:V}{u:Value}(ry:RelV y u):KV (putK kvs k y) (stored vs k u):=by
 unfold putK stored;rw [r.any k];by_cases e:(vs.any fun kv=>decide (kv.1=k))=true
 ·rw [if_pos e,if_pos e];exact r.repl k ry
 ·rw [if_neg e,if_neg e];exact Paired.snoc r ⟨rfl,ry⟩
theorem KV.length {kvs:List (κ×V)}{vs:List (κ×Value)}(r:KV kvs vs):kvs.length=vs.length:=Paired.length r
end
theorem kV_is {P:Program}{w:World}{k:Key}{u:Value}(r:RelV (kV k) u):(mixKind P w).is k u=true:=by
 cases k with
 | inl i=>obtain ⟨t,e⟩:=(show ∃t,u=Value.int i t from r);subst e;exact mixKind_int P w i t
 | inr x=>obtain ⟨t,e⟩:=(show ∃t,u=Value.str x t from r);subst e;exact mixKind_str P w x t
theorem items_are {P:Program}{w:World}:∀{ks:List Key}{us:List Value},Vals (ks.map kV) us→ItemsAre (mixKind P w) ks us
 | [],_,r=>by rw [List.map_nil] at r;cases r;exact .nil
 | k::ks,_,r=>by
  rw [Zh] at r;cases r with
  | cons h t=>exact .cons (kV_is h) (items_are t)
abbrev KT (H:Hp):List (List Key×V)→List (List Key×Addr×Value)→Prop:=Paired fun p q=>p.1=q.1∧H q.2.1=some (.tup (p.1.map kV))∧RelV p.2 q.2.2
theorem KT.val {H:Hp}{kvs:List (List Key×V)}{xs:List (List Key×Addr×Value)}(r:KT H kvs xs) (k:List Key):RelO (valV kvs k) ((atKey xs k).map (·.2)):=by
 induction r with
 | nil=>exact True.intro
 | @cons p q ps qs h t ih =>
  obtain ⟨h1,_,h2⟩:=h;by_cases e:p.1=k
  ·have e':q.1=k:=h1.symm.trans e
   have b:atKey (q::qs) k=some q.2:=by simp [atKey,List.find?_cons,e']
   rw [valV_pos e,b];exact h2
  ·have e':¬q.1=k:=fun z=>e (h1.trans z)
   have b:atKey (q::qs) k=atKey qs k:=by simp [atKey,List.find?_cons,e']
   rw [valV_neg e,b];exact ih
theorem KT.repl {H:Hp}{kvs:List (List Key×V)}{xs:List (List Key×Addr×Value)}(r:KT H kvs xs) (k:List Key) {y:V}{u:Value}(ry:RelV y u) :
  KT H (kvs.map fun kv=>if kv.1=k then (kv.1,y) else kv) (xs.map (putAt k u)):=by
 induction r with
 | nil=>exact .nil
 | @cons p q ps qs h t ih =>
  rw [Zh,Zh];refine .cons ?_ ih;obtain ⟨h1,h2,h3⟩:=h;unfold putAt;by_cases e:p.1=k
  ·rw [if_pos e,if_pos (h1.symm.trans e)];exact ⟨h1,h2,ry⟩
  ·rw [if_neg e,if_neg (fun z=>e (h1.trans z))];exact ⟨h1,h2,h3⟩
theorem KT.put {H:Hp}{kvs:List (List Key×V)}{xs:List (List Key×Addr×Value)}(r:KT H kvs xs) (k:List Key) {b:Addr}{y:V}{u:Value}(hb:H b=some (.tup (k.map kV))) (ry:RelV y u) :
  KT H (putK kvs k y) (storedH xs k b u):=by
 have e:(kvs.any fun kv=>decide (kv.1=k))=(atKey xs k).isSome:=by
  rw [valV_any,(r.val k).isSome_eq,Zn1]
 unfold putK storedH;rw [e];by_cases q:(atKey xs k).isSome=true
 ·rw [if_pos q,if_pos q];exact r.repl k ry
 ·rw [if_neg q,if_neg q];exact Paired.snoc r ⟨rfl,hb,ry⟩
theorem KT.keeps {H H':Hp}{kvs:List (List Key×V)}{xs:List (List Key×Addr×Value)}(r:KT H kvs xs) (ht:∀b ys,H b=some (.tup ys)→H' b=some (.tup ys)):KT H' kvs xs :=
 Paired.mapP r fun _ _ z=>⟨z.1,ht _ _ z.2.1,z.2.2⟩
section
variable {P:Program}{w:World}{H:Hp}{h:Heap}{a:Addr}
theorem rd_of {u:HO}(ok:HOk P w H h) (e:Rd H a u):ObjOk P w H h a u:=e.ok ok
theorem dk_rd {kvs:List (Key×V)}(ok:HOk P w H h) (e:Rd H a (.dK kvs)):kvs.length≤sizeLine∧(a==sysModules)=false∧∃vs,KV kvs vs∧h.DictOf (mixKind P w) a vs :=
 show ObjOk P w H h a (.dK kvs) from rd_of ok e
theorem dk_of {kvs:List (Key×V)}(ok:HOk P w H h) (e:H a=some (.dK kvs)):kvs.length≤sizeLine∧(a==sysModules)=false∧∃vs,KV kvs vs∧h.DictOf (mixKind P w) a vs:=dk_rd ok (.inl e)
theorem key_of {ks:List Key}(ok:HOk P w H h) (e:H a=some (.tup (ks.map kV))):(tupleKind (mixKind P w)).is h ks a:=by
 obtain ⟨_,its,r,o,h1,h2,n,h3⟩:=(show ObjOk P w H h a (.tup (ks.map kV)) from ok a _ e)
 exact ⟨o,its.toArray,n,h1,h2,h3,by simpa using items_are r⟩
theorem dt_rd {kvs:List (List Key×V)}(ok:HOk P w H h) (e:Rd H a (.dT kvs)):kvs.length≤sizeLine∧(a==sysModules)=false ∧
  ∃xs,KT H kvs xs∧h.DictOfH (tupleKind (mixKind P w)) a xs:=by
 obtain ⟨z,y,xs,r,o,es,ep,h1,h2,h3,h4,h5⟩:=(show ObjOk P w H h a (.dT kvs) from rd_of ok e)
 refine ⟨z,y,xs,r,o,es,ep,h1,h2,h3,h4,fun x hx=>?_,h5⟩;have all:∀{l:List (List Key×V)}{m:List (List Key×Addr×Value)},KT H l m→∀x∈m,(tupleKind (mixKind P w)).is h x.1 x.2.1:=by
  intro l m q
  induction q with
  | nil=>intro x hx;exact nomatch hx
  | @cons p q ps qs hq t ih =>
   intro x hx;rcases Zk.mp hx with e|hx
   ·subst e
    exact key_of ok (by rw [←hq.1];exact hq.2.1)
   ·exact ih x hx
 exact all r x hx
theorem dt_of {kvs:List (List Key×V)}(ok:HOk P w H h) (e:H a=some (.dT kvs)):kvs.length≤sizeLine∧(a==sysModules)=false ∧
  ∃xs,KT H kvs xs∧h.DictOfH (tupleKind (mixKind P w)) a xs:=dt_rd ok (.inl e)
end
def DGet (H:Hp) (a:Addr) (y:V) (r:Option V):Prop :=
 (∃kvs k,Rd H a (.dK kvs)∧y=kV k∧r=valV kvs k)∨∃kvs k b,Rd H a (.dT kvs)∧y=.ref b∧H b=some (.tup (k.map kV))∧r=valV kvs k
def DPut (H:Hp) (a:Addr) (y v:V) (H':Hp):Prop :=
 (∃kvs k,H a=some (.dK kvs)∧y=kV k∧kvs.length < sizeLine∧H'=upd H a (.dK (putK kvs k v))) ∨
 ∃kvs k b,H a=some (.dT kvs)∧y=.ref b∧H b=some (.tup (k.map kV))∧kvs.length < sizeLine∧H'=upd H a (.dT (putK kvs k v))
theorem DPut.k {H:Hp}{a:Addr}{kvs:List (Key×V)}{k:Key}{v:V}(e:H a=some (.dK kvs)) (hl:kvs.length < sizeLine):DPut H a (kV k) v (upd H a (.dK (putK kvs k v))):=.inl ⟨kvs,k,e,rfl,hl,rfl⟩
section
variable {X:Cx}{pins:List (Addr×Obj)}{σ:St}{H:Hp}{s:Shared}{a:Addr}{y v:V}{u r:Value}{o:Option V}{A:Around}{E:Value→Shared→Prop}
theorem Inv.big (I:Inv X pins σ H s):sysModules < s.heap.objs.size:=by
 have h:mainGlobals < s.heap.objs.size:=(I.mod.glob.keeps I.bk).lt;exact Nat.lt_trans (by decide) h
theorem d_getItem {Q:Value→Shared→Prop}(hu:A.units+1 < cLine) (I:Inv X pins σ H s) (g:DGet H a y (some v)) (ry:RelV y u) (h:∀w' s',Inv X pins σ H s'→RelV v w'→Q w' s') :
  wpAny (model X.prog X.w) A (getItem (.ref a) u) Q E s:=by
 rcases g with ⟨kvs,k,e,ey,l⟩|⟨kvs,k,b,e,ey,eb,l⟩
 ·subst ey
  obtain ⟨z,hd,vs,rel,dd⟩:=dk_rd I.hok e;obtain ⟨w',hw,rw'⟩:=RelO.some_of (v:=v) (o:=valueAt vs k) (by rw [l];exact rel.val k);exact wpAny_getItem_of (kV_is ry) dd.mapOf hw (h w' _ (I.tok _) rw')
 ·subst ey
  cases (show u=Value.ref b from ry);obtain ⟨z,hd,xs,rel,dd⟩:=dt_rd I.hok e;obtain ⟨w',hw,rw'⟩:=RelO.some_of (v:=v) (o:=(atKey xs k).map (·.2)) (by rw [l];exact rel.val k);obtain ⟨p,hp,hp2⟩:=Zb.mp hw;refine wpAny_getItem_heap (tupleKind_room_in1 hu) (key_of I.hok eb) dd hp ?_;rw [hp2];exact h w' _ (I.tok _) rw'
theorem d_in {Q:Value→Shared→Prop}(hu:A.units+1 < cLine) (I:Inv X pins σ H s) (g:DGet H a y o) (ry:RelV y u) (h:∀s',Inv X pins σ H s'→Q (.bool o.isSome) s') :
  wpAny (model X.prog X.w) A (compareOp .In u (.ref a)) Q E s:=by
 rcases g with ⟨kvs,k,e,ey,l⟩|⟨kvs,k,b,e,ey,eb,l⟩
 ·subst ey
  obtain ⟨z,hd,vs,rel,dd⟩:=dk_rd I.hok e;refine wpAny_in_of (kV_is ry) hd dd.mapOf ?_;rw [←(rel.val k).isSome_eq,←l];exact h _ (I.tok _)
 ·subst ey
  cases (show u=Value.ref b from ry);obtain ⟨z,hd,xs,rel,dd⟩:=dt_rd I.hok e;refine wpAny_in_heap (tupleKind_room_in1 hu) (key_of I.hok eb) hd dd ?_;have q:=(rel.val k).isSome_eq;rw [Zn1] at q;rw [←q,←l];exact h _ (I.tok _)
theorem d_notIn {Q:Value→Shared→Prop}(hu:A.units+1 < cLine) (I:Inv X pins σ H s) (g:DGet H a y o) (ry:RelV y u) (h:∀s',Inv X pins σ H s'→Q (.bool (!o.isSome)) s') :
  wpAny (model X.prog X.w) A (compareOp .NotIn u (.ref a)) Q E s:=by
 rcases g with ⟨kvs,k,e,ey,l⟩|⟨kvs,k,b,e,ey,eb,l⟩
 ·subst ey
  obtain ⟨z,hd,vs,rel,dd⟩:=dk_rd I.hok e;refine wpAny_notIn_of (kV_is ry) hd dd.mapOf ?_;rw [←(rel.val k).isSome_eq,←l];exact h _ (I.tok _)
 ·subst ey
  cases (show u=Value.ref b from ry);obtain ⟨z,hd,xs,rel,dd⟩:=dt_rd I.hok e;refine wpAny_notIn_heap (tupleKind_room_in1 hu) (key_of I.hok eb) hd dd ?_;have q:=(rel.val k).isSome_eq;rw [Zn1] at q;rw [←q,←l];exact h _ (I.tok _)
theorem d_write {h':Heap}{t':Nat}{ob:HO}(I:Inv X pins σ H s) (mu:Mut (H a)) (hs:Heap.SameBut a s.heap h') (he:∃q,h'.get? a=some q) (new:ObjOk X.prog X.w (upd H a ob) h' a ob) :
  Inv X pins σ (upd H a ob) { s with heap:=h',toks:=t' } :=
 I.write (x:=a) (e:=a) mu (.inl rfl) (fun b q hb z=>(hs.2 b hb).trans z) he new
theorem dk_new {P:Program}{w:World}{H':Hp}{h':Heap}{kvs:List (Key×V)}{vs:List (Key×Value)}(z:kvs.length≤sizeLine) (hd:(a==sysModules)=false) (rel:KV kvs vs) (dd:h'.DictOf (mixKind P w) a vs) :
  ObjOk P w H' h' a (.dK kvs):=⟨z,hd,vs,rel,dd⟩
theorem d_setItem {H':Hp}{Q:Unit→Shared→Prop}(hu:A.units+1 < cLine) (I:Inv X pins σ H s) (g:DPut H a y v H') (ry:RelV y u) (rv:RelV v r) (h:∀s',Inv X pins σ H' s'→Q () s') :
  wpAny (model X.prog X.w) A (setItem (.ref a) u r) Q E s:=by
 rcases g with ⟨kvs,k,e,ey,l,eH⟩|⟨kvs,k,b,e,ey,eb,l,eH⟩
 ·subst ey eH
  obtain ⟨z,hd,vs,rel,dd⟩:=dk_of I.hok e;have hz:vs.length≤sizeLine:=by rw [←rel.length];exact z
  have hl:(putK kvs k v).length≤sizeLine:=by have:=length_putK kvs k v;omega
  refine wpAny_setItem_pairs (hsz:=hz) (kV_is ry) dd fun h' dd' hs=>h _ ?_;have he:∃q,h'.get? a=some q:=let ⟨q,_,_,hq,_⟩:=dd';⟨q,hq⟩;exact d_write I (by rw [e];exact True.intro) hs he (dk_new hl hd (rel.put k rv) dd')
 ·subst ey eH
  cases (show u=Value.ref b from ry);obtain ⟨z,hd,xs,rel,dd⟩:=dt_of I.hok e;have hz:xs.length≤sizeLine:=by rw [←Paired.length rel];exact z
  have hl:(putK kvs k v).length≤sizeLine:=by have:=length_putK kvs k v;omega
  refine wpAny_setItem_heap (hsz:=hz) (tupleKind_room_in1 hu) (key_of I.hok eb) dd fun h' dd' hs=>h _ ?_;obtain ⟨q,es,ep,hq,h2,h3,h4,_,h5⟩:=dd';refine d_write I (by rw [e];exact True.intro) hs ⟨q,hq⟩ ⟨hl,hd,_,(rel.put k eb rv).keeps fun c ys ec=>?_,q,es,ep,hq,h2,h3,h4,h5⟩;rw [upd_ne (ne_of ec e (fun z=>nomatch z))];exact ec
end
section
variable {X:Cx}{pins:List (Addr×Obj)}{σ:St}{H:Hp}{s:Shared}{a:Addr}{kvs:List (Key×V)}{k:Key}{u:Value}{A:Around}{E:Value→Shared→Prop}
theorem d_len {Q:Value→Shared→Prop}(I:Inv X pins σ H s) (e:Rd H a (.dK kvs)) (h:∀t s',Inv X pins σ H s'→Q (.int kvs.length t) s'):wpAny (model X.prog X.w) A (call (.builtin "len") [.ref a]) Q E s:=by
 obtain ⟨z,hd,vs,rel,dd⟩:=dk_rd I.hok e;refine call_len_dict hd dd (by rw [←rel.length];rw [sizeLine_eq] at z;omega) ?_;rw [←rel.length];exact h _ _ (I.tok _)
end
def NoSl (i:Expr):Prop:=∀ov iv,subscripted i false ov iv=operate [ov,iv] (getItem ov iv)
theorem subD_of {prog:Program}{w:World}{A:Around}{E:Value→Shared→Prop}{s:Shared}{env:Env}{value slice:Expr}{pos:Pos}{T id:String}{Q:Value→Shared→Prop}
  (hl:typeLookup (.type T) "__getitem__" = pure (some (.builtin id))) (hs:NoSl slice)
  (h:wpAny (model prog w) A (eval value env) (fun o s₁=>wpAny (model prog w) A (eval slice env) (fun i s₂=>s₂.TypeIs o T∧wpAny (model prog w) A (getItem o i) Q E s₂) E s₁) E s) :
  wpAny (model prog w) A (eval (.Subscript value slice pos) env) Q E s:=by
 refine Subscript_ (wpAny_mono h (fun o s₁ h₁=>wpAny_mono h₁ (fun i s₂ h₂=>?_) fun _ _ x=>x) fun _ _ x=>x);obtain ⟨hT,h₂⟩:=h₂;unfold subscriptTail;refine wpAny_bind ?_;rw [getitemInPython_of_ne hT.not_modules];refine wpAny_bind (wpAny_specialOf hT hl ?_);have fin:wpAny (model prog w) A (subscripted slice false o i) (fun r s₃=>wpAny (model prog w) A (letTemporaryGo value o r >>= fun _=>pure r) Q E s₃) E s₂:=by
  rw [hs o i];exact wpAny_operating (wpAny_mono h₂ (fun r s₃ h₃=>wpAny_bind (wpAny_letTemporaryGo (wpAny_pure h₃))) fun _ _ x=>x)
 first
  | exact wpAny_pure (wpAny_bind fin)
  | exact wpAny_bind (wpAny_pure (wpAny_bind fin))
  | exact wpAny_bind fin
theorem dict_typeIs {X:Cx}{pins:List (Addr×Obj)}{σ:St}{H:Hp}{s:Shared}{a:Addr}{y:V}{o:Option V}(I:Inv X pins σ H s) (g:DGet H a y o):s.TypeIs (.ref a) "dict":=by
 rcases g with ⟨kvs,k,e,_,_⟩|⟨kvs,k,b,e,_,_,_⟩
 ·obtain ⟨_,_,vs,_,dd⟩:=dk_rd I.hok e
  exact dd.typeIs
 ·obtain ⟨_,_,xs,_,dd⟩:=dt_rd I.hok e
  exact dd.typeIs
def tDGet (td ty:TE):TE:=fun σ H Q=>td σ H fun x H1=>ty σ H1 fun y H2=>∃a v,x=.ref a∧DGet H2 a y (some v)∧Q v H2
def tDIn (ty td:TE):TE:=fun σ H Q=>ty σ H fun y H1=>td σ H1 fun x H2=>∃a o,x=.ref a∧DGet H2 a y o∧Q (.bl o.isSome) H2
def tDNotIn (ty td:TE):TE:=fun σ H Q=>ty σ H fun y H1=>td σ H1 fun x H2=>∃a o,x=.ref a∧DGet H2 a y o∧Q (.bl (!o.isSome)) H2
def sDPut (td ty tv:TE):TS:=fun D σ H=>tv σ H fun v H1=>td σ H1 fun x H2=>ty σ H2 fun y H3=>∃a H4,x=.ref a∧DPut H3 a y v H4∧D.nx σ H4
section
variable {X:Cx}{o i e value:Expr}{pos pos' tpos:Pos}{td ty tv:TE}
theorem pe_dget (hu:X.A.units+1 < cLine) (ho:PE X o td) (hi:PE X i ty) (hs:NoSl i):PE X (.Subscript o i pos) (tDGet td ty):=by
 intro pins s σ H Q I h;refine subD_of PySem.F.slot_dict_getitem.lookup hs (thn (ho pins s σ H _ I h) fun u s1 ⟨x,H1,I1,rx,q1⟩=>thn (hi pins s1 σ H1 _ I1 q1) fun iv s2 ⟨y,H2,I2,ry,a,v,ex,g,q2⟩=>?_);subst ex;obtain rfl:u=Value.ref a:=rx;exact ⟨dict_typeIs I2 g,d_getItem hu I2 g ry fun w' s3 I3 rw'=>⟨v,H2,I3,rw',q2⟩⟩
theorem pc_din (hu:X.A.units+1 < cLine) (hi:PE X i ty) (ho:PE X o td):PC X .In i o (tDIn ty td):=by
 intro pins s σ H Q I h;refine thn (hi pins s σ H _ I h) fun iv s1 ⟨y,H1,I1,ry,q1⟩=>thn (ho pins s1 σ H1 _ I1 q1) fun u s2 ⟨x,H2,I2,rx,a,ov,ex,g,q2⟩=>?_;subst ex;obtain rfl:u=Value.ref a:=rx;exact d_in hu I2 g ry fun s3 I3=>⟨.bl ov.isSome,H2,I3,rfl,q2⟩
theorem pc_dnotin (hu:X.A.units+1 < cLine) (hi:PE X i ty) (ho:PE X o td):PC X .NotIn i o (tDNotIn ty td):=by
 intro pins s σ H Q I h;refine thn (hi pins s σ H _ I h) fun iv s1 ⟨y,H1,I1,ry,q1⟩=>thn (ho pins s1 σ H1 _ I1 q1) fun u s2 ⟨x,H2,I2,rx,a,ov,ex,g,q2⟩=>?_;subst ex;obtain rfl:u=Value.ref a:=rx;exact d_notIn hu I2 g ry fun s3 I3=>⟨.bl (!ov.isSome),H2,I3,rfl,q2⟩
theorem ps_dput (hu:X.A.units+1 < cLine) (ho:PE X o td) (hi:PE X i ty) (hv:PE X value tv) (hs:swapsWith value (some (.Subscript o i pos')) pos.line X.env=pure false) :
  PS X (.Assign [.Subscript o i pos'] value pos) (sDPut td ty tv):=by
 intro pins s σ H D I h;refine wpAny_Assign_Subscript (thn (hv pins s σ H _ I h) fun r s1 ⟨v,H1,I1,rv,q1⟩=>thn (ho pins s1 σ H1 _ I1 q1) fun u s2 ⟨x,H2,I2,rx,q2⟩=>thn (hi pins s2 σ H2 _ I2 q2) fun iv s3 ⟨y,H3,I3,ry,a,H4,ex,g,q3⟩=>?_) hs;subst ex;obtain rfl:u=Value.ref a:=rx;exact d_setItem hu I3 g ry rv fun s4 I4=>⟨σ,H4,I4,q3⟩
end
theorem dk_empty {P:Program}{w:World}{H:Hp}(h:Heap) (hb:sysModules < h.objs.size):ObjOk P w H (h.push { cls:=.type "dict",data:=.dict #[] }) h.objs.size (.dK []) :=
 ⟨Nat.zero_le _,beq_eq_false_iff_ne.mpr (Ne.symm (Nat.ne_of_lt hb)),[],.nil,Heap.DictOf.new h⟩
def tDNewK:TE:=fun _ H Q=>∀p,H p=none→Q (.ref p) (upd H p (.dK []))
section
variable {X:Cx}{pos:Pos}
theorem pe_dnewK:PE X (.Dict [] [] pos) tDNewK:=fun pins s σ H Q I h =>
 wpAny_Dict_empty ⟨.ref s.heap.objs.size,_,I.laid (a:=s.heap.objs.size) (o:=.dK []) (t':=s.toks) (fun _ _ q=>Heap.get?_push_of_some _ q) (Nat.le_refl _) (dk_empty s.heap I.big),rfl,h _ (I.hok.fresh (Nat.le_refl _))⟩
end
def tPairs:List (TE×TE)→St→Hp→(List (V×V)→Hp→Prop)→Prop
 | [],_,H,Q=>Q [] H
 | (tk,tv)::r,σ,H,Q=>tk σ H fun x H1=>tv σ H1 fun y H2=>tPairs r σ H2 fun ps H3=>Q ((x,y)::ps) H3
abbrev VV:List (V×V)→List (Value×Value)→Prop:=Paired fun p q=>RelV p.1 q.1∧RelV p.2 q.2
def PPs (X:Cx) (pos:Pos) (keys:List (Option Expr)) (values:List Expr) (trs:List (TE×TE)):Prop :=
 ∀(pins:List (Addr×Obj)) (s:Shared) (σ:St) (H:Hp) (Q:List (V×V)→Hp→Prop),Inv X pins σ H s→tPairs trs σ H Q →
  wpAny (model X.prog X.w) X.A (evalPairs (pairTrees keys values X.env pos)) (fun vs s'=>∃ps H',Inv X pins σ H' s'∧VV ps vs∧Q ps H') X.xe s
theorem pps_nil {X:Cx}{pos:Pos}:PPs X pos [] [] []:=fun pins s σ H Q I h=>pairTrees_nil_walk ⟨[],H,I,.nil,h⟩
theorem pps_cons {X:Cx}{pos:Pos}{k v:Expr}{ks:List (Option Expr)}{vs:List Expr}{tk tv:TE}{trs:List (TE×TE)}(hk:PE X k tk) (hv:PE X v tv) (hr:PPs X pos ks vs trs) :
  PPs X pos (some k::ks) (v::vs) ((tk,tv)::trs):=fun pins s σ H Q I h =>
 pairTrees_cons_walk (thn (hk pins s σ H _ I h) fun u s1 ⟨x,H1,I1,rx,q1⟩=>thn (hv pins s1 σ H1 _ I1 q1) fun w2 s2 ⟨y,H2,I2,ry,q2⟩ =>
  thn (hr pins s2 σ H2 _ I2 q2) fun ws s3 ⟨ps,H3,I3,rel,q3⟩=>⟨(x,y)::ps,H3,I3,.cons ⟨rx,ry⟩ rel,q3⟩)
def mergeK (kvs more:List (Key×V)):List (Key×V):=more.foldl (fun acc kv=>putK acc kv.1 kv.2) kvs
theorem KV.merge:∀{more:List (Key×V)}{rs:List (Key×Value)}{kvs:List (Key×V)}{vs:List (Key×Value)},KV more rs→KV kvs vs→KV (mergeK kvs more) (merged vs rs):=by
 intro more rs kvs vs r;unfold KV at r
 induction r generalizing kvs vs with
 | nil=>intro q;exact q
 | @cons p q ps qs h t ih =>
  intro r0;have e:KV (putK kvs p.1 p.2) (stored vs q.1 q.2):=by
   have:=r0.put p.1 h.2;rw [←h.1];exact this
  exact ih e
theorem length_mergeK:∀(more kvs:List (Key×V)),(mergeK kvs more).length≤kvs.length+more.length
 | [],kvs=>by show kvs.length≤kvs.length+0;omega
 | p::r,kvs=>by
  have h1:=length_mergeK r (putK kvs p.1 p.2);have h2:=length_putK kvs p.1 p.2;show (mergeK (putK kvs p.1 p.2) r).length≤_;rw [Zq];omega
theorem carries_of {P:Program}{w:World}:∀{kvs:List (Key×V)}{ws:List (Value×Value)},VV (kvs.map fun kv=>(kV kv.1,kv.2)) ws→∃rs,Carries (mixKind P w) ws rs∧KV kvs rs
 | [],_,r=>by rw [List.map_nil] at r;cases r;exact ⟨[],True.intro,.nil⟩
 | p::kvs,_,r=>by
  rw [Zh] at r;cases r with
  | @cons a b as bs h t =>
   obtain ⟨rs,c,q⟩:=carries_of (P:=P) (w:=w) t;obtain ⟨b1,b2⟩:=b;exact ⟨(p.1,b2)::rs,⟨kV_is h.1,rfl,c⟩,.cons ⟨rfl,h.2⟩ q⟩
def tDisp (trs:List (TE×TE)):TE:=fun σ H Q=>∀p,H p=none→tPairs trs σ (upd H p (.dK [])) fun ps H2=>H2 p=some (.dK [])∧∃kvs:List (Key×V),ps=kvs.map (fun kv=>(kV kv.1,kv.2))∧kvs.length≤15∧Q (.ref p) (upd H2 p (.dK (mergeK [] kvs)))
theorem pe_disp {X:Cx}{pos:Pos}{keys:List (Option Expr)}{values:List Expr}{trs:List (TE×TE)}(h:PPs X pos keys values trs) (hall:keys.all (·.isSome)=true) (hl:keys.length=values.length) (h0:keys≠[])
  (h15:keys.length≤15):PE X (.Dict keys values pos) (tDisp trs):=by
 intro pins s σ H Q I q;have hn:=I.hok.fresh (Nat.le_refl s.heap.objs.size);have I1:=I.laid (a:=s.heap.objs.size) (o:=.dK []) (h':=s.heap.push { cls:=.type "dict",data:=.dict #[] }) (t':=s.toks) (fun _ _ q=>Heap.get?_push_of_some _ q) (Nat.le_refl _) (dk_empty s.heap I.big);refine wpAny_Dict_walk (knd:=mixKind X.prog X.w) hall hl h0 h15 (thn (h pins _ σ _ _ I1 (q _ hn)) fun ws s2 ⟨ps,H2,I2,rel,e,kvs,ep,lk,q2⟩=>?_);subst ep;obtain ⟨rs,c,rk⟩:=carries_of (P:=X.prog) (w:=X.w) rel;obtain ⟨z,hd,vs0,r0,dd⟩:=dk_of I2.hok e;cases r0;refine ⟨rs,c,dd,fun h' dd' hs=>⟨.ref s.heap.objs.size,_,?_,rfl,q2⟩⟩;have hz:(mergeK [] kvs).length≤sizeLine:=by
  have h1:=length_mergeK kvs [];rw [List.length_nil] at h1;rw [sizeLine_eq];omega
 have he:∃q,h'.get? s.heap.objs.size=some q:=let ⟨q,_,_,hq,_⟩:=dd';⟨q,hq⟩;exact d_write I2 (by rw [e];exact True.intro) hs he (dk_new hz hd (rk.merge .nil) dd')
def IsD (H:Hp) (a:Addr):Prop:=(∃kvs,Rd H a (.dK kvs))∨∃kvs,Rd H a (.dT kvs)
theorem isD_at {X:Cx}{pins:List (Addr×Obj)}{σ:St}{H:Hp}{s:Shared}{a:Addr}(I:Inv X pins σ H s) (d:IsD H a) :
  s.TypeIs (.ref a) "dict"∧(∀b,Value.ref a=.ref b→∃ob,s.heap.get? b=some ob∧ob.dict=none)∧(a==sysModules)=false:=by
 rcases d with ⟨kvs,e⟩|⟨kvs,e⟩
 ·obtain ⟨_,hd,vs,_,dd⟩:=dk_rd I.hok e
  refine ⟨dd.typeIs,fun b q=>?_,hd⟩;cases q;obtain ⟨ob,_,_,h1,h2,_⟩:=dd;exact ⟨ob,h1,h2.2.1⟩
 ·obtain ⟨_,hd,xs,_,dd⟩:=dt_rd I.hok e
  refine ⟨dd.typeIs,fun b q=>?_,hd⟩;cases q;obtain ⟨ob,_,_,h1,h2,_⟩:=dd;exact ⟨ob,h1,h2.2.1⟩
end L2
namespace Att
open PySem PySem.W PySem.Calls PyProof.Rows
theorem ints_of_wellAll {P:Params}{h:Heap}:∀(ns:List Int) (vs:List Value),WellAll P h vs (ns.map WData.int)→IntsAre vs ns:=by
 intro ns
 induction ns with
 | nil =>
  intro vs w;rw [List.map_nil] at w;cases w;exact .nil
 | cons n ns ih =>
  intro vs w;rw [Zh] at w;cases w with
  | cons a b =>
   cases a;exact .cons _ _ (ih _ b)
theorem script_of {l:OpenLaw}{n:Nat}(hn:l.most=some n) {P:Params}{h:Heap}{args:List WData}{vals:List Value}
  (hpre:l.row.toRowW.claim.pre args=true) (hwl:WellAll P h vals args) :
  ∃a vs ns,vals = [Value.ref a]∧args = [WData.list (ns.map WData.int)]∧h.get? a=some { cls:=.type "list",data:=.seq vs.toArray }∧IntsAre vs ns∧ns.length≤n:=by
 have hsh:WShape.hasAll [] args [.list .int]=true:=(pre_splitW hpre).1;have hc:l.pre.holds [] { args:=args }=true:=(pre_splitW hpre).2;obtain ⟨d,r,rfl,h1,h2⟩:=hasAllW_cons hsh;obtain rfl:=hasAllW_nil h2;obtain ⟨xs,rfl,h3⟩:=hasW_list h1;obtain ⟨ns,rfl⟩:=items_int h3;have hlen:ns.length≤n:=by
  unfold OpenLaw.pre at hc;have h4:(WTm.not (.lt (.lit (.int (n:Int))) (.len (.arg 0)))).holds [] { args:=[.list (ns.map .int)] }=true:=by
   have h4:=(holds_andW hc).1;rw [hn] at h4;exact h4
  have h5:=condW_of h4 (w_not (w_lt w_lit (w_len_list (w_arg rfl))));rw [Zd] at h5;refine Nat.le_of_not_lt fun q=>?_;have q':(n:Int) < ((ns.length:Nat):Int):=by omega
  first
   | (rw [Zn q'] at h5;exact absurd h5 (by decide))
   | (simp at h5;omega)
 cases hwl with
 | cons w1 w2 =>
  cases w2;cases w1 with
  | list ho hall=>exact ⟨_,_,ns,rfl,rfl,ho,ints_of_wellAll ns _ hall,hlen⟩
theorem post_true (l:OpenLaw) (args:List WData):l.row.toRowW.claim.post args (.bool true) args=true :=
 postW_of (r:=l.row.toRowW) (X:=(true==true))
  (show WShape.has [] (.bool true) .bool=true by first|rfl|decide|simp [WShape.has,WShape.arms,WShape.armsAll])
  (show (WTm.eq .res (.lit (.bool true))).value [] { args:=args,res:=some (.bool true),after:=args }=some (.bool (true==true)) from w_eq_bool (w_res rfl) w_lit) rfl
theorem attach_call {l:OpenLaw}{n:Nat}{q:Program}{loose:List Str}{XP:(Str→Option Value)→Heap→Prop}{YP:World→Heap→Prop}{d:DefRec}
  (hn:l.most=some n) (hdf:d.params.defaults = [])
  (call:∀(w:World) (s₀ s₁:Shared) (mg mb:Str→Option Value) (fa:Addr) (o:Obj) (pm cd doc:Value) (a:Addr) (vs:List Value) (ns:List Int),
   Ground q loose [] XP w s₀ mg mb s₁.heap→YP w s₁.heap →
   s₁.heap.get? fa=some o→o.data=.func (docDef d.name d.params d.body d.scope pm cd doc)→s₁.heap.CodeRec cd d.name→mg d.name=some (.ref fa) →
   s₁.heap.get? a=some { cls:=.type "list",data:=.seq vs.toArray }→IntsAre vs ns→ns.length≤n→s₁.gens = #[] →
   codeAny (model l.prog w) callerA (.call (.ref fa) ⟨[.ref a],[]⟩) (fun r s'=>r=.ok (.ret (.bool true))∧OldK s₁.heap s'.heap∧s'.os=s₁.os∧AllBare s'.gens) s₁) :
  WalkO q loose XP YP l.row.toRowW d [] (fun f vs=>PySem.call f vs):=by
 intro w s₀ s₁ mg mb G Y fa o pm cd doc dV kV ho hd hcd hD hmg hg args vals as hpre hlay hrd hwl hlo;obtain rfl:dV=.none:=Dflts.none hD hdf;obtain rfl:kV=.none:=Dflts.noKw hD;obtain ⟨a,vs,ns,rfl,rfl,hobj,hints,hlen⟩:=script_of hn hpre hwl;refine enter_call (codeAny_mono (call w s₀ s₁ mg mb fa o pm cd doc a vs ns G Y ho (fd_plain hd) hcd hmg hobj hints hlen hg) fun r s' hq=>?_);obtain ⟨rfl,h2,h3,h4⟩:=hq;exact ⟨.inl ⟨.bool true,.bool true,[],rfl,fun _=>rfl,.bool true,post_true l _,fun _=>⟨List.Pairwise.nil,fun _ hm=>(nomatch hm)⟩⟩,h2,h3,h4⟩
end Att
namespace L2
open PySem PySem.Spec PyProof.Rows
theorem vals_ints:∀{vs:List Value}{ns:List Int},IntsAre vs ns→Vals (ns.map V.int) vs
 | _,_,.nil=>.nil
 | _,_,.cons n t h=>.cons ⟨t,rfl⟩ (vals_ints h)
def Only (H:Hp):Prop:=∀b,H b=none∨∃o xs,H b=some (.frz o (.lst xs))
theorem law_call {P:Program}{w:World}{K:PySem.W.Frag}{mg mb:Str→Option Value}{CX:CXT}{k:Nat}{fa a:Addr}{fd:FuncData}{x:Str}{sp:Sp}{s₁:Shared}{vs:List Value}{ns:List Int}
  (KX:K.In s₁.heap) (hns:s₁.heap.Ns mainGlobals mg) (hb:s₁.heap.Ns builtinsNs mb) (hbb:∀x:Str,x≠"__name__"→mb x=bootBuiltins x) (hlim:s₁.heap.NoLimit) (hg:s₁.gens = #[])
  (ha:s₁.heap.get? a=some { cls:=.type "list",data:=.seq vs.toArray }) (hi:IntsAre vs ns) (hl:ns.length≤sizeLine) (hr:Room k callerA)
  (F:∀base:Heap,K.In base→base.Ns mainGlobals mg→FnOk P w K mg base CX k fa fd [x] sp) (hbind:∀(s:Shared) (u:Value),BindsTo s fd ⟨[u],[]⟩ [(x,u)])
  (hsp:∀H:Hp,Only H→SqL K H a (ns.map V.int)→sp [.ref a] H (fun v _=>v=.bl true) fun _ _ _=>False)
  (hCX:∀H e s',CX [] H s₁ (fun _ _ _=>False) e s'→False) :
  codeAny (model P w) callerA (.call (.ref fa) ⟨[.ref a],[]⟩) (fun r s'=>r=.ok (.ret (.bool true))∧OldK s₁.heap s'.heap∧s'.os=s₁.os∧AllBare s'.gens) s₁:=by
 have rv:=vals_ints hi;have lenV:=hi.length;have core:∀H:Hp,Only H→SqL K H a (ns.map V.int)→HOk P w H s₁.heap→(∀b,H b≠none→b=a)→(H a≠none→K.lookup a=none) →
   codeAny (model P w) callerA (.call (.ref fa) ⟨[.ref a],[]⟩) (fun r s'=>r=.ok (.ret (.bool true))∧OldK s₁.heap s'.heap∧s'.os=s₁.os∧AllBare s'.gens) s₁:=by
  intro H hO hS hok hA hK;have base_of:∀{b:Addr}{o:Obj},s₁.heap.get? b=some o→H b=none→(hidT s₁.heap H).get? b=some o:=fun e n=>hidT_get e n;have noA:∀{b:Addr}{o:Obj}{es:Array DictEntry}{ep:Nat},s₁.heap.get? b=some o→o.data=.dict es ep→H b=none:=fun {b o es ep} e d=>by
   cases q:H b with
   | none=>rfl
   | some u =>
    have e':b=a:=hA b (by rw [q];simp);subst e';rw [ha] at e;cases e;have d':Data.seq vs.toArray _=Data.dict es ep:=d;cases d'
  have nsK:∀{b:Addr}{m:Str→Option Value},s₁.heap.Ns b m→(hidT s₁.heap H).Ns b m:=fun {b m} ⟨o,es,ep,e,d,r⟩=>⟨o,es,ep,base_of e (noA e d),d,r⟩
  have hKb:K.In (hidT s₁.heap H):=fun b o e=>base_of (KX b o e) (by
   cases q:H b with
   | none=>rfl
   | some u =>
    have e':b=a:=hA b (by rw [q];simp);subst e';rw [hK (by rw [q];simp)] at e;cases e)
  have hM:Mod K mg (hidT s₁.heap H):=⟨hKb,nsK hns,⟨mb,nsK hb,hbb⟩,let ⟨mc,h1,h2⟩:=hlim;⟨mc,nsK h1,h2⟩⟩
  have e0:Env0 P w K mg (hidT s₁.heap H) callerA [] s₁ H:=⟨rfl,hM,fun b o e=>of_hidT e,Nat.le_of_eq (hidT_size _ _),trivial,fun b hb=>absurd (show b∈([]:List Addr) from hb) (by simp),hok,.of_eq hg⟩
  refine codeAny_mono ((F _ hKb (nsK hns)).run callerA [] s₁ H ⟨[.ref a],[]⟩ [.ref a] [.ref a] _ _ hr e0 (hbind s₁ (.ref a)) (.cons rfl .nil) (hsp H hO hS)) fun r s' h=>?_;cases r with
  | error e=>exact (hCX H e s' h).elim
  | ok fl =>
   cases fl with
   | next=>exact False.elim h
   | brk=>exact False.elim h
   | cont=>exact False.elim h
   | ret u =>
    obtain ⟨v,H',os,bare,un,hok',r',q⟩:=h;have q':v=.bl true:=q;subst q';obtain rfl:u=Value.bool true:=r';refine ⟨rfl,OldK.of_keep fun b o e=>?_,os,bare⟩;cases q:H b with
    | none=>exact un.keep b o e q (by intro z;exact absurd (show b∈([]:List Addr) from z) (by simp)) (by simp)
    | some u =>
     rcases hO b with z|⟨ob,xs,z⟩
     ·rw [q] at z;cases z
     ·have z2:=un.frzs b ob _ z
      obtain ⟨e1,_⟩:=hok b _ z;obtain ⟨e2,_⟩:=hok' b _ z2;rw [e] at e1;cases e1;exact e2
 cases hk:K.lookup a with
 | some o =>
  have e:=KX a o hk;rw [ha] at e;cases e;refine core (fun _=>none) (fun _=>.inl rfl) (.inr ⟨_,vs.toArray,_,hk,rfl,rfl,rfl,by rw [Zm,lenV];exact hl,by simpa using rv⟩) (fun b u z=>by have z':(none:Option HO)=some u:=z;cases z') (fun b z=>absurd rfl z) fun z=>absurd rfl z
 | none =>
  refine core (fun b=>if b=a then some (.frz { cls:=.type "list",data:=.seq vs.toArray } (.lst (ns.map V.int))) else none) (fun b=>?_) (.inl (.inr ⟨{ cls:=.type "list",data:=.seq vs.toArray },if_pos rfl⟩)) (fun b u z=>?_) (fun b z=>?_) fun _=>hk
  ·by_cases hb:b=a
   ·exact .inr ⟨_,_,if_pos hb⟩
   ·exact .inl (if_neg hb)
  ·by_cases hb:b=a
   ·have z':=(if_pos hb).symm.trans z
    cases z';subst hb;exact ⟨ha,by rw [Zd];exact hl,vs,_,rv,ha⟩
   ·have z':=(if_neg hb).symm.trans z
    cases z'
  ·by_cases hb:b=a
   ·exact hb
   ·exact absurd (if_neg hb) z
theorem walk_of {l:PySem.W.OpenLaw}{n k:Nat}{q:Program}{loose:List Str}{XP:(Str→Option Value)→Heap→Prop}{YP:World→Heap→Prop}{d:DefRec}{K:Params→PySem.W.Frag}{CX:World→CXT}{sp:World→Sp}{x:Str}
  (hn:l.most=some n) (hn2:n≤sizeLine) (hdf:d.params.defaults = []) (hr:Room k callerA)
  (hY:∀(w:World) (h:Heap),YP w h→(K w.params).In h)
  (F:∀(w:World) (mg:Str→Option Value) (fa:Addr) (h:Heap),(K w.params).In h→h.Ns mainGlobals mg→mg d.name=some (.ref fa) →
   ∃fd:FuncData,(∀(s:Shared) (u:Value),BindsTo s fd ⟨[u],[]⟩ [(x,u)]) ∧
    ∀base:Heap,(K w.params).In base→base.Ns mainGlobals mg→FnOk l.prog w (K w.params) mg base (CX w) k fa fd [x] (sp w))
  (hsp:∀(w:World) (H:Hp) (a:Addr) (ns:List Int),ns.length≤n→Only H→SqL (K w.params) H a (ns.map V.int)→sp w [.ref a] H (fun v _=>v=.bl true) fun _ _ _=>False)
  (hCX:∀(w:World) (H:Hp) (s:Shared) (e:Value) (s':Shared),CX w [] H s (fun _ _ _=>False) e s'→False) :
  PySem.W.WalkO q loose XP YP l.row.toRowW d [] (fun f vs=>PySem.call f vs):=by
 refine Att.attach_call hn hdf fun w s₀ s₁ mg mb fa o pm cd doc a vs ns G Y ho hd hcd hmg hobj hints hlen hg=>?_;have KX:=hY w _ Y;obtain ⟨fd,hb,hF⟩:=F w mg fa _ KX G.T.g hmg;exact law_call KX G.T.g G.T.b G.T.builtins G.T.nolimit hg hobj hints (Nat.le_trans hlen hn2) hr hF hb (fun H hO hS=>hsp w H a ns hlen hO hS) fun H e s'=>hCX w H s₁ e s'
def inClass (s:Stmt) (j:Nat):Stmt:=match s with
 | .ClassDef _ _ _ body _ _ _ _ _ _ _=>body.getD j (.Pass ⟨0,0,0,0⟩)
 | _=>.Pass ⟨0,0,0,0⟩
def defArgs (s:Stmt):Arguments:=match s with
 | .FunctionDef _ a _ _ _ _ _ _ _ _=>a
 | _=>{ posonlyargs:=[],args:=[],vararg:=none,kwonlyargs:=[],kw_defaults:=[],kwarg:=none,defaults:=[] }
def defBody (s:Stmt):List Stmt:=match s with
 | .FunctionDef _ _ b _ _ _ _ _ _ _=>b
 | _=>[]
def defScope (s:Stmt):Scope:=match s with
 | .FunctionDef _ _ _ _ _ _ sc _ _ _=>sc
 | _=>{ kind:=.function,names:=[],isGenerator:=false,isCoroutine:=false }
abbrev CX0:CXT:=fun _ _ _ _ _ _=>False
abbrev E0:XK:=fun _ _ _=>False
theorem pass0 {X:Cx}:Passes CX0 X E0:=fun _ _ _ _ _ _ _ h=>h.elim
structure Fun (K:PySem.W.Frag) (x qual:Str) (st:Stmt) (f:Addr) (fd:FuncData):Prop where
 ex:∃(oc:Value) (od:Option Addr) (kV doc pm:Value) (an:Option Addr) (cdv ct:Value) (osl:Array (Option Value)),
  fd=PySem.W.fnOf x qual (defArgs st) (defBody st) (defScope st) .none kV doc pm an cdv ct∧K.lookup f=some ⟨oc,od,.func fd,osl⟩∧PySem.W.codeIn K cdv qual=true
 kp:PySem.W.keepIn K (.ref f)=true
section
variable {P:Program}{w:World}{K:PySem.W.Frag}{mg:Str→Option Value}{base:Heap}
theorem Fun.ok {x qual:Str}{st:Stmt}{f:Addr}{fd:FuncData}{N ps:List Str}{k:Nat}{sp:Sp}(F:Fun K x qual st f fd) (S:FnScope N ps (defScope st)) (len:∀vs H Q E,sp vs H Q E→vs.length=ps.length)
  (hbody:∀(cdv:Value) (A:Around) (outer:List Env) (s:Shared) (H:Hp) (vs:List V) (Q:VK) (E:XK),Room k (A.deeper (envOfC qual (defScope st) s.heap.objs.size f cdv))→sp vs H Q E →
   ∃t,PSs (cxOf CX0 P w K mg base N qual (defScope st) f cdv A outer s H E).nox (defBody st) t∧t { nx:=fun _ H'=>Q .non H',rt:=Q } (start N vs) H):FnOk P w K mg base CX0 (k+1) f fd ps sp:=by
 obtain ⟨oc,od,kV,doc,pm,an,cdv,ct,osl,rfl,lk,hcd⟩:=F.ex;refine fn_of lk hcd S len fun A outer s H vs Q E hr hsp=>?_;obtain ⟨t,h,q⟩:=hbody cdv A outer s H vs Q E hr hsp;exact ⟨t,h.nox,q⟩
theorem Fun.binds {x qual:Str}{st:Stmt}{f:Addr}{fd:FuncData}{ps:List Str}(F:Fun K x qual st f fd)
  (h:∀(kV doc pm:Value) (an:Option Addr) (cdv ct:Value) (us:List Value),us.length=ps.length→bindArgs (PySem.W.fnOf x qual (defArgs st) (defBody st) (defScope st) .none kV doc pm an cdv ct) ⟨us,[]⟩=pure (ps.zip us)):Binds K fd ps []:=by
 obtain ⟨oc,od,kV,doc,pm,an,cdv,ct,osl,rfl,lk,hcd⟩:=F.ex;exact .all (h kV doc pm an cdv ct)
theorem fun_mk {x qual:Str}{st:Stmt}{f:Addr}{oc:Value}{od an:Option Addr}{osl:Array (Option Value)}{kV doc pm cdv ct:Value}(l:K.lookup f=some ⟨oc,od,.func (PySem.W.fnOf x qual (defArgs st) (defBody st) (defScope st) .none kV doc pm an cdv ct),osl⟩)
  (c:PySem.W.codeIn K cdv qual=true) (k:PySem.W.keepIn K (.ref f)=true):Fun K x qual st f (PySem.W.fnOf x qual (defArgs st) (defBody st) (defScope st) .none kV doc pm an cdv ct):=⟨⟨oc,od,kV,doc,pm,an,cdv,ct,osl,rfl,l,c⟩,k⟩
end
section
variable {X:Cx}
theorem pv (i:Nat) {x:Str}{pos:Pos}(hN:X.N[i]?=some x:=by rfl) (hv:Vis X.env.scope x:=by first|exact Or.inl rfl|exact Or.inr (Or.inl rfl)|exact Or.inr (Or.inr rfl)) (hd:(x==("__debug__" : Str))=false:=by decide)
  (hcd:(x==("__classdict__" : Str))=false:=by decide):PE X (.Name x pos) (tVar i):=pe_var hN hv hd hcd
end
def Same (H H':Hp):Prop:=∀b o,H b=some o→H' b=some o
end L2
set_option maxHeartbeats 4000000
namespace L2
open PySem PySem.Spec PyProof.Rows
def drawnIn (cells:List (Str×Addr)):List (Str×NameKind)→List (Str×Addr)→List (Str×Addr)
 | [],cs=>cs
 | (n,k)::r,cs=>drawnIn cells r (if (k==NameKind.free)=true then (n,(cells.lookup n).getD 0)::cs else cs)
theorem closure_drawn {env:Env}{scope:Scope}(h:∀x∈scope.names,x.2=NameKind.free→(env.cells.lookup x.1).isSome=true) :
  closureFor scope env=pure (drawnIn env.cells scope.names []):=by
 have gen:∀(l:List (Str×NameKind)) (cs:List (Str×Addr)),(∀x∈l,x.2=NameKind.free→(env.cells.lookup x.1).isSome=true) →
   (forIn l cs fun (x:Str×NameKind) (r:List (Str×Addr))=>if (x.2==NameKind.free)=true then (do let c ←cellOf env x.1;pure (ForInStep.yield ((x.1,c)::r))) else pure (ForInStep.yield r))=(pure (drawnIn env.cells l cs):Sem _):=by
  intro l
  induction l with
  | nil=>intro cs _;rfl
  | cons x r ih =>
   intro cs hx;obtain ⟨n,k⟩:=x;rw [List.forIn_cons];by_cases hk:(k==NameKind.free)=true
   ·have hs:=hx (n,k) Zf (by simpa using hk)
    obtain ⟨c,hc⟩:=Option.isSome_iff_exists.mp hs;have e1:cellOf env n=pure c:=by unfold cellOf;rw [show env.cells.lookup n=some c from hc]
    simp only [hk,if_true,e1,pure_bind];rw [ih _ fun y hy=>hx y (Ze _ hy)];simp only [drawnIn,hk,if_true];rw [show env.cells.lookup n=some c from hc];rfl
   ·simp only [hk,if_false,pure_bind,Bool.false_eq_true]
    rw [ih _ fun y hy=>hx y (Ze _ hy)];simp only [drawnIn,hk,if_false,Bool.false_eq_true]
 have:=gen scope.names [] h;unfold closureFor;refine Eq.trans ?_ (Eq.trans (congrArg (fun m=>m >>= fun cs=>pure cs) this) (by simp));simp
theorem drawnIn_some (cells:List (Str×Addr)) (x:Str) (c:Addr):∀(l:List (Str×NameKind)) (cs:List (Str×Addr)),(∀y∈l,y.2=NameKind.free→(cells.lookup y.1).isSome=true) →
  (∀c,cs.lookup x=some c→cells.lookup x=some c)→(drawnIn cells l cs).lookup x=some c→cells.lookup x=some c
 | [],cs,_,h,e=>h c e
 | (n,k)::r,cs,hf,h,e=>by
  refine drawnIn_some cells x c r _ (fun y hy=>hf y (Ze _ hy)) (fun c' e'=>?_) e;by_cases hk:(k==NameKind.free)=true
  ·rw [if_pos hk,List.lookup_cons] at e'
   by_cases hx:(x==n)=true
   ·rw [hx] at e'
    have hn:x=n:=by simpa using hx
    subst hn;obtain ⟨c2,hc2⟩:=Option.isSome_iff_exists.mp (hf (x,k) Zf (by simpa using hk));have hc2':cells.lookup x=some c2:=hc2;rw [hc2'] at e' ⊢;simpa using e'
   ·simp only [hx] at e'
    exact h c' e'
  ·rw [if_neg hk] at e'
   exact h c' e'
theorem drawnIn_keep (cells:List (Str×Addr)) (x:Str):∀(l:List (Str×NameKind)) (cs:List (Str×Addr)),(cs.lookup x).isSome=true→((drawnIn cells l cs).lookup x).isSome=true
 | [],_,h=>h
 | (n,k)::r,cs,h=>by
  refine drawnIn_keep cells x r _ ?_;by_cases hk:(k==NameKind.free)=true
  ·rw [if_pos hk,List.lookup_cons]
   by_cases hx:(x==n)=true
   ·rw [hx];rfl
   ·simp only [hx];exact h
  ·rw [if_neg hk];exact h
theorem drawnIn_has (cells:List (Str×Addr)) (x:Str):∀(l:List (Str×NameKind)) (cs:List (Str×Addr)),(x,NameKind.free)∈l→((drawnIn cells l cs).lookup x).isSome=true
 | (n,k)::r,cs,h=>by
  rcases Zk.mp h with e|h
  ·cases e
   refine drawnIn_keep cells x r _ ?_;rw [if_pos (by rfl),List.lookup_cons];simp
  ·exact drawnIn_has cells x r _ h
def cxComp (X:Cx) (scope:Scope) (N':List Str) (C:Addr) (s:Shared) (H:Hp) (fp:List Addr):Cx where
 prog:=X.prog
 w:=X.w
 K:=X.K
 mg:=X.mg
 base:=X.base
 A:=X.A
 N:=N'
 s₀:=s
 H₀:=H
 env:=compEnvC scope (drawnIn X.env.cells scope.names []) C X.env
 outer:=X.stack
 stack:=X.stack
 ex:=fp
 fn:=fun _=>false
 calm:=X.calm
 pn:=[]
 xe:=fun _ _=>False
def startC (src:List (Option Nat)) (σ:St):St:=src.map fun o=>match o with
 | some j=>(σ[j]?).join
 | none=>none
structure CompScope (X:Cx) (scope:Scope) (N':List Str) (src:List (Option Nat)):Prop where
 kind:scope.kind=.function
 nocell:∀y∈scope.names,y.2≠.cell
 names:∀y∈scope.names,y.2=.local→scope.names.lookup y.1=some .local
 free:∀y∈scope.names,y.2=.free→X.env.kindOf y.1=some .cell∨X.env.kindOf y.1=some .free
 len:src.length=N'.length
 src:∀(i j:Nat) (x:Str),src[i]?=some (some j)→N'[i]?=some x→X.N[j]?=some x∧(X.env.kindOf x=some .cell∨X.env.kindOf x=some .free)∧scope.names.lookup x=some .free
theorem relabel_free {env:Env}{x:Str}:∀{names:List (Str×NameKind)},names.lookup x=some .free →
  (names.map fun (n,k)=>if (k==NameKind.free&&env.scope.kind == .function&&env.kindOf n==some .cell) then (n,NameKind.cell) else (n,k)).lookup x=some .cell ∨
  (names.map fun (n,k)=>if (k==NameKind.free&&env.scope.kind == .function&&env.kindOf n==some .cell) then (n,NameKind.cell) else (n,k)).lookup x=some .free
 | [],h=>by simp at h
 | (n,k)::r,h=>by
  have ih:=@relabel_free env x r;rw [Zh];by_cases hx:(x==n)=true
  ·simp only [List.lookup_cons,hx] at h
   have hk:k=.free:=by simpa using h
   subst hk;by_cases hc:(NameKind.free==NameKind.free&&env.scope.kind == .function&&env.kindOf n==some .cell)=true
   ·left;simp only [hc,if_true,List.lookup_cons,hx]
   ·right;simp only [hc,if_false,List.lookup_cons,hx,Bool.false_eq_true]
  ·simp only [List.lookup_cons,hx] at h
   by_cases hc:(k==NameKind.free&&env.scope.kind == .function&&env.kindOf n==some .cell)=true
   ·simp only [hc,if_true,List.lookup_cons,hx];exact ih h
   ·simp only [hc,if_false,List.lookup_cons,hx,Bool.false_eq_true];exact ih h
theorem mem_of_relabel {env:Env}{x:Str}{k:NameKind}:∀{names:List (Str×NameKind)},(names.map fun (n,k)=>if (k==NameKind.free&&env.scope.kind == .function&&env.kindOf n==some .cell) then (n,NameKind.cell) else (n,k)).lookup x=some k →
  (k=.cell→(∀y∈names,y.2≠.cell)→(x,NameKind.free)∈names)∧(k=.free→(x,NameKind.free)∈names)
 | [],h=>by simp at h
 | (n,k0)::r,h=>by
  have ih:=@mem_of_relabel env x k r;rw [Zh] at h;by_cases hc:(k0==NameKind.free&&env.scope.kind == .function&&env.kindOf n==some .cell)=true
  ·simp only [hc,if_true,List.lookup_cons] at h
   have hk0:k0=.free:=by
    simp only [Zc1] at hc;simpa using hc.1.1
   subst hk0;by_cases hx:(x==n)=true
   ·have:x=n:=by simpa using hx
    subst this;exact ⟨fun _ _=>Zf,fun _=>Zf⟩
   ·simp only [hx] at h
    obtain ⟨a,b⟩:=ih h;exact ⟨fun e z=>Ze _ (a e fun y hy=>z y (Ze _ hy)),fun e=>Ze _ (b e)⟩
  ·simp only [hc,if_false,List.lookup_cons,Bool.false_eq_true] at h
   by_cases hx:(x==n)=true
   ·have:x=n:=by simpa using hx
    subst this;simp only [hx] at h;have hk:k0=k:=by simpa using h
    subst hk;exact ⟨fun e z=>absurd e (z (x,k0) Zf),fun e=>by rw [e];exact Zf⟩
   ·simp only [hx] at h
    obtain ⟨a,b⟩:=ih h;exact ⟨fun e z=>Ze _ (a e fun y hy=>z y (Ze _ hy)),fun e=>Ze _ (b e)⟩
section
variable {X:Cx}{scope:Scope}{N':List Str}{src:List (Option Nat)}{pins:List (Addr×Obj)}{σ:St}{H:Hp}{s:Shared}{fp:List Addr}{C:Addr}
theorem CompScope.isFree (S:CompScope X scope N' src) (ok:X.Ok):∀y∈scope.names,y.2=NameKind.free→(X.env.cells.lookup y.1).isSome=true:=fun y hy e=>by
 obtain ⟨c,hc⟩:=ok.has y.1 (S.free y hy e);rw [hc];rfl
theorem CompScope.cell (S:CompScope X scope N' src) (ok:X.Ok) {x:Str}{c:Addr}(h:(drawnIn X.env.cells scope.names []).lookup x=some c):X.env.cells.lookup x=some c :=
 drawnIn_some X.env.cells x c scope.names [] (S.isFree ok) (fun _ e=>by simp at e) h
theorem inv_comp (S:CompScope X scope N' src) (I:Inv X pins σ H s) (hfp:∀b∈fp,FpOk X pins H b) (hob:∀b∈fp,∃o,s.heap.get? b=some o) (hC:s.heap.objs.size≤C) {h1:Heap}{tk:Nat}{m:Str→Option Value}
  (hk:∀b o,s.heap.get? b=some o→h1.get? b=some o) (hns:h1.Ns C m):Inv (cxComp X scope N' C s H fp) [] (startC src σ) H { s with heap:=h1,toks:=tk }:=by
 have cellOk:∀x c,(drawnIn X.env.cells scope.names []).lookup x=some c→X.env.cells.lookup x=some c:=fun x c h=>S.cell I.ok h;refine ⟨⟨I.ok.mod,?_,I.ok.glob,I.ok.blt,hC,?_,?_,?_,I.ok.hd,I.ok.frames,.inl rfl,?_,?_,?_,?_,?_,I.stack,I.stkFree⟩,rfl,I.bare,Un.kept hk,?_,?_,?_,?_,?_,I.hok.kept hk,?_⟩
 ·exact S.kind
 ·intro x y c hx hy
  exact I.ok.inj x y c (cellOk x c hx) (cellOk y c hy)
 ·intro x hx
  have hm:(x,NameKind.free)∈scope.names:=by
   rcases hx with hx|hx
   ·exact (mem_of_relabel (env:=X.env) (names:=scope.names) hx).1 rfl S.nocell
   ·exact (mem_of_relabel (env:=X.env) (names:=scope.names) hx).2 rfl
  exact Option.isSome_iff_exists.mp (drawnIn_has X.env.cells x scope.names [] hm)
 ·intro x c hf _
  exact nomatch hf
 ·intro b hb
  obtain ⟨o,ho⟩:=hob b hb;refine ⟨Nat.ne_of_lt (Nat.lt_of_lt_of_le (Heap.lt_size ho) hC),fun x c hc=>?_⟩;exact (hfp b hb).2.2.2.2.1 x c (cellOk x c hc)
 ·exact I.bs
 ·exact Nat.le_trans I.ok.bsz I.sz
 ·intro b o e hb
  rcases (hfp b hb).2.2.2.1 with z|z
  ·exact I.ok.noex b o e z
  ·exact absurd (Nat.lt_of_lt_of_le (Heap.lt_size e) (Nat.le_trans I.ok.bsz z)) (Nat.lt_irrefl _)
 ·intro b hb hf
  rcases Zk.mp (I.stkSub b hf) with z|z
  ·exact (hfp b hb).2.1 z
  ·exact (hfp b hb).2.2.1 z
 ·refine ⟨m,hns,fun i x v e1 e2 e3=>?_⟩
  have e2':((src.map fun o=>match o with|some j=>(σ[j]?).join|none=>none):St)[i]?=some (some v):=e2;rw [Zj] at e2';cases hs:src[i]? with
  | none=>rw [hs] at e2';cases e2'
  | some o =>
   rw [hs] at e2';cases o with
   | none=>simp at e2'
   | some j =>
    have ej:(σ[j]?).join=some v:=by simpa using e2'
    have ej':σ[j]?=some (some v):=by
     cases q:σ[j]? with
     | none=>rw [q] at ej;cases ej
     | some z=>rw [q] at ej;simp at ej;rw [ej]
    obtain ⟨hN,hkk,hlk⟩:=S.src i j x hs e1;have hmem:(x,NameKind.free)∈scope.names:=PySem.mem_of_lookup hlk;obtain ⟨m0,_,hl⟩:=I.loc;have vis:Vis X.env.scope x:=by rcases hkk with k|k;exact .inr (.inl k);exact .inr (.inr k)
    obtain ⟨u,r,l⟩:=hl j x v hN ej' vis;refine ⟨u,r,.inr ?_⟩;rcases l with ⟨hk',_⟩|⟨_,c,hc,z⟩
    ·rcases hkk with k|k<;>(rw [k] at hk';cases hk')
    ·obtain ⟨c',hc'⟩:=Option.isSome_iff_exists.mp (drawnIn_has X.env.cells x scope.names [] hmem)
     have hcc:=cellOk x c' hc';rw [hc] at hcc;cases hcc;obtain ⟨oc,ho,hd⟩:=z;refine ⟨?_,c,hc',⟨oc,hk _ _ ho,hd⟩⟩;exact relabel_free (env:=X.env) hlk
 ·intro x c hc
  obtain ⟨v,o,ho,hd⟩:=I.cell x c (cellOk x c hc);exact ⟨v,o,hk _ _ ho,hd⟩
 ·exact I.hok.fresh hC
 ·intro x c hc
  exact I.freeC x c (cellOk x c hc)
 ·intro p hp
  exact absurd (show p∈([]:List (Addr×Obj)) from hp) (by simp)
 ·show (src.map _).length=N'.length
  rw [Zd];exact S.len
end
theorem codeAny_compLoop_gen {prog:Program}{w:World}{A:Around}{R:Result→Shared→Prop}{s:Shared}{elt target iter:Expr}{ifs:List Expr}{scope:Scope}{pos:Pos}{it acc:Value}{env:Env}(I:Nat→Shared→Prop)
  (turn:∀n s,I n s→wpAny (model prog w) A (pyNext it) (fun r s₁=>match r with
   | none=>R (.ok .next) s₁
   | some v=>wpAny (model prog w) A (letOwnedTupleGo target it v) (fun _ s₁'=>wpAny (model prog w) A (assign target env v) (fun _ s₂ =>
     wpAny (model prog w) A (forIn ifs true fun c r=>if r=true then do let ok ←isTrue c env (eval c env);pure (ForInStep.yield ok) else pure (ForInStep.yield r)) (fun ok s₃ =>
      if ok=true then wpAny (model prog w) A (eval elt env) (fun x s₄ =>
       wpAny (model prog w) A (call (.builtin "list.append") [acc,x]) (fun _ s₅=>∃m,m < n∧I m s₅) (fun _ _=>False) s₄) (fun _ _=>False) s₃
      else ∃m,m < n∧I m s₃) (fun _ _=>False) s₂) (fun _ _=>False) s₁') (fun _ _=>False) s₁) (fun _ _=>False) s)
  (n:Nat) (h:I n s):codeAny (model prog w) A (.compLoop (.ListComp elt [⟨target,iter,ifs,0⟩] scope pos) 0 it acc env) R s:=by
 refine codeAny_loop rfl I (fun n s hI=>?_) n h;show wpAny _ A ((compTurn (.ListComp elt [⟨target,iter,ifs,0⟩] scope pos) 0 it acc env).onRaise (fun x=>do noteFrame x env;theTreesLotGoes x)) _ _ s;refine wpAny_noted ?_;rw [compTurn_list];refine wpAny_bind (wpAny_standAt (wpAny_bind (wpAny_mono (turn n s hI) (fun r s₁ h₁=>?_) fun _ _ h'=>h'.elim)));cases r with
 | none=>exact wpAny_pure h₁
 | some v =>
  refine wpAny_bind (wpAny_mono h₁ (fun _ s₁' h₁'=>?_) fun _ _ h'=>h'.elim);refine wpAny_bind (wpAny_mono h₁' (fun _ s₂ h₂=>wpAny_bind (wpAny_mono h₂ (fun ok s₃ h₃=>?_) fun _ _ h'=>h'.elim)) fun _ _ h'=>h'.elim);cases ok with
  | false=>exact wpAny_pure ⟨rfl,h₃⟩
  | true =>
   exact wpAny_bind (wpAny_bind (wpAny_mono h₃ (fun x s₄ h₄=>wpAny_bind (wpAny_mono h₄ (fun _ s₅ h₅=>wpAny_pure (wpAny_pure ⟨rfl,h₅⟩)) fun _ _ h'=>h'.elim)) fun _ _ h'=>h'.elim))
def PIfs (X:Cx) (ifs:List Expr) (t:TT):Prop :=
 ∀(pins:List (Addr×Obj)) (s:Shared) (σ:St) (H:Hp) (Q:Bool→Hp→Prop),Inv X pins σ H s→t σ H Q →
  wpAny (model X.prog X.w) X.A (forIn ifs true fun c r=>if r=true then do let ok ←isTrue c X.env (eval c X.env);pure (ForInStep.yield ok) else pure (ForInStep.yield r)) (TP X pins σ Q) X.xe s
def tAll:TT:=fun _ H Q=>Q true H
theorem pifs_nil {X:Cx}:PIfs X [] tAll:=fun _ _ _ H _ I h=>wpAny_tests_nil ⟨H,I,h⟩
theorem pifs_one {X:Cx}{c:Expr}{t:TT}(h:PT X c t):PIfs X [c] t:=fun pins s σ H Q I hq=>wpAny_tests_one (h pins s σ H Q I hq)
def CompW (J:It) (g:TG) (tif:TT) (te:TE) (Fin:List V→Hp→Prop) (W:Nat→Nat→List V→St→Hp→Prop):Prop:=∀i m ys τ H,W i m ys τ H →
 (J.stop i H∧ys.length≤sizeLine∧Fin ys H) ∨
 (J.go i H∧ys.length < sizeLine∧∀x H',J.yld i H x H'→g x τ H' fun τ2 H2=>tif τ2 H2 fun b H3=>if b=true then te τ2 H3 fun v H4=>∃m',m' < m∧W (i+1) m' (ys++[v]) τ2 H4 else ∃m',m' < m∧W (i+1) m' ys τ2 H3)
theorem HOk.track {P:Program}{w:World}{H:Hp}{h:Heap}{a:Addr}{o:HO}(x:HOk P w H h) (hn:H a=none) (new:ObjOk P w (upd H a o) h a o):HOk P w (upd H a o) h:=fun b u e=>by
 by_cases hb:b=a
 ·subst hb;rw [upd_same] at e;cases e;exact new
 ·rw [upd_ne hb] at e
  exact (x b u e).stay (fun c v _ q=>q) (fun c q=>by rw [upd_ne (ne_of_none q hn)];exact q) fun c xs q=>by rw [upd_ne (ne_of_none q hn)];exact q
section
variable {X:Cx}{scope:Scope}{N':List Str}{src:List (Option Nat)}{pins:List (Addr×Obj)}{σ τ:St}{H H':Hp}{s s':Shared}{fp:List Addr}{C D:Addr}
theorem comp_left {ys:List V}{its:List Value}{cap:Nat}(I:Inv X pins σ H s) (hfp:∀b∈fp,FpOk X pins H b) (J:Inv (cxComp X scope N' C s H fp) [] τ H' s') (hD:s.heap.objs.size≤D) (hn:H' D=none)
  (hv:Vals ys its) (hz:ys.length≤sizeLine) (e:s'.heap.get? D=some { cls:=.type "list",data:=.seq its.toArray cap }):Inv X pins σ (upd H' D (.lst ys)) s':=by
 have nD:∀b o,s.heap.get? b=some o→b≠D:=fun b o q=>Nat.ne_of_lt (Nat.lt_of_lt_of_le (Heap.lt_size q) hD);have nH:∀b o,H b=some o→b≠D:=fun b o q=>Nat.ne_of_lt (Nat.lt_of_lt_of_le (I.hok.lt q) hD);have u:=J.base;have u':Un (frs X.stack) fp H (upd H' D (.lst ys)) s.heap s'.heap:=by
  refine ⟨u.keep,u.slot,fun b o q n hx=>?_,u.there,fun b xs q=>?_,fun b o z q=>?_,fun b ps q=>?_⟩
  ·rw [upd_ne (nD b o q)];exact u.free b o q n hx
  ·rw [upd_ne (nH b _ q)];exact u.tups b xs q
  ·rw [upd_ne (nH b _ q)];exact u.frzs b o z q
  ·rw [upd_ne (nH b _ q)];exact u.tbls b ps q
 refine I.call' (ch:=fp) J.os u' (J.hok.track hn ⟨hz,its,cap,hv,e⟩) J.bare fun b hb=>?_;obtain ⟨_,h2,_,h4,h5,h6⟩:=hfp b hb;exact ⟨h4,h2,h5,h6⟩
theorem comp_letgo {H1:Hp}{h':Heap}(I:Inv X pins σ H s) (J:Inv X pins τ H1 s') (hC:s.heap.objs.size≤C) (hn:H1 C=none) (hs:Heap.SameBut C s'.heap h'):Inv X pins τ H1 { s' with heap:=h' }:=by
 have f:FpOk X pins H1 C:=I.fpOk hC hn;exact J.turned (t':=s'.toks) (fun b o hb q=>(hs.2 b hb).trans q) hn f.2.1 f.2.2.2.1 f.2.2.2.2.1 f.2.2.2.2.2
end
section
variable {X:Cx}{scope:Scope}{N':List Str}{src:List (Option Nat)}{elt target iter:Expr}{ifs:List Expr}{pos:Pos}{g:TG}{tif:TT}{te:TE}
theorem comp_block {pins:List (Addr×Obj)}{σ:St}{H2:Hp}{s₂:Shared}{it:Addr}{fp:List Addr}{tn:Nat→Heap→Prop}{J:It}{Fin:List V→Hp→Prop}{W:Nat→Nat→List V→St→Hp→Prop}{RR:Value→Addr→Result→Shared→Prop}{E:Value→Shared→Prop}
  (S:CompScope X scope N' src) (hc:X.calm=true) (hg:∀C s H fp,PG (cxComp X scope N' C s H fp) target g) (hif:∀C s H fp,PIfs (cxComp X scope N' C s H fp) ifs tif) (he:∀C s H fp,PE (cxComp X scope N' C s H fp) elt te)
  (I2:Inv X pins σ H2 s₂) (T:Turn X.prog X.w X.K target J fp it tn) (st:tn 0 s₂.heap) (hfp:∀b∈fp,FpOk X pins H2 b) (w0:∃m,W 0 m [] (startC src σ) H2) (hW:CompW J g tif te Fin W)
  (hRR:∀D C τ H ys its cap s',Inv (cxComp X scope N' C s₂ H2 fp) [] τ H s'→s₂.heap.objs.size≤D→s₂.heap.objs.size≤C→D≠C→H D=none→Vals ys its→ys.length≤sizeLine →
   s'.heap.get? D=some { cls:=.type "list",data:=.seq its.toArray cap }→Fin ys H→RR (.ref D) C (.ok .next) s') :
  wpAny (model X.prog X.w) X.A (newList []) (fun acc s₃=>wpAny (model X.prog X.w) X.A (newFunctionEnv scope X.env.globals (drawnIn X.env.cells scope.names []) [] X.env.qual none .none (some X.env)) (fun cenv s₄ =>
   codeAny (model X.prog X.w) X.A (.compStart (.ListComp elt [⟨target,iter,ifs,0⟩] scope pos) 0 (.ref it) acc { cenv with scope:=relabel scope X.env }) (RR acc cenv.locals) s₄) E s₃) E s₂:=by
 refine wpAny_newObj_type (wpAny_newFunctionEnv S.nocell (by intro y hy;simp at hy) (fun h₁ hns₁ hsb₁=>?_) S.kind);dsimp only at hns₁ hsb₁ ⊢;generalize hH2:s₂.heap.push { cls:=.type "list",dict:=none,data:=.seq ([]:List Value).toArray }=G at hns₁ hsb₁ ⊢;have hC:G.objs.size=s₂.heap.objs.size+1:=by rw [←hH2,Heap.size_push]
 have hDC:s₂.heap.objs.size≠G.objs.size:=by rw [hC];exact Nat.ne_of_lt (Nat.lt_succ_self _)
 have hCle:s₂.heap.objs.size≤G.objs.size:=by rw [hC];exact Nat.le_succ _
 have below:∀b,b < s₂.heap.objs.size→b≠G.objs.size∧b≠s₂.heap.objs.size:=fun b hb=>⟨by rw [hC];exact Nat.ne_of_lt (Nat.lt_succ_of_lt hb),Nat.ne_of_lt hb⟩
 have old:∀b o,s₂.heap.get? b=some o→h₁.get? b=some o:=fun b o e=>hsb₁.extBut b o (below b (Heap.lt_size e)).1 (Heap.get?_push_of_some _ (hH2 ▸ Heap.get?_push_of_some _ e));have hacc:h₁.get? s₂.heap.objs.size=some { cls:=.type "list",data:=.seq ([]:List Value).toArray 0 }:=hsb₁.extBut _ _ hDC (Heap.get?_push_of_some _ (hH2 ▸ Heap.get?_push_size _ rfl));have hob:∀b∈fp,∃o,s₂.heap.get? b=some o:=fun b hb=>let ⟨o,e,_⟩:=T.obj 0 _ st b hb;⟨o,e⟩;have hst₁:tn 0 h₁:=T.keep _ _ _ st fun b _ o e=>old b o e;generalize hCe:G.objs.size=C at *;generalize hDe:s₂.heap.objs.size=D at *;have I0:Inv (cxComp X scope N' C s₂ H2 fp) [] (startC src σ) H2 { s₂ with heap:=h₁,toks:=s₂.toks + ([]:List (Str×Value)).length }:=inv_comp S I2 hfp hob (by rw [hDe];exact hCle) old hns₁;have hDfs:D∉frs X.stack:=fun hb=>by
  rcases Zk.mp (I2.stkSub D hb) with z|z
  ·exact absurd I2.lt (by rw [←z,hDe];exact Nat.lt_irrefl _)
  ·exact I2.nofs (Nat.le_of_eq hDe) z
 obtain ⟨m0,w0⟩:=w0;have loop:∀s₃:Shared,s₃ = { s₂ with heap:=h₁,toks:=s₂.toks + ([]:List (Str×Value)).length } →
   codeAny (model X.prog X.w) X.A (.compLoop (.ListComp elt [⟨target,iter,ifs,0⟩] scope pos) 0 (.ref it) (.ref D) (compEnvC scope (drawnIn X.env.cells scope.names []) C X.env)) (RR (.ref D) C) s₃:=by
  rintro s₃ rfl;refine codeAny_compLoop_gen (fun n s'=>∃i τ H ys its cap,Inv (cxComp X scope N' C s₂ H2 fp) [] τ H s'∧tn i s'.heap∧(∀b∈fp,H b=none)∧H D=none∧Vals ys its ∧
   s'.heap.get? D=some { cls:=.type "list",data:=.seq its.toArray cap }∧W i n ys τ H) ?_ m0 ⟨0,_,H2,[],[],0,I0,hst₁,fun b hb=>(hfp b hb).1,I2.hok.fresh (Nat.le_of_eq hDe),.nil,hacc,w0⟩
  rintro n s3 ⟨i,τ,H,ys,its,cap,I3,st3,fr3,hD3,rv,hl,w3⟩;have stat:∀{H':Hp}(ob:Obj),(∀b∈fp,H' b=none)→∀b∈fp,FpOk (cxComp X scope N' C s₂ H2 fp) [(D,ob)] H' b:=fun {H'} ob hn b hb=>by
   obtain ⟨e1,e2⟩:=I3.ok.exf b hb;refine ⟨hn b hb,e1,I3.ok.exfs b hb,.inl hb,e2,fun p hp=>?_⟩;have hp':p=(D,ob):=by simpa [cxComp] using hp
   subst hp';obtain ⟨o,ho⟩:=hob b hb;exact fun z=>absurd (Heap.lt_size ho) (by rw [←z,hDe];exact Nat.lt_irrefl _)
  have I3':Inv (cxComp X scope N' C s₂ H2 fp) [(D,{ cls:=.type "list",data:=.seq its.toArray cap })] τ H s3:=I3.pins_of fun p hp=>by
   have hp':p=(D,{ cls:=.type "list",data:=.seq its.toArray cap }):=by simpa using hp
   subst hp';exact ⟨hl,hD3,hDC,hDfs,fun v z=>nomatch z⟩
  rcases hW i n ys τ H w3 with ⟨stop,hz,fin⟩|⟨go,hlt,step⟩
  ·refine thn (T.done (cxComp X scope N' C s₂ H2 fp) rfl rfl rfl hc i _ s3 τ H (fun _ _=>False) I3' (stat _ fr3) st3 stop) fun r s4 ⟨hr,I4⟩=>?_
   subst hr;have pD:=I4.pin (D,{ cls:=.type "list",data:=.seq its.toArray cap }) (by simp [cxComp]);exact hRR D C τ H ys its cap s4 (I4.pins_of fun p hp=>absurd hp (by simp)) (Nat.le_refl _) hCle hDC pD.2.1 rv hz pD.1 fin
  ·refine thn (T.item (cxComp X scope N' C s₂ H2 fp) rfl rfl rfl hc i _ s3 τ H (fun _ _=>False) I3' (stat _ fr3) st3 go) fun r s4 ⟨u,hr,h4⟩=>?_
   subst hr;refine thn h4 fun _ s5 ⟨x,H5,I5,r5,y5,st5,fr5⟩=>?_;have I5':=I5.pinned (stat _ fr5) (T.obj _ _ st5);refine thn (hg C s₂ H2 fp _ s5 τ H5 x u _ I5' r5 (step x H5 y5)) fun _ s6 ⟨τ6,H6,I6,q6⟩=>?_;refine thn (hif C s₂ H2 fp _ s6 τ6 H6 _ I6 q6) fun ok s7 ⟨H7,I7,q7⟩=>?_;have again:∀{τ':St}{H':Hp}{s':Shared},Inv (cxComp X scope N' C s₂ H2 fp) ([(D,{ cls:=.type "list",data:=.seq its.toArray cap })]++pinsAt fp s5.heap) τ' H' s' →
     Inv (cxComp X scope N' C s₂ H2 fp) [] τ' H' s'∧tn (i+1) s'.heap∧(∀b∈fp,H' b=none)∧H' D=none∧s'.heap.get? D=some { cls:=.type "list",data:=.seq its.toArray cap }:=fun {τ' H' s'} K=>by
    have pD:=K.pin (D,{ cls:=.type "list",data:=.seq its.toArray cap }) (by simp [cxComp]);refine ⟨K.pins_of fun p hp=>absurd hp (by simp),T.keep _ _ _ st5 fun b hb o e=>(K.pin (b,o) (List.mem_append_right _ (List.mem_append_right _ (mem_pinsAt hb e)))).1,fun b hb=>?_,pD.2.1,pD.1⟩;obtain ⟨o,e,d⟩:=T.obj _ _ st5 b hb;exact (K.pin (b,o) (List.mem_append_right _ (List.mem_append_right _ (mem_pinsAt hb e)))).2.1
   cases ok with
   | false =>
    obtain ⟨m',hm,w'⟩:=q7;obtain ⟨K,k2,k3,k4,k5⟩:=again I7;exact ⟨m',hm,i+1,τ6,H7,ys,its,cap,K,k2,k3,k4,rv,k5,w'⟩
   | true =>
    refine thn (he C s₂ H2 fp _ s7 τ6 H7 _ I7 q7) fun z s8 ⟨v,H8,I8,r8,m',hm,w'⟩=>?_;obtain ⟨K,k2,k3,k4,k5⟩:=again I8;have hlen:=rv.length;refine call_meets F.slot_list_append ⟨_,k5,rfl⟩ F.entry_list_append (F.args_list_append_2 _ _) (PySem.list_append D its.toArray cap z (by rw [Zm];omega)) ⟨k5,?_⟩;obtain ⟨cap',q⟩:∃cap',(s8.heap.update D (Obj.mapSeq fun a=>a.push z)).get? D=some { cls:=.type "list",data:=.seq (its++[z]).toArray cap' }:=by
     have q:=PySem.IsL.update k5 (fun a=>a.push z);have e2:its.toArray.push z=(its++[z]).toArray:=by simp
     rw [e2] at q;exact ⟨_,q⟩
    have keep:∀b o,b≠D→s8.heap.get? b=some o→(s8.heap.update D (Obj.mapSeq fun a=>a.push z)).get? b=some o:=fun b o hb hu=>(Heap.get?_update_other s8.heap _ (Ne.symm hb)).trans hu;have fD:∀x c,(cxComp X scope N' C s₂ H2 fp).env.cells.lookup x=some c→c≠D:=fun x c hcc zz=>by
     obtain ⟨v,o,ho,_⟩:=I2.cell x c (S.cell I2.ok hcc);exact absurd (Heap.lt_size ho) (by rw [zz,hDe];exact Nat.lt_irrefl _)
    refine ⟨m',hm,i+1,τ6,H8,ys++[v],its++[z],cap',K.turned (t':=s8.toks) keep k4 hDC (.inr (Nat.le_of_eq hDe)) fD (fun p hp=>absurd (show p∈([]:List (Addr×Obj)) from hp) (by simp)),T.keep _ _ _ k2 fun b hb o e=>keep b o (fun zz=>?_) e,k3,k4,rv.append (.cons r8 .nil),q,w'⟩;obtain ⟨o',ho'⟩:=hob b hb;exact absurd (Heap.lt_size ho') (by rw [zz,hDe];exact Nat.lt_irrefl _)
 exact codeAny_compStart_list (loop _ rfl) (T.self _ 0 _ _ _ hst₁ (loop _ rfl))
def tComp (src:List (Option Nat)) (wi:TI) (g:TG) (tif:TT) (te:TE):TE:=fun σ H Q=>wi σ H fun J H1=>∃W:Nat→Nat→List V→St→Hp→Prop,(∃m,W 0 m [] (startC src σ) H1) ∧
 CompW J g tif te (fun ys H'=>∀D,H' D=none→Q (.ref D) (upd H' D (.lst ys))) W
theorem pe_comp {wi:TI}(S:CompScope X scope N' src) (hc:X.calm=true) (hi:PI X target iter wi) (hg:∀C s H fp,PG (cxComp X scope N' C s H fp) target g) (hif:∀C s H fp,PIfs (cxComp X scope N' C s H fp) ifs tif)
  (he:∀C s H fp,PE (cxComp X scope N' C s H fp) elt te) (hs:∀x,foldedSetIterable iter X.env x=pure x:=by intro _;rfl):PE X (.ListComp elt [⟨target,iter,ifs,0⟩] scope pos) (tComp src wi g tif te):=by
 intro pins s σ H Q I h;rw [eval_ListComp];refine wpAny_comprehension_free (use:=none) rfl hs (closure_drawn (S.isFree I.ok)) S.kind S.names (thn (hi pins s σ H _ I h) fun v s1 h1=>thn h1 fun itv s2 h2=>?_);obtain ⟨it,fp,tn,J,H2,rfl,I2,T,st2,f2,W,w0,hW⟩:=h2;refine comp_block (RR:=fun acc C=>compPost (model X.prog X.w) X.A X.xe none (EP X pins σ Q) acc C) S hc hg hif he I2 T st2 f2 w0 hW ?_;intro D C τ H' ys its cap s' K hD hC hDC hn rv hz e fin;obtain ⟨m,hns,_⟩:=K.loc;refine ⟨m,hns,fun h' hsb=>⟨.ref D,upd H' D (.lst ys),?_,rfl,fin D hn⟩⟩;exact comp_letgo I2 (comp_left I2 f2 K hD hn rv hz e) hC (by rw [upd_ne (Ne.symm hDC)];exact K.free) hsb
end
def Itf (val:Nat→V) (n:Nat):It:=⟨fun i _=>i < n,fun i H x H'=>H'=H∧x=val i,fun i _=>i=n⟩
theorem turn_walks {P:Program}{w:World}{K:PySem.W.Frag}{tg:Expr}{it:Addr}{n:Nat}{Pv:Nat→Value→Prop}{St:Nat→Heap→Prop}{val:Nat→V}
  (W:∀A:Around,A.handled=none→Walks P w A it [it] [it] n Pv St)
  (ho:∀i h,St i h→∃(o:Obj) (T:String) (vs:Array Value),h.get? it=some o∧o.cls=.type T∧o.data=.fields vs ∧
   ["enumerate","zip","dict_itemiterator","dict_reverseitemiterator","odict_iterator","itertools.zip_longest","itertools.pairwise"].contains T=false)
  (hv:∀i v,Pv i v→RelV (val i) v) (hself:∀(A:Around) (i:Nat) (s:Shared) (Q:Value→Shared→Prop) (E:Value→Shared→Prop),St i s.heap→Q (.ref it) s→wpAny (model P w) A (pyIter (.ref it)) Q E s):Turn P w K tg (Itf val n) [it] it St where
 mem:=by simp
 obj:=fun i h st b hb=>by
  have e:b=it:=by simpa using hb
  subst e;obtain ⟨o,T,vs,h1,h2,h3,_⟩:=ho i h st;exact ⟨o,h1,fun v z=>by rw [h3] at z;cases z⟩
 keep:=fun i h h' st k=>(W {} rfl).frame i h h' st k
 item:=by
  intro X hP hw hK hc i pins s σ H E I hf st hg;subst hP hw hK;obtain ⟨f0,f1,f2,f3,f4,f5⟩:=hf it (by simp);refine (W X.A (I.ok.hd hc)).item i s _ _ hg st fun v h' tk pv st' kk=>?_;have I1:Inv X pins σ H { s with heap:=h',toks:=tk }:=I.turned (fun b o hb e=>kk b o (by simpa using hb) e) f0 f1 f3 f4 f5;obtain ⟨o,T,vs,h1,h2,h3,h4⟩:=ho _ _ st';exact ⟨v,rfl,go_of (s:={ s with heap:=h',toks:=tk }) h1 h2 h3 h4 ⟨val i,H,I1,hv i v pv,⟨rfl,rfl⟩,st',fun b hb=>(hf b hb).1⟩⟩
 done:=by
  intro X hP hw hK hc i pins s σ H E I hf st hg;subst hP hw hK;obtain ⟨f0,f1,f2,f3,f4,f5⟩:=hf it (by simp);cases (show i=n from hg);exact (W X.A (I.ok.hd hc)).done s _ _ st fun h' tk kk=>⟨rfl,I.turned (fun b o hb e=>kk b o (by simpa using hb) e) f0 f1 f3 f4 f5⟩
 self:=hself
def signV (x:Str) (i:Nat):V:=.str ⟨#[x.cps.getD i 0]⟩
theorem sign_rel {x:Str}{i:Nat}{v:Value}(h:SignAt x i v):RelV (signV x i) v:=by
 obtain ⟨c,u,hc,rfl⟩:=h;refine ⟨u,?_⟩;rw [Array.getD_eq_getD_getElem?,hc];rfl
section
variable {X:Cx}{tg:Expr}
def iStr (tl:TE):TI:=fun σ H R=>tl σ H fun x H1=>∃z,x=.str z∧R (Itf (signV z) z.cps.size) H1
theorem pi_str {l:Expr}{tl:TE}(hl:PE X l tl):PI X tg l (iStr tl):=by
 intro pins s σ H R I h;refine thn (hl pins s σ H _ I h) fun v s1 ⟨x,H1,I1,r1,q1⟩=>?_;obtain ⟨z,rfl,q⟩:=q1;obtain ⟨t,rfl⟩:=r1;have fin:∀(o:Obj) (St:Nat→Heap→Prop),Turn X.prog X.w X.K tg (Itf (signV z) z.cps.size) [s1.heap.objs.size] s1.heap.objs.size St→St 0 (s1.heap.push o)→PIE X pins σ tg R (.ref s1.heap.objs.size) { s1 with heap:=s1.heap.push o }:=fun o St T st=>by
  refine ⟨s1.heap.objs.size,[s1.heap.objs.size],St,_,H1,rfl,I1.kept (t':=s1.toks) fun b o e=>Heap.get?_push_of_some _ e,T,st,fun b hb=>?_,q⟩;have e:b=s1.heap.objs.size:=by simpa using hb
  subst e;exact I1.fpOk (Nat.le_refl _) (I1.hok.fresh (Nat.le_refl _))
 cases ha:z.cps.all (· < 128)
 ·refine wpAny_pyIter_wide ha (fin _ (fun i h=>h.IsStrIter s1.heap.objs.size "str_iterator" z t i) (turn_walks (fun A hA=>Walks.strWide hA _ z t) (fun i h ⟨o,h1,h2,h3⟩=>⟨o,_,_,h1,h2,h3,by decide⟩) (fun i v pv=>sign_rel pv)
   (fun A i s Q E st h=>wpAny_pyIter_striter_wide st h)) ⟨_,Heap.get?_push_size _ rfl,rfl,rfl⟩)
 ·refine wpAny_pyIter_ascii ha (fin _ (fun i h=>h.IsStrIter s1.heap.objs.size "str_ascii_iterator" z t i) (turn_walks (fun A hA=>Walks.strAscii hA _ z t) (fun i h ⟨o,h1,h2,h3⟩=>⟨o,_,_,h1,h2,h3,by decide⟩) (fun i v pv=>sign_rel pv)
   (fun A i s Q E st h=>wpAny_pyIter_striter_ascii st h)) ⟨_,Heap.get?_push_size _ rfl,rfl,rfl⟩)
def rLeS:R2:=fun x y H Q=>∃i j,x=.str i∧y=.str j∧Q (.bl (!decide (j.cps.toList < i.cps.toList))) H
theorem op_le_str:OpR X (compareOp .LtE) rLeS:=by
 intro pins s σ H x y v u Q I rx ry h;obtain ⟨i,j,rfl,rfl,q⟩:=h;obtain ⟨t,rfl⟩:=rx;obtain ⟨t',rfl⟩:=ry;exact PySem.P.le_str (fin_bl I q rfl)
end
section
variable {X:Cx}
def rAll (K:PySem.W.Frag):List V→Hp→VK→Prop:=fun xs H Q=>∃(p:Addr) (bs:List Bool),xs = [.ref p]∧SqL K H p (bs.map V.bl)∧Q (.bl (bs.all id)) H
theorem call_all (hc:X.calm=true):CallR X (.builtin "all") (rAll X.K):=by
 intro pins s σ H xs us Q I r h;obtain ⟨p,bs,rfl,hq,q⟩:=h;obtain ⟨u,rfl,rx⟩:=vals1 r;cases rx;obtain ⟨its,r',pl,hz⟩:=I.list hq;have hb:∀{its:List Value}{bs:List Bool},Vals (bs.map V.bl) its→its=bs.map Value.bool:=fun {its bs}=>by
  induction bs generalizing its with
  | nil=>intro h;cases h;rfl
  | cons b bs ih=>intro h;cases h with|cons a t=>cases a;rw [ih t];rfl
 have eb:=hb r';subst eb;have hl:=pl.isList;have hlt:p < s.heap.objs.size:=by obtain ⟨_,e,_⟩:=hl;exact Heap.lt_size e
 refine call_all_walk (wpAny_pyIter_list hl ?_);refine ⟨s.heap.objs.size,[s.heap.objs.size,p],[s.heap.objs.size],(bs.map Value.bool).toArray.size,_,_,fun i=>(bs[i]?).getD true,rfl,Walks.list (A:=X.A.in1) (I.ok.hd hc) _ p (Nat.ne_of_lt hlt) (bs.map Value.bool).toArray,
  ⟨⟨_,Heap.get?_push_size _ rfl,rfl,rfl⟩,hl.push _⟩,fun i v s' Q' E' hP hQ=>?_,fun h' tk hk=>?_⟩
 ·have e:bs[i]?.map Value.bool=some v:=by simpa using hP
  obtain ⟨b,eb,rfl⟩:=Zb.mp e;simp only [eb,Option.getD_some] at hQ;exact wpAny_truthy_bool hQ
 ·have e:((List.range (bs.map Value.bool).toArray.size).all fun i=>(bs[i]?).getD true)=bs.all id:=by
   rw [Zm,Zd];exact LSm.range_all bs
  rw [e];exact ⟨.bl _,H,I.kept (t':=tk) (LSm.kept_iter hk),rfl,q⟩
end
theorem Inv.track {X:Cx}{pins:List (Addr×Obj)}{σ:St}{H:Hp}{s:Shared}{a:Addr}{o:HO}(I:Inv X pins σ H s) (f:FpOk X pins H a) (hz:X.s₀.heap.objs.size≤a) (new:ObjOk X.prog X.w (upd H a o) s.heap a o):Inv X pins σ (upd H a o) s:=by
 have B:=I.base;have hn:=f.1;have ne:∀b u,H b=some u→b≠a:=fun b u q=>ne_of_none q hn;refine ⟨I.ok,I.os,I.bare,⟨B.keep,B.slot,fun b u q n hx=>?_,B.there,fun b xs q=>?_,fun b u w q=>?_,fun b ps q=>?_⟩,I.loc,I.cell,?_,fun x c e=>?_,fun p hp=>?_,I.hok.track hn new,I.len⟩
 ·rw [upd_ne (Nat.ne_of_lt (Nat.lt_of_lt_of_le (Heap.lt_size q) hz))];exact B.free b u q n hx
 ·rw [upd_ne (ne b _ (B.tups b xs q))];exact B.tups b xs q
 ·rw [upd_ne (ne b _ (B.frzs b u w q))];exact B.frzs b u w q
 ·obtain ⟨more,q'⟩:=B.tbls b ps q
  exact ⟨more,by rw [upd_ne (ne b _ q')];exact q'⟩
 ·rw [upd_ne (Ne.symm f.2.1)];exact I.free
 ·rw [upd_ne (f.2.2.2.2.1 x c e)];exact I.freeC x c e
 ·obtain ⟨e,n,r⟩:=I.pin p hp
  exact ⟨e,by rw [upd_ne (f.2.2.2.2.2 p hp)];exact n,r⟩
def Iti (d:Addr) (o:Obj) (kvs:List (Key×V)):It :=
 ⟨fun i H=>i < kvs.length∧H d=some (.frz o (.dK kvs)),fun i H x H'=>∃k v t,kvs[i]?=some (k,v)∧x=.ref t∧H t=none∧H'=upd H t (.tup [kV k,v]),fun i H=>i=kvs.length∧H d=some (.frz o (.dK kvs))⟩
theorem KV.len:∀{kvs:List (Key×V)}{vs:List (Key×Value)},KV kvs vs→kvs.length=vs.length:=fun h=>Paired.length h
theorem KV.at:∀{kvs:List (Key×V)}{vs:List (Key×Value)}{i:Nat}{k:Key}{v:V},KV kvs vs→kvs[i]?=some (k,v)→∃u,vs[i]?=some (k,u)∧RelV v u
 | _,_,_,_,_,.nil,e=>by simp at e
 | _,_,0,k,v,.cons (b:=b) r _,e=>by
  simp at e;subst e;obtain ⟨b1,b2⟩:=b;obtain ⟨r1,r2⟩:=r;simp at r1 r2;subst r1;exact ⟨b2,rfl,r2⟩
 | _,_,i+1,k,v,.cons _ t,e=>by
  obtain ⟨u,h1,h2⟩:=KV.at (i:=i) t (by simpa using e);exact ⟨u,by simpa using h1,h2⟩
theorem keyIs_rel {k:Key}{v:Value}(h:keyIs k v=true):RelV (kV k) v:=by
 rcases keyIs_shape h with ⟨i,t,rfl,rfl⟩|⟨x,t,rfl,rfl⟩
 ·exact ⟨t,rfl⟩
 ·exact ⟨t,rfl⟩
theorem frz_at {X:Cx}{pins:List (Addr×Obj)}{σ:St}{H:Hp}{s:Shared}{d:Addr}{o:Obj}{kvs:List (Key×V)}(I:Inv X pins σ H s) (h:H d=some (.frz o (.dK kvs))) :
  ∃vs es ep,o.data=.dict es ep∧KV kvs vs∧(d==sysModules)=false∧s.heap.DictAt (mixKind X.prog X.w) d vs ep:=by
 obtain ⟨e,_,hs,vs,hk,o',es,ep,e',r⟩:=(show ObjOk X.prog X.w H s.heap d (.frz o (.dK kvs)) from I.hok d _ h)
 rw [e] at e';cases e';exact ⟨vs,es,ep,r.2.1,hk,hs,o,es,e,r⟩
theorem entry_itemiter_iter:entryFor table "dict_itemiterator.__iter__" = some Builtin.«dict_keyiterator.__iter__» :=
 entryFor_alias (id':="dict_keyiterator.__iter__") (by kernel_rfl) rfl (by decide +kernel) (by kernel_rfl)
theorem pyIter_itemiter {prog:Program}{w:World}{A:Around}{E:Value→Shared→Prop}{s:Shared}{it d:Addr}{i n ep:Nat}{ok ov:Value}{Q:Value→Shared→Prop}(hit:IsItemIter s.heap it d i n ep ok ov) (h:Q (.ref it) s) :
  wpAny (model prog w) A (pyIter (.ref it)) Q E s:=by
 have hT:s.TypeIs (.ref it) "dict_itemiterator":=⟨_,hit,rfl⟩
 refine wpAny_pyIter_slot hT F.slot_dict_itemiterator_iter (wpAny_call_entry F.slot_dict_itemiterator_iter hT entry_itemiter_iter ?_ (F.args_dict_itemiterator_iter_1 _));show wpAny _ _ (ret (.ref it)) _ _ s;exact wpAny_pure ⟨_,rfl,"dict_itemiterator",_,hT,F.slot_dict_itemiterator_next.lookup,h⟩
theorem turn_items {P:Program}{w:World}{K:PySem.W.Frag}{elts:List Expr}{x1:Nat}{tp:Pos}(d it:Addr) (o:Obj) (kvs:List (Key×V)) :
  Turn P w K (.Tuple elts x1 tp) (Iti d o kvs) [it] it (fun i h=>∃es ep ok ov,o.data=.dict es ep∧IsItemIter h it d i kvs.length ep ok ov) where
 mem:=by simp
 obj:=fun i h st b hb=>by
  have e:b=it:=by simpa using hb
  subst e;obtain ⟨_,_,_,_,_,e⟩:=st;exact ⟨_,e,fun v z=>nomatch z⟩
 keep:=fun i h h' ⟨es,ep,ok,ov,a,e⟩ k=>⟨es,ep,ok,ov,a,k it (by simp) _ e⟩
 item:=by
  intro X hP hw hK hc i pins s σ H E I hf ⟨es,ep,ok,ov,he,st⟩ ⟨hi,hd⟩;subst hP hw hK;obtain ⟨f0,f1,f2,f3,f4,f5⟩:=hf it (by simp);obtain ⟨vs,es',ep',he',hk,_,da⟩:=frz_at I hd;rw [he] at he';cases he';obtain ⟨k,v,hkv⟩:∃k v,kvs[i]?=some (k,v):=⟨_,_,Zc hi⟩
  obtain ⟨u,hu,ru⟩:=hk.at hkv;rw [hk.len] at st;have hit:it < s.heap.objs.size:=Heap.lt_size st;refine wpAny_pyNext_items_item st da hu fun key h' hkey st' ht hz kk=>⟨_,rfl,?_⟩
  refine wpAny_letOwnedTupleGo_items (s:={ s with heap:=h' }) st' fun h2 st2 sb=>?_;have I1:Inv X pins σ H { s with heap:=h2 }:=I.turned (t':=s.toks) (fun b o hb e=>(sb.2 b hb).trans (kk b o hb e)) f0 f1 f3 f4 f5;have fz:FpOk X pins H s.heap.objs.size:=I.fpOk (Nat.le_refl _) (I.hok.fresh (Nat.le_refl _));have ht2:h2.get? s.heap.objs.size=some { cls:=.type "tuple",data:=.seq #[key,u] }:=(sb.2 _ (Nat.ne_of_gt hit)).trans ht;have I2:Inv X pins σ (upd H s.heap.objs.size (.tup [kV k,v])) { s with heap:=h2 } :=
   I1.track fz (Nat.le_trans I.sz (Nat.le_refl _)) (show ObjOk X.prog X.w _ h2 _ (.tup [kV k,v]) from ⟨by show 2≤sizeLine;decide,[key,u],.cons (keyIs_rel hkey) (.cons ru .nil),⟨_,ht2,rfl,_,rfl⟩⟩)
  refine ⟨.ref s.heap.objs.size,_,I2,rfl,⟨k,v,_,hkv,rfl,fz.1,rfl⟩,⟨es,ep,key,u,he,by rw [hk.len];exact st2⟩,fun b hb=>?_⟩;have e:b=it:=by simpa using hb
  subst e;rw [upd_ne (Nat.ne_of_lt hit)];exact f0
 done:=by
  intro X hP hw hK hc i pins s σ H E I hf ⟨es,ep,ok,ov,he,st⟩ ⟨hi,hd⟩;subst hP hw hK;obtain ⟨f0,f1,f2,f3,f4,f5⟩:=hf it (by simp);obtain ⟨vs,es',ep',he',hk,_,da⟩:=frz_at I hd;rw [he] at he';cases he';rw [hk.len] at st;exact wpAny_pyNext_items_end (I.ok.hd hc) st da (List.getElem?_eq_none (by rw [hi,hk.len];exact Nat.le_refl _)) fun h' eb=>⟨rfl,I.turned (t':=s.toks) (fun b o hb e=>eb b o hb e) f0 f1 f3 f4 f5⟩
 self:=fun A i s Q E ⟨es,ep,ok,ov,he,st⟩ h=>pyIter_itemiter st h
section
variable {X:Cx}
def iItems (tl:TE):TI:=fun σ H R=>tl σ H fun x H1=>∃d o kvs,x=.ref d∧H1 d=some (.frz o (.dK kvs))∧R (Iti d o kvs) H1
theorem pi_items {elts:List Expr}{x1:Nat}{tp apos cpos:Pos}{l:Expr}{tl:TE}(hl:PE X l tl) (hbase:attributeBase l "items" X.env (eval l X.env)=eval l X.env:=by rfl) (hline:(apos.endLine==cpos.line)=true:=by rfl) :
  PI X (.Tuple elts x1 tp) (.Call (.Attribute l "items" apos) [] [] cpos) (iItems tl):=by
 intro pins s σ H R I h;refine wpAny_Call_method0_late hbase hline (thn (hl pins s σ H _ I h) fun v s1 ⟨x,H1,I1,r1,q1⟩=>?_);obtain ⟨d,o,kvs,rfl,hd,q⟩:=q1;cases r1;obtain ⟨vs,es,ep,he,hk,hs,da⟩:=frz_at I1 hd;obtain ⟨t1,t2,_⟩:=isD_at I1 (.inl ⟨kvs,.inr ⟨o,hd⟩⟩);refine ⟨"dict","dict.items",F.plainAttrs_dict,F.slot_dict_items,F.type_dict_items,t1,t2,Calls.callWith_builtin rfl (PySem.evalArgs_none ?_)⟩;refine call_meetsIn F.slot_dict_items t1 F.entry_dict_items (F.args_dict_items_1 _) (meets_dict_items (mixKind X.prog X.w) d hs) ⟨⟨vs,da.dictOf⟩,?_⟩;have I2:Inv X pins σ H1 { s1 with heap:=s1.heap.push { cls:=.type "dict_items",data:=.fields #[.ref d] } }:=I1.kept (t':=s1.toks) fun b o e=>Heap.get?_push_of_some _ e;refine wpAny_pyIter_items (s:={ s1 with heap:=s1.heap.push { cls:=.type "dict_items",data:=.fields #[.ref d] } }) ⟨_,Heap.get?_push_size _ rfl,rfl,rfl⟩ (da.push _) ?_;refine ⟨_,[_],_,_,H1,rfl,I2.kept (t':=s1.toks) fun b o e=>Heap.get?_push_of_some _ e,turn_items d _ o kvs,⟨es,ep,.none,.none,he,by rw [hk.len];exact Heap.get?_push_size _ rfl⟩,fun b hb=>?_,q⟩;have e:=Zo1.mp hb;subst e;exact I2.fpOk (Nat.le_refl _) (I2.hok.fresh (Nat.le_refl _))
end
def EqR (X:Cx) (n:Nat) (H:Hp) (x y:V) (b:Bool):Prop :=
 (∀(pins:List (Addr×Obj)) (σ:St) (s:Shared) (u v:Value),Inv X pins σ H s→RelV x u→RelV y v→∀A:Around,A.units+n < cLine→SeqAt.EqAt A s u v b)∧(x=y→b=true)
section
variable {X:Cx}{H:Hp}{n:Nat}
theorem eqR_str (a b:Str):EqR X n H (.str a) (.str b) (decide (a=b)):=by
 refine ⟨fun pins σ s u v I ru rv A _=>?_,fun e=>by cases e;simp⟩;obtain ⟨t,rfl⟩:=ru;obtain ⟨t',rfl⟩:=rv;have e:decide (a=b)=(a==b):=by rw [Bool.eq_iff_iff];simp
 rw [e];exact SeqAt.EqAt.str_str a t b t'
theorem eqR_int (a b:Int):EqR X n H (.int a) (.int b) (decide (a=b)):=by
 refine ⟨fun pins σ s u v I ru rv A _=>?_,fun e=>by cases e;simp⟩;obtain ⟨t,rfl⟩:=ru;obtain ⟨t',rfl⟩:=rv;have e:decide (a=b)=(a==b):=by rw [Bool.eq_iff_iff];simp
 rw [e];exact SeqAt.EqAt.int_int a t b t'
theorem all_range {e:Nat→Bool}{m:Nat}(h:∀j,j < m→e j=true):(List.range m).all e=true:=Zp1.mpr fun j hj=>h j (Zt.mp hj)
theorem rc_list {a b:Addr}{xs ys:List V}{e:Nat→Bool}{pins:List (Addr×Obj)}{σ:St}{s:Shared}{A:Around}(I:Inv X pins σ H s) (ha:SqL X.K H a xs) (hb:SqL X.K H b ys)
  (he:xs.length=ys.length→∀j x y,xs[j]?=some x→ys[j]?=some y→EqR X n H x y (e j)) (hA:A.units + (n+1) < cLine):SeqAt.RcAt A s (.ref a) (.ref b) (decide (xs.length=ys.length)&&(List.range xs.length).all e):=by
 obtain ⟨its,rx,px,_⟩:=I.list ha;obtain ⟨jts,ry,py,_⟩:=I.list hb;have lx:=rx.length;have ly:=ry.length;by_cases hl:xs.length=ys.length
 ·rw [Zn hl,Bool.true_and]
  have q:=SeqAt.RcAt.lists (A:=A) (s:=s) (e:=e) px.isList py.isList (by rw [Zm,Zm];omega) (by omega) (fun j h1 h2=>?_)
  ·rw [Zm,←lx] at q
   exact q
  ·have h1':j < its.length:=by simpa using h1
   have h2':j < jts.length:=by simpa using h2
   obtain ⟨u,hu,ru⟩:=rx.get (i:=j) (x:=xs[j]'(by omega)) (Zc (by omega));obtain ⟨v,hv,rv⟩:=ry.get (i:=j) (x:=ys[j]'(by omega)) (Zc (by omega));have eu:its.toArray[j]=u:=by
    have:=Zc h1';rw [hu] at this;simpa using (Option.some.inj this).symm
   have ev:jts.toArray[j]=v:=by
    have:=Zc h2';rw [hv] at this;simpa using (Option.some.inj this).symm
   rw [eu,ev];exact (he hl j _ _ (Zc (by omega)) (Zc (by omega))).1 pins σ s u v I ru rv A.in1 (by show A.units+1+n < cLine;omega)
 ·rw [Zo hl,Bool.false_and]
  exact SeqAt.RcAt.lists_lengths px.isList py.isList (by simp;omega) (by omega)
theorem eqR_list {a b:Addr}{xs ys:List V}{e:Nat→Bool}(ha:SqL X.K H a xs) (hb:SqL X.K H b ys)
  (he:xs.length=ys.length→∀j x y,xs[j]?=some x→ys[j]?=some y→EqR X n H x y (e j)) (hsame:a=b→xs=ys):EqR X (n+1) H (.ref a) (.ref b) (decide (xs.length=ys.length)&&(List.range xs.length).all e):=by
 have same:a=b→(decide (xs.length=ys.length)&&(List.range xs.length).all e)=true:=fun z=>by
  have ex:=hsame z;subst ex;rw [Zn rfl,Bool.true_and];exact all_range fun j hj=>(he rfl j _ _ (Zc hj) (Zc hj)).2 rfl
 refine ⟨fun pins σ s u v I ru rv A hA=>?_,fun z=>same (by cases z;rfl)⟩;cases ru;cases rv;by_cases hab:a=b
 ·rw [same hab,hab];exact SeqAt.EqAt.same _
 ·exact SeqAt.EqAt.of_refs hab (rc_list I ha hb he hA)
end
def compOk (names outer:List (Str×NameKind)) (N N':List Str) (src:List (Option Nat)):Bool :=
 (names.all fun y=>!(y.2 == .cell))&&(names.all fun y=>!(y.2 == .local) || names.lookup y.1==some .local)&&(names.all fun y=>!(y.2 == .free) || (outer.lookup y.1==some .cell || outer.lookup y.1==some .free)) &&
 (src.length==N'.length)&&((List.range src.length).all fun i=>match src[i]?,N'[i]? with
  | some (some j),some x=>N[j]? == some x&&(outer.lookup x==some .cell || outer.lookup x==some .free)&&names.lookup x==some .free
  | _,_=>true)
theorem CompScope.of {X:Cx}{scope:Scope}{N':List Str}{src:List (Option Nat)}(outer:List (Str×NameKind)) (N:List Str) (hk:scope.kind=.function) (ho:∀x,X.env.kindOf x=outer.lookup x) (hN:X.N=N)
  (h:compOk scope.names outer N N' src=true):CompScope X scope N' src:=by
 unfold compOk at h;simp only [Zc1,Zp1,Zt] at h;obtain ⟨⟨⟨⟨h1,h2⟩,h3⟩,h4⟩,h5⟩:=h;refine ⟨hk,fun y hy e=>?_,fun y hy e=>?_,fun y hy e=>?_,by simpa using h4,fun i j x e1 e2=>?_⟩
 ·have:=h1 y hy;rw [e] at this;exact absurd this (by decide)
 ·have:=h2 y hy;rw [e] at this;simpa using this
 ·have:=h3 y hy;rw [e] at this;rw [ho];simpa using this
 ·have hi:i < src.length:=(Zg.mp e1).1
  have:=h5 i hi;rw [e1,e2] at this;simp only [Zc1,Bool.or_eq_true] at this;obtain ⟨⟨a,b⟩,c⟩:=this;rw [hN,ho];exact ⟨by simpa using a,by simpa using b,by simpa using c⟩
def rLenS:List V→Hp→VK→Prop:=fun xs H Q=>∃z,xs = [.str z]∧z.length≤sizeLine∧Q (.int z.length) H
theorem cl_len_str {X:Cx}:CallR X (.builtin "len") rLenS:=call_len_str
def rLenL (K:PySem.W.Frag):List V→Hp→VK→Prop:=fun xs H Q=>∃p ys,xs = [.ref p]∧(SqL K H p ys∨SqT K H p ys)∧Q (.int ys.length) H
theorem cl_len_seq {X:Cx}:CallR X (.builtin "len") (rLenL X.K):=call_len_seq
def rListOf (K:PySem.W.Frag):List V→Hp→VK→Prop:=fun xs H Q=>∃p ys,xs = [.ref p]∧(SqL K H p ys∨SqT K H p ys)∧∀l,H l=none→Q (.ref l) (upd H l (.lst ys))
theorem cl_list_of {X:Cx}:CallR X (.type "list") (rListOf X.K):=call_list_of
section
variable {X:Cx}{K:PySem.W.Frag}
theorem pg_tupK {es:List Expr}{k:Nat}{t:TGs}{n:Nat}{pos:Pos}(hK:X.K=K) (hc:X.calm=true) (h:PGs X es t)
  (hn:(assignEach es X.env).length=n:=by rfl) (hst:(assignEach es X.env).findIdx? (·.1)=none:=by rfl):PG X (.Tuple es k pos) (gTup K n t):=hK ▸ pg_tup hc h hn hst
theorem ix_listK (hK:X.K=K):IxR X (rIxL K):=hK ▸ ix_list
theorem cl_len_seqK (hK:X.K=K):CallR X (.builtin "len") (rLenL K):=hK ▸ cl_len_seq
theorem cl_list_ofK (hK:X.K=K):CallR X (.type "list") (rListOf K):=hK ▸ cl_list_of
theorem call_allK (hK:X.K=K) (hc:X.calm=true):CallR X (.builtin "all") (rAll K):=hK ▸ call_all hc
theorem pi_listK {tg l:Expr}{tl:TE}(hK:X.K=K) (hl:PE X l tl):PI X tg l (iList K tl):=hK ▸ pi_list hl
theorem pi_tupK {tg l:Expr}{tl:TE}(hK:X.K=K) (hl:PE X l tl):PI X tg l (iTup K tl):=hK ▸ pi_tup hl
theorem sl_listK (hK:X.K=K):SlR X (rSlL K):=hK ▸ sl_list
theorem op_notIn_seqK (hK:X.K=K):OpR X (compareOp .NotIn) (rIn K true):=hK ▸ op_notIn_seq
theorem pe_bmK {o e:Expr}{es:List Expr}{to:TE}{t:TA}{name:Str}{apos cpos:Pos}{T id:String}{r:V→List V→Hp→VK→Prop}(hK:X.K=K) (pa:PlainAttrs T) (slot:Slot T name id) (hty:typeOf (.builtin id)=pure (.type "method_descriptor")) (hm:MtR X id r) (ho:PE X o to) (ha:PA X (e::es) t)
  (hbase:attributeBase o name X.env (eval o X.env)=eval o X.env:=by rfl)
  (hfew:((backTo cpos (starEach (e::es) X.env)).all (fun x=>!x.1)&&(backToKw cpos (keywordEach [] X.env)).all (fun x=>x.1.isSome)
   && decide ((e::es).length + ([]:List Keyword).length + (if ([]:List Keyword).isEmpty then 0 else 1) < 30))=true:=by rfl)
  (hline:(apos.endLine==cpos.line)=true:=by rfl) (hs:starEach (e::es) X.env=(false,eval e X.env)::starEach es X.env:=by rfl) (hplain:(backTo cpos (starEach es X.env)).any (·.1)=false:=by rfl) :
  PE X (.Call (.Attribute o name apos) (e::es) [] cpos) (tBM K T r to t):=hK ▸ pe_bm pa slot hty hm ho ha hbase hfew hline hs hplain
end
def constV:Expr→Option V
 | .Constant (.int i) _ _=>some (.int i)
 | .Constant (.str x) _ _=>some (.str x)
 | .Constant (.bool b) _ _=>some (.bl b)
 | .Constant .none _ _=>some .non
 | _=>none
def constVs:List Expr→Option (List V)
 | []=>some []
 | e::es=>match constV e,constVs es with
  | some v,some vs=>some (v::vs)
  | _,_=>none
def tKs (vs:List V):TA:=fun _ H Q=>Q vs H
theorem pe_const {X:Cx}{e:Expr}{v:V}(h:constV e=some v):PE X e (tC v)∧∀es,starEach (e::es) X.env=(false,eval e X.env)::starEach es X.env:=by
 cases e
 case Constant c k p =>
  cases c
  case int i=>cases h;exact ⟨pe_int,fun _=>rfl⟩
  case str i=>cases h;exact ⟨pe_str,fun _=>rfl⟩
  case bool i=>cases h;exact ⟨pe_bl,fun _=>rfl⟩
  case none=>cases h;exact ⟨pe_non,fun _=>rfl⟩
  all_goals cases h
 all_goals cases h
theorem pa_consts {X:Cx}:∀{es:List Expr}{vs:List V},constVs es=some vs→PA X es (tKs vs)
 | [],vs,h=>by cases h;exact pa_nil
 | e::es,vs,h=>by
  unfold constVs at h;cases e1:constV e with
  | none=>rw [e1] at h;cases h
  | some v =>
   cases e2:constVs es with
   | none=>rw [e1,e2] at h;cases h
   | some r =>
    rw [e1,e2] at h;cases h;obtain ⟨p,q⟩:=pe_const (X:=X) e1;exact pa_cons p (pa_consts e2) (q es)
theorem Inv.turnedL {X:Cx}{pins:List (Addr×Obj)}{σ:St}{H:Hp}{s:Shared}{h':Heap}{t':Nat}{ch:List Addr}(I:Inv X pins σ H s) (k:∀b o,b∉ch→s.heap.get? b=some o→h'.get? b=some o) (f:∀b∈ch,FpOk X pins H b) :
  Inv X pins σ H { s with heap:=h',toks:=t' }:=by
 have nit:∀b u,H b=some u→b∉ch:=fun b u e z=>by rw [(f b z).1] at e;cases e
 refine I.step (g':=s.gens) (d':=s.drawn) (ch:=ch) (fun b hb=>⟨(f b hb).2.2.2.1,(f b hb).2.1,(f b hb).2.2.2.2.1,(f b hb).2.2.2.2.2⟩) (fun b o _ _ hc e _=>k b o hc e) (fun b o _ _ hc e _=>⟨o.slots,k b o hc e⟩) (fun _ _ _ _ n=>n)
  (fun b o hc e=>⟨o,k b o hc e⟩) (fun _ _ e=>e) (fun _ _ _ e=>e) (fun b ps e=>⟨#[],by rw [e];simp⟩) (fun m hm=>?_) (fun b u e=>?_) I.bare
 ·obtain ⟨o,es,ep,ho,r⟩:=hm
  exact ⟨o,es,ep,k _ o (fun z=>(f _ z).2.1 rfl) ho,r⟩
 ·refine (I.hok b u e).stay (fun c v hc q=>k c v ?_ q) (fun _ q=>q) fun _ _ q=>q
  rcases hc with rfl|hc
  ·exact nit _ u e
  ·exact nit c _ hc
def Ite (K:PySem.W.Frag) (a:Addr):It :=
 ⟨fun i H=>∃xs x,SqL K H a xs∧xs[i]?=some x,fun i H x H'=>∃v t,(∀xs,SqL K H a xs→xs[i]?=some v)∧x=.ref t∧H t=none∧H'=upd H t (.tup [.int (i:Nat),v]),fun i H=>∃xs,SqL K H a xs∧xs.length≤i⟩
theorem turn_enum {P:Program}{w:World}{K:PySem.W.Frag}{elts:List Expr}{x1:Nat}{tp:Pos}(a e it:Addr) (hne:e≠it) :
  Turn P w K (.Tuple elts x1 tp) (Ite K a) [e,it] e (fun i h=>(∃old,IsEnum h e it (i:Nat) old)∧h.IsListIter it a i) where
 mem:=by simp
 obj:=fun i h ⟨⟨old,h1⟩,o,h2,h3,h4⟩ b hb=>by
  rcases Zk.mp hb with z|hb
  ·subst z;exact ⟨_,h1,fun v z=>nomatch z⟩
  ·have z:=Zo1.mp hb
   subst z;exact ⟨o,h2,fun v z=>by rw [h4] at z;cases z⟩
 keep:=fun i h h' ⟨⟨old,h1⟩,o,h2,h3⟩ k=>⟨⟨old,k e (by simp) _ h1⟩,o,k it (by simp) _ h2,h3⟩
 item:=by
  intro X hP hw hK hc i pins s σ H E I hf ⟨⟨old,h1⟩,hit⟩ ⟨xs,x,hq,hx⟩;subst hP hw hK;obtain ⟨its,rv,p,hz⟩:=I.list hq;obtain ⟨u,hu,ru⟩:=rv.get hx;have he:e < s.heap.objs.size:=Heap.lt_size h1;have hi:it < s.heap.objs.size:=by obtain ⟨o,ho,_⟩:=hit;exact Heap.lt_size ho
  refine wpAny_pyNext_enum_item h1 hit p.isList (x:=u) (by simpa using hu) hne fun h' ho hit' ht hzz kk=>⟨_,rfl,?_⟩
  refine wpAny_letOwnedTupleGo_enum (s:={ s with heap:=h',toks:=s.toks+1 }) ho fun h2 he2 sb=>?_;have I1:Inv X pins σ H { s with heap:=h2,toks:=s.toks+1 }:=I.turnedL (ch:=[e,it]) (fun b o hb q=>(sb.2 b (fun z=>hb (by simp [z]))).trans (kk b o (fun z=>hb (by simp [z])) (fun z=>hb (by simp [z])) q)) hf;have fz:FpOk X pins H s.heap.objs.size:=I.fpOk (Nat.le_refl _) (I.hok.fresh (Nat.le_refl _));have ht2:h2.get? s.heap.objs.size=some { cls:=.type "tuple",data:=.seq #[.int i s.toks,u] }:=(sb.2 _ (Nat.ne_of_gt he)).trans ht;have I2:Inv X pins σ (upd H s.heap.objs.size (.tup [.int (i:Nat),x])) { s with heap:=h2,toks:=s.toks+1 } :=
   I1.track fz (Nat.le_trans I.sz (Nat.le_refl _)) (show ObjOk X.prog X.w _ h2 _ (.tup [.int (i:Nat),x]) from ⟨by show 2≤sizeLine;decide,[.int i s.toks,u],.cons ⟨_,rfl⟩ (.cons ru .nil),⟨_,ht2,rfl,_,rfl⟩⟩)
  refine ⟨.ref s.heap.objs.size,_,I2,rfl,⟨x,_,fun ys hy=>by rw [I.list_inj hy hq];exact hx,rfl,fz.1,rfl⟩,⟨⟨u,by simpa using he2⟩,hit'.at fun o q=>(sb.2 it (Ne.symm hne)).trans q⟩,fun b hb=>?_⟩;have hb':b < s.heap.objs.size:=by
   rcases Zk.mp hb with z|hb
   ·rw [z];exact he
   ·rw [Zo1.mp hb];exact hi
  rw [upd_ne (Nat.ne_of_lt hb')];exact (hf b hb).1
 done:=by
  intro X hP hw hK hc i pins s σ H E I hf ⟨⟨old,h1⟩,hit⟩ ⟨xs,hq,hx⟩;subst hP hw hK;obtain ⟨its,rv,p,hz⟩:=I.list hq;have hl:=rv.length;exact wpAny_pyNext_enum_end (I.ok.hd hc) h1 hit p.isList (by simp;omega) fun h' eb=>⟨rfl,I.turnedL (t':=s.toks) (ch:=[e,it]) (fun b o hb q=>eb b o (fun z=>hb (by simp [z])) q) hf⟩
 self:=fun A i s Q E ⟨⟨old,h1⟩,_⟩ h=>wpAny_pyIter_enum h1 h
section
variable {X:Cx}{K:PySem.W.Frag}
def iEnum (K:PySem.W.Frag) (ta:TA):TI:=fun σ H R=>ta σ H fun vs H1=>∃a,vs = [.ref a]∧(∃xs,SqL K H1 a xs)∧R (Ite K a) H1
theorem pi_enum {elts:List Expr}{x1:Nat}{tp:Pos}{l:Expr}{ta:TA}{p pos:Pos}(hK:X.K=K) (hg:Gl X "enumerate") (hm:X.mg "enumerate" = none) (ha:PA X [l] ta) (hs:starEach [l] X.env = [(false,eval l X.env)]:=by rfl) :
  PI X (.Tuple elts x1 tp) (.Call (.Name "enumerate" p) [l] [] pos) (iEnum K ta):=by
 subst hK;intro pins s σ H R I h;refine Call_ (ld_blt I hg hm boot_enumerate (PyProof.Rows.callWith_type1 (thn (ha pos pins s σ H _ I h) fun us s1 ⟨vs,H1,I1,r1,q1⟩=>?_) hs rfl));obtain ⟨a,rfl,⟨xs,hq⟩,q⟩:=q1;obtain ⟨u,rfl,rx⟩:=vals1 r1;cases rx;obtain ⟨its,rv,pl,hz⟩:=I1.list hq;refine call_enumerate_list pl.isList fun h' he hit hz' kk=>?_;have I2:Inv X pins σ H1 { s1 with heap:=h' }:=I1.kept (t':=s1.toks) kk;refine wpAny_pyIter_enum he ?_;refine ⟨s1.heap.objs.size+1,[s1.heap.objs.size+1,s1.heap.objs.size],_,_,H1,rfl,I2,turn_enum a _ _ (Nat.succ_ne_self _),⟨⟨_,he⟩,hit⟩,fun b hb=>?_,q⟩;rcases Zk.mp hb with z|hb
 ·rw [z];exact I1.fpOk (Nat.le_succ _) (I1.hok.fresh (Nat.le_succ _))
 ·rw [Zo1.mp hb];exact I1.fpOk (Nat.le_refl _) (I1.hok.fresh (Nat.le_refl _))
end
theorem rangeSize_down (a b:Int):Builtin.Range.rangeSize a b (-1)=if b < a then a - b else 0:=by
 unfold Builtin.Range.rangeSize;rw [if_neg (by decide)];by_cases h:b < a
 ·rw [if_pos h,if_pos h,Int.neg_neg,Int.ediv_one];omega
 ·rw [if_neg h,if_neg h]
theorem small_down {a b:Int}(ha:-(2 ^ 62)≤a) (ha':a < 2 ^ 62) (hb:-(2 ^ 62)≤b) (hb':b < 2 ^ 62):Builtin.Range.small a b (-1)=true:=by
 unfold Builtin.Range.small;rw [rangeSize_down];have h1:¬((-1:Int) > 0):=by decide
 simp only [Builtin.Range.rangeFitsLong,Zc1,Bool.or_eq_true,decide_eq_true_eq,beq_iff_eq,h1,if_false];by_cases h:b < a
 ·simp only [h,if_true];omega
 ·simp only [h,if_false];omega
section
variable {X:Cx}{tg:Expr}
def iRngD (ta:TA):TI:=fun σ H R=>ta σ H fun vs H1=>∃i j:Int,vs = [.int i,.int j,.int (-1)]∧(-(2 ^ 62)≤i∧i < 2 ^ 62∧-(2 ^ 62)≤j∧j < 2 ^ 62)∧R (Itf (fun k=>.int (i - (k:Nat))) (i - j).toNat) H1
theorem pi_rangeD {a b c:Expr}{ta:TA}{p pos:Pos}(hg:Gl X "range") (hm:X.mg "range" = none) (ha:PA X [a,b,c] ta) (hs:starEach [a,b,c] X.env = [(false,eval a X.env),(false,eval b X.env),(false,eval c X.env)]:=by rfl)
  (hs1:starEach [a,b,c] X.env=(false,eval a X.env)::starEach [b,c] X.env:=by rfl) (hs2:(backTo pos (starEach [b,c] X.env)).any (·.1)=false:=by rfl) :
  PI X tg (.Call (.Name "range" p) [a,b,c] [] pos) (iRngD ta):=by
 intro pins s σ H R I h;refine Call_ (ld_blt I hg hm boot_range (PyProof.Rows.callWith_type1 (thn (ha pos pins s σ H _ I h) fun us s1 ⟨vs,H1,I1,r1,q1⟩=>?_) hs1 hs2));obtain ⟨i,j,e,⟨q1,q2,q3,q4⟩,q⟩:=q1;subst e;cases r1 with
 | cons r rr =>
  cases rr with
  | cons r' rr =>
   cases rr with
   | cons r'' rr =>
    cases rr;obtain ⟨t,rfl⟩:=r;obtain ⟨t',rfl⟩:=r';obtain ⟨t'',rfl⟩:=r'';refine call_range_3 (by decide) ?_ (.inl (PyProof.noPylong_small (by decide)));have I2:Inv X pins σ H1 { s1 with heap:=s1.heap.push { cls:=.type "range",data:=.fields #[.int i t,.int j t',.int (-1) t''] },toks:=s1.toks }:=I1.kept fun b o e=>Heap.get?_push_of_some _ e;refine wpAny_pyIter_range (IsRange.new ..) (small_down q1 q2 q3 q4) ?_;refine ⟨_,[_],_,_,H1,rfl,I2.kept (t':=s1.toks) fun b o e=>Heap.get?_push_of_some _ e,
     turn_walks (val:=fun k=>V.int (i - (k:Nat))) (n:=(i - j).toNat) (fun A hA=>Walks.range hA _ i (-1) (i - j).toNat) (fun k h st=>⟨_,"range_iterator",_,st,rfl,rfl,by decide⟩) (fun k v ⟨tt,e⟩=>⟨tt,by rw [e];congr 1;omega⟩)
      (fun A k s Q E st h=>wpAny_pyIter_rangeiter st h),?_,fun b hb=>?_,q⟩
    ·have e1:i + ((0:Nat):Int) * (-1)=i:=by simp
     have e2:(((i - j).toNat:Nat):Int) - ((0:Nat):Int)=Builtin.Range.rangeSize i j (-1):=by rw [rangeSize_down];split<;>omega
     show IsRangeIter _ _ (i + ((0:Nat):Int) * (-1)) ((((i - j).toNat:Nat):Int) - ((0:Nat):Int)) (-1);rw [e1,e2];exact Heap.get?_push_size _ rfl
    ·have e:=Zo1.mp hb
     subst e;exact I2.fpOk (Nat.le_refl _) (I2.hok.fresh (Nat.le_refl _))
end
section
variable {X:Cx}{H:Hp}{n:Nat}
theorem eq_items {xs ys:List V}{its jts:List Value}{pins:List (Addr×Obj)}{σ:St}{s:Shared}{A:Around}{e:Nat→Bool}(I:Inv X pins σ H s) (rx:Vals xs its) (ry:Vals ys jts)
  (he:∀j x y,xs[j]?=some x→ys[j]?=some y→EqR X n H x y (e j)) (hA:A.units+n < cLine) (j:Nat) (h1:j < its.toArray.size) (h2:j < jts.toArray.size):SeqAt.EqAt A s its.toArray[j] jts.toArray[j] (e j):=by
 have lx:=rx.length;have ly:=ry.length;have h1':j < its.length:=by simpa using h1
 have h2':j < jts.length:=by simpa using h2
 obtain ⟨u,hu,ru⟩:=rx.get (i:=j) (x:=xs[j]'(by omega)) (Zc (by omega));obtain ⟨v,hv,rv⟩:=ry.get (i:=j) (x:=ys[j]'(by omega)) (Zc (by omega));have eu:its.toArray[j]=u:=by
  have:=Zc h1';rw [hu] at this;simpa using (Option.some.inj this).symm
 have ev:jts.toArray[j]=v:=by
  have:=Zc h2';rw [hv] at this;simpa using (Option.some.inj this).symm
 rw [eu,ev];exact (he j _ _ (Zc (by omega)) (Zc (by omega))).1 pins σ s u v I ru rv A hA
theorem eqR_tup {a b:Addr}{xs ys:List V}{e:Nat→Bool}(ha:SqT X.K H a xs) (hb:SqT X.K H b ys) (he:∀j x y,xs[j]?=some x→ys[j]?=some y→EqR X n H x y (e j)) (hsame:a=b→xs=ys) :
  EqR X (n+1) H (.ref a) (.ref b) ((List.range (min xs.length ys.length)).all e&&decide (xs.length=ys.length)):=by
 have same:a=b→((List.range (min xs.length ys.length)).all e&&decide (xs.length=ys.length))=true:=fun z=>by
  have ex:=hsame z;subst ex;rw [Zn rfl,Bool.and_true];exact all_range fun j hj=>(he j _ _ (Zc (by omega)) (Zc (by omega))).2 rfl
 refine ⟨fun pins σ s u v I ru rv A hA=>?_,fun z=>same (by cases z;rfl)⟩;cases ru;cases rv;by_cases hab:a=b
 ·rw [same hab,hab];exact SeqAt.EqAt.same _
 ·refine SeqAt.EqAt.of_refs hab ?_
  obtain ⟨its,rx,px,_⟩:=I.tuple ha;obtain ⟨jts,ry,py,_⟩:=I.tuple hb;have lx:=rx.length;have ly:=ry.length;have q:=SeqAt.RcAt.tuples (A:=A) (s:=s) (e:=e) (show s.heap.IsTuple a its.toArray from px) (show s.heap.IsTuple b jts.toArray from py) (by omega) (fun j h1 h2=>eq_items I rx ry he (by show A.units+1+n < cLine;omega) j h1 h2);rw [Zm,Zm,←lx,←ly] at q;have ee:(xs.length==ys.length)=decide (xs.length=ys.length):=by rw [Bool.eq_iff_iff];simp
  rw [ee] at q;exact q
def rEqL (X:Cx) (n:Nat) (neg:Bool):R2:=fun x y H Q=>∃a b xs ys e,x=.ref a∧y=.ref b∧SqL X.K H a xs∧SqL X.K H b ys∧(xs.length=ys.length→∀j x y,xs[j]?=some x→ys[j]?=some y→EqR X n H x y (e j)) ∧
 Q (.bl (if neg=true then !(decide (xs.length=ys.length)&&(List.range xs.length).all e) else decide (xs.length=ys.length)&&(List.range xs.length).all e)) H
theorem op_eq_list (n:Nat) (hu:X.A.units + (n+1) < cLine):OpR X (compareOp .Eq) (rEqL X n false):=by
 intro pins s σ H x y v u Q I rx ry h;obtain ⟨a,b,xs,ys,e,rfl,rfl,ha,hb,he,q⟩:=h;cases rx;cases ry;exact rc_list I ha hb he hu X.prog X.w _ _ (fin_bl I q rfl)
end
inductive PV where
 | non|bl (b:Bool)|int (i:Int)|str (x:Str)
 | lst (ps:List PV)|tup (ps:List PV)|dct (ks:List (Key×PV))|scr (ns:List Int)|adr (a:Addr)
 | obj (C:Addr) (nm:List Str) (ps:List PV)|dtt (ks:List (List Key×PV))
abbrev AS:=Addr→Prop
mutual
def Rep (U:AS) (H:Hp):PV→V→Prop
 | .non,v=>v=.non
 | .bl b,v=>v=.bl b
 | .int i,v=>v=.int i
 | .str x,v=>v=.str x
 | .scr ns,v=>∃a,v=.ref a∧U a∧Rd H a (.lst (ns.map V.int))
 | .adr a,v=>v=.ref a
 | .lst ps,v=>∃a xs,v=.ref a∧U a∧H a=some (.lst xs)∧Reps U H ps xs
 | .tup ps,v=>∃a xs,v=.ref a∧H a=some (.tup xs)∧Reps U H ps xs
 | .dct ks,v=>∃a kvs,v=.ref a∧U a∧Rd H a (.dK kvs)∧RepK U H ks kvs
 | .obj C nm ps,v=>∃a dx xs,v=.ref a∧U a∧H a=some (.ins C dx (nm.zip xs))∧nm.length=ps.length∧Reps U H ps xs
 | .dtt ks,v=>∃a kvs,v=.ref a∧U a∧H a=some (.dT kvs)∧RepT U H ks kvs
def Reps (U:AS) (H:Hp):List PV→List V→Prop
 | [],xs=>xs = []
 | p::ps,xs=>∃x r,xs=x::r∧Rep U H p x∧Reps U H ps r
def RepK (U:AS) (H:Hp):List (Key×PV)→List (Key×V)→Prop
 | [],xs=>xs = []
 | kp::ks,xs=>∃v r,xs=(kp.1,v)::r∧Rep U H kp.2 v∧RepK U H ks r
def RepT (U:AS) (H:Hp):List (List Key×PV)→List (List Key×V)→Prop
 | [],xs=>xs = []
 | kp::ks,xs=>∃v r,xs=(kp.1,v)::r∧Rep U H kp.2 v∧RepT U H ks r
end
inductive Cell where|l (xs:List V)|i (C dx:Addr) (fs:List (Str×V))|t (kvs:List (List Key×V))
def Cell.ho:Cell→HO
 | .l xs=>.lst xs
 | .i C dx fs=>.ins C dx fs
 | .t kvs=>.dT kvs
structure Keeps (U:AS) (H:Hp) (U':AS) (H':Hp):Prop where
 mono:∀a,U a→U' a
 lst:∀a (c:Cell),U a→H a=some c.ho→H' a=some c.ho
 rd:∀a xs,U a→Rd H a (.lst xs)→Rd H' a (.lst xs)
 dk:∀a kvs,U a→Rd H a (.dK kvs)→Rd H' a (.dK kvs)
 tup:∀a xs,H a=some (.tup xs)→H' a=some (.tup xs)
mutual
theorem Rep.keeps {U U':AS}{H H':Hp}(k:Keeps U H U' H'):∀(p:PV) (v:V),Rep U H p v→Rep U' H' p v
 | .non,v,h=>by unfold Rep at h ⊢;exact h
 | .bl b,v,h=>by unfold Rep at h ⊢;exact h
 | .int i,v,h=>by unfold Rep at h ⊢;exact h
 | .str x,v,h=>by unfold Rep at h ⊢;exact h
 | .adr x,v,h=>by unfold Rep at h ⊢;exact h
 | .scr ns,v,h=>by
  unfold Rep at h ⊢;obtain ⟨a,e,u,r⟩:=h;exact ⟨a,e,k.mono a u,k.rd a _ u r⟩
 | .lst ps,v,h=>by
  unfold Rep at h ⊢;obtain ⟨a,xs,e,u,r,q⟩:=h;exact ⟨a,xs,e,k.mono a u,k.lst a (.l xs) u r,Reps.keeps k ps xs q⟩
 | .tup ps,v,h=>by
  unfold Rep at h ⊢;obtain ⟨a,xs,e,r,q⟩:=h;exact ⟨a,xs,e,k.tup a xs r,Reps.keeps k ps xs q⟩
 | .dct ks,v,h=>by
  unfold Rep at h ⊢;obtain ⟨a,kvs,e,u,r,q⟩:=h;exact ⟨a,kvs,e,k.mono a u,k.dk a kvs u r,RepK.keeps k ks kvs q⟩
 | .obj C nm ps,v,h=>by
  unfold Rep at h ⊢;obtain ⟨a,dx,xs,e,u,r,hl,q⟩:=h;exact ⟨a,dx,xs,e,k.mono a u,k.lst a (.i C dx (nm.zip xs)) u r,hl,Reps.keeps k ps xs q⟩
 | .dtt ks,v,h=>by
  unfold Rep at h ⊢;obtain ⟨a,kvs,e,u,r,q⟩:=h;exact ⟨a,kvs,e,k.mono a u,k.lst a (.t kvs) u r,RepT.keeps k ks kvs q⟩
theorem Reps.keeps {U U':AS}{H H':Hp}(k:Keeps U H U' H'):∀(ps:List PV) (xs:List V),Reps U H ps xs→Reps U' H' ps xs
 | [],xs,h=>by unfold Reps at h ⊢;exact h
 | p::ps,xs,h=>by
  unfold Reps at h ⊢;obtain ⟨x,r,e,h1,h2⟩:=h;exact ⟨x,r,e,Rep.keeps k p x h1,Reps.keeps k ps r h2⟩
theorem RepK.keeps {U U':AS}{H H':Hp}(k:Keeps U H U' H'):∀(ks:List (Key×PV)) (xs:List (Key×V)),RepK U H ks xs→RepK U' H' ks xs
 | [],xs,h=>by unfold RepK at h ⊢;exact h
 | kp::ks,xs,h=>by
  unfold RepK at h ⊢;obtain ⟨v,r,e,h1,h2⟩:=h;exact ⟨v,r,e,Rep.keeps k kp.2 v h1,RepK.keeps k ks r h2⟩
theorem RepT.keeps {U U':AS}{H H':Hp}(k:Keeps U H U' H'):∀(ks:List (List Key×PV)) (xs:List (List Key×V)),RepT U H ks xs→RepT U' H' ks xs
 | [],xs,h=>by unfold RepT at h ⊢;exact h
 | kp::ks,xs,h=>by
  unfold RepT at h ⊢;obtain ⟨v,r,e,h1,h2⟩:=h;exact ⟨v,r,e,Rep.keeps k kp.2 v h1,RepT.keeps k ks r h2⟩
end
section
variable {U:AS}{H:Hp}
theorem rep_non {v:V}:Rep U H .non v↔v=.non:=by unfold Rep;exact Iff.rfl
theorem rep_bl {b:Bool}{v:V}:Rep U H (.bl b) v↔v=.bl b:=by unfold Rep;exact Iff.rfl
theorem rep_int {i:Int}{v:V}:Rep U H (.int i) v↔v=.int i:=by unfold Rep;exact Iff.rfl
theorem rep_str {x:Str}{v:V}:Rep U H (.str x) v↔v=.str x:=by unfold Rep;exact Iff.rfl
theorem rep_adr {a:Addr}{v:V}:Rep U H (.adr a) v↔v=.ref a:=by unfold Rep;exact Iff.rfl
theorem rep_scr {ns:List Int}{v:V}:Rep U H (.scr ns) v↔∃a,v=.ref a∧U a∧Rd H a (.lst (ns.map V.int)):=by unfold Rep;exact Iff.rfl
theorem rep_lst {ps:List PV}{v:V}:Rep U H (.lst ps) v↔∃a xs,v=.ref a∧U a∧H a=some (.lst xs)∧Reps U H ps xs:=by rw [Rep.eq_def]
theorem rep_tup {ps:List PV}{v:V}:Rep U H (.tup ps) v↔∃a xs,v=.ref a∧H a=some (.tup xs)∧Reps U H ps xs:=by rw [Rep.eq_def]
theorem rep_dct {ks:List (Key×PV)}{v:V}:Rep U H (.dct ks) v↔∃a kvs,v=.ref a∧U a∧Rd H a (.dK kvs)∧RepK U H ks kvs:=by rw [Rep.eq_def]
theorem rep_obj {C:Addr}{nm:List Str}{ps:List PV}{v:V}:Rep U H (.obj C nm ps) v↔∃a dx xs,v=.ref a∧U a∧H a=some (.ins C dx (nm.zip xs))∧nm.length=ps.length∧Reps U H ps xs:=by rw [Rep.eq_def]
theorem rep_dtt {ks:List (List Key×PV)}{v:V}:Rep U H (.dtt ks) v↔∃a kvs,v=.ref a∧U a∧H a=some (.dT kvs)∧RepT U H ks kvs:=by rw [Rep.eq_def]
theorem reps_nil {xs:List V}:Reps U H [] xs↔xs = []:=by unfold Reps;exact Iff.rfl
theorem reps_cons {p:PV}{ps:List PV}{xs:List V}:Reps U H (p::ps) xs↔∃x r,xs=x::r∧Rep U H p x∧Reps U H ps r:=by rw [Reps.eq_def]
theorem repK_nil {xs:List (Key×V)}:RepK U H [] xs↔xs = []:=by unfold RepK;exact Iff.rfl
theorem repK_cons {kp:Key×PV}{ks:List (Key×PV)}{xs:List (Key×V)}:RepK U H (kp::ks) xs↔∃v r,xs=(kp.1,v)::r∧Rep U H kp.2 v∧RepK U H ks r:=by rw [RepK.eq_def]
theorem Reps.length:∀{ps:List PV}{xs:List V},Reps U H ps xs→xs.length=ps.length
 | [],xs,h=>by rw [reps_nil.mp h];rfl
 | p::ps,xs,h=>by
  obtain ⟨x,r,rfl,_,h2⟩:=reps_cons.mp h;simp [Reps.length h2]
theorem Reps.get:∀{ps:List PV}{xs:List V}{i:Nat}{p:PV},Reps U H ps xs→ps[i]?=some p→∃v,xs[i]?=some v∧Rep U H p v
 | [],xs,i,p,h,e=>by simp at e
 | q::ps,xs,0,p,h,e=>by
  obtain ⟨x,r,rfl,h1,_⟩:=reps_cons.mp h;simp at e;subst e;exact ⟨x,rfl,h1⟩
 | q::ps,xs,i+1,p,h,e=>by
  obtain ⟨x,r,rfl,_,h2⟩:=reps_cons.mp h;obtain ⟨v,hv,hr⟩:=Reps.get (i:=i) h2 (by simpa using e);exact ⟨v,by simpa using hv,hr⟩
theorem Reps.append:∀{ps qs:List PV}{xs ys:List V},Reps U H ps xs→Reps U H qs ys→Reps U H (ps++qs) (xs++ys)
 | [],qs,xs,ys,h,g=>by rw [reps_nil.mp h];exact g
 | p::ps,qs,xs,ys,h,g=>by
  obtain ⟨x,r,rfl,h1,h2⟩:=reps_cons.mp h;exact reps_cons.mpr ⟨x,r++ys,rfl,h1,Reps.append h2 g⟩
theorem Reps.one {p:PV}{v:V}(h:Rep U H p v):Reps U H [p] [v]:=reps_cons.mpr ⟨v,[],rfl,h,reps_nil.mpr rfl⟩
theorem Reps.take:∀{ps:List PV}{xs:List V}(n:Nat),Reps U H ps xs→Reps U H (ps.take n) (xs.take n)
 | _,_,0,_=>reps_nil.mpr rfl
 | [],xs,n+1,h=>by rw [reps_nil.mp h];exact reps_nil.mpr rfl
 | p::ps,xs,n+1,h=>by
  obtain ⟨x,r,rfl,h1,h2⟩:=reps_cons.mp h;exact reps_cons.mpr ⟨x,r.take n,rfl,h1,Reps.take n h2⟩
theorem Reps.drop:∀{ps:List PV}{xs:List V}(n:Nat),Reps U H ps xs→Reps U H (ps.drop n) (xs.drop n)
 | _,_,0,h=>h
 | [],xs,n+1,h=>by rw [reps_nil.mp h];exact reps_nil.mpr rfl
 | p::ps,xs,n+1,h=>by
  obtain ⟨x,r,rfl,h1,h2⟩:=reps_cons.mp h;exact Reps.drop n h2
theorem Reps.bls:∀{bs:List Bool}{xs:List V},Reps U H (bs.map PV.bl) xs→xs=bs.map V.bl
 | [],xs,h=>reps_nil.mp h
 | n::ns,xs,h=>by
  obtain ⟨x,r,rfl,h1,h2⟩:=reps_cons.mp h;rw [rep_bl.mp h1,Reps.bls h2];rfl
theorem Reps.of_ints:∀(ns:List Int),Reps U H (ns.map PV.int) (ns.map V.int)
 | []=>reps_nil.mpr rfl
 | n::ns=>reps_cons.mpr ⟨_,_,rfl,rep_int.mpr rfl,Reps.of_ints ns⟩
end
inductive Fl where|shr|own|bor
abbrev PEnv:=List (Option (PV×Fl))
def Top (U:AS) (H:Hp) (p:PV) (a:Addr):Prop:=match p with
 | .lst ps=>∃xs,H a=some (.lst xs)∧Reps U H ps xs
 | .dct ks=>∃kvs,H a=some (.dK kvs)∧RepK U H ks kvs
 | .dtt ks=>∃kvs,H a=some (.dT kvs)∧RepT U H ks kvs
 | _=>False
def Bor (U:AS) (H:Hp) (p:PV) (v:V):Prop:=match p with
 | .lst ps=>∃a xs,v=.ref a∧H a=some (.lst xs)∧Reps U H ps xs
 | .dct ks=>∃a kvs,v=.ref a∧Rd H a (.dK kvs)∧RepK U H ks kvs
 | .dtt ks=>∃a kvs,v=.ref a∧H a=some (.dT kvs)∧RepT U H ks kvs
 | .scr ns=>∃a,v=.ref a∧Rd H a (.lst (ns.map V.int))
 | q=>Rep U H q v
def isAdr:PV→Bool
 | .adr _=>true
 | _=>false
def SlotOk (U O:AS) (H:Hp):Fl→PV→V→Prop
 | .shr,p,v=>Rep U H p v
 | .own,p,v=>∃a,v=.ref a∧O a∧Top U H p a
 | .bor,p,v=>Bor U H p v∧(∀a,v=.ref a→¬O a)∧isAdr p=false
theorem Rep.bor {U:AS}{H:Hp}{p:PV}{v:V}(h:Rep U H p v):Bor U H p v:=by
 cases p with
 | lst ps=>obtain ⟨a,xs,e,_,r,q⟩:=rep_lst.mp h;exact ⟨a,xs,e,r,q⟩
 | dct ks=>obtain ⟨a,xs,e,_,r,q⟩:=rep_dct.mp h;exact ⟨a,xs,e,r,q⟩
 | dtt ks=>obtain ⟨a,xs,e,_,r,q⟩:=rep_dtt.mp h;exact ⟨a,xs,e,r,q⟩
 | scr ns=>obtain ⟨a,e,_,r⟩:=rep_scr.mp h;exact ⟨a,e,r⟩
 | _=>exact h
theorem Top.bor {U:AS}{H:Hp}{p:PV}{a:Addr}(h:Top U H p a):Bor U H p (.ref a):=by
 cases p with
 | lst ps=>obtain ⟨xs,r,q⟩:=h;exact ⟨a,xs,rfl,r,q⟩
 | dct ks=>obtain ⟨xs,r,q⟩:=h;exact ⟨a,xs,rfl,.inl r,q⟩
 | dtt ks=>obtain ⟨xs,r,q⟩:=h;exact ⟨a,xs,rfl,r,q⟩
 | _=>exact h.elim
theorem Top.rep {U:AS}{H:Hp}{p:PV}{a:Addr}(h:Top U H p a) (u:U a):Rep U H p (.ref a):=by
 cases p with
 | lst ps=>obtain ⟨xs,r,q⟩:=h;exact rep_lst.mpr ⟨a,xs,rfl,u,r,q⟩
 | dct ks=>obtain ⟨xs,r,q⟩:=h;exact rep_dct.mpr ⟨a,xs,rfl,u,.inl r,q⟩
 | dtt ks=>obtain ⟨xs,r,q⟩:=h;exact rep_dtt.mpr ⟨a,xs,rfl,u,r,q⟩
 | _=>exact h.elim
theorem Rd.dom {H:Hp}{a:Addr}{u:HO}(h:Rd H a u):H a≠none:=by
 rcases h with h|⟨o,h⟩
 ·rw [h];intro z;cases z
 ·rw [h];intro z;cases z
theorem Top.notAdr {U:AS}{H:Hp}{p:PV}{a:Addr}(h:Top U H p a):isAdr p=false:=by
 cases p<;>first|rfl|exact h.elim
theorem Bor.dom {U:AS}{H:Hp}{p:PV}{a:Addr}(h:Bor U H p (.ref a)) (na:isAdr p=false):H a≠none:=by
 cases p with
 | adr b=>cases na
 | lst ps=>obtain ⟨b,xs,e,r,q⟩:=h;cases e;rw [r];intro z;cases z
 | dct ks=>obtain ⟨b,xs,e,r,q⟩:=h;cases e;exact r.dom
 | dtt ks=>obtain ⟨b,xs,e,r,q⟩:=h;cases e;rw [r];intro z;cases z
 | obj C nm ps=>obtain ⟨b,dx,xs,e,_,r,_,q⟩:=rep_obj.mp h;cases e;rw [r];intro z;cases z
 | scr ns=>obtain ⟨b,e,r⟩:=h;cases e;exact r.dom
 | tup ps=>obtain ⟨b,xs,e,r,q⟩:=rep_tup.mp h;cases e;rw [r];intro z;cases z
 | non=>exact absurd ((rep_non (U:=U) (H:=H)).mp h) (by intro z;cases z)
 | bl b=>exact absurd ((rep_bl (U:=U) (H:=H)).mp h) (by intro z;cases z)
 | int b=>exact absurd ((rep_int (U:=U) (H:=H)).mp h) (by intro z;cases z)
 | str b=>exact absurd ((rep_str (U:=U) (H:=H)).mp h) (by intro z;cases z)
def Mutb (H:Hp) (a:Addr):Prop:=∃o,H a=some o∧∀xs,o≠.tup xs
structure SR (U O:AS) (H:Hp) (σ:St) (ρ:PEnv):Prop where
 len:σ.length=ρ.length
 dU:∀a,U a→H a≠none
 dO:∀a,O a→Mutb H a
 dis:∀a,U a→¬O a
 slot:∀(i:Nat) (p:PV) (fl:Fl),ρ[i]?=some (some (p,fl))→∃v,σ[i]?=some (some v)∧SlotOk U O H fl p v
 inj:∀(i j:Nat) (p q:PV) (a:Addr),i≠j→ρ[i]?=some (some (p,.own))→ρ[j]?=some (some (q,.own))→σ[i]?=some (some (.ref a))→σ[j]?≠some (some (.ref a))
structure Ext (U:AS) (H:Hp) (U':AS) (H':Hp):Prop where
 same:Same H H'
 mono:∀a,U a→U' a
 new:∀a,U' a→U a∨H a=none
 dU:∀a,U' a→H' a≠none
theorem Same.rd {H H':Hp}(s:Same H H') {a:Addr}{u:HO}(h:Rd H a u):Rd H' a u:=by
 rcases h with h|⟨o,h⟩
 ·exact .inl (s _ _ h)
 ·exact .inr ⟨o,s _ _ h⟩
theorem Ext.keeps {U U':AS}{H H':Hp}(e:Ext U H U' H'):Keeps U H U' H' :=
 ⟨e.mono,fun a xs _ h=>e.same _ _ h,fun a xs _ h=>e.same.rd h,fun a kvs _ h=>e.same.rd h,fun a xs h=>e.same _ _ h⟩
theorem Ext.refl {U:AS}{H:Hp}(d:∀a,U a→H a≠none):Ext U H U H:=⟨fun _ _ h=>h,fun _ h=>h,fun _ h=>.inl h,d⟩
theorem Ext.trans {U U1 U2:AS}{H H1 H2:Hp}(a:Ext U H U1 H1) (b:Ext U1 H1 U2 H2):Ext U H U2 H2:=by
 refine ⟨fun c o h=>b.same c o (a.same c o h),fun c h=>b.mono c (a.mono c h),fun c h=>?_,b.dU⟩;rcases b.new c h with h|h
 ·exact a.new c h
 ·refine .inr ?_
  cases q:H c with
  | none=>rfl
  | some o=>rw [a.same c o q] at h;cases h
theorem Ext.laid {U:AS}{H:Hp}{a:Addr}{o:HO}(d:∀a,U a→H a≠none) (ha:H a=none):Ext U H U (upd H a o):=by
 refine ⟨fun b u h=>?_,fun _ h=>h,fun _ h=>.inl h,fun b h=>?_⟩
 ·rw [upd_ne (ne_of_none h ha)];exact h
 ·intro z
  by_cases e:b=a
  ·subst e;exact d _ h ha
  ·rw [upd_ne e] at z;exact d _ h z
theorem Ext.share {U U':AS}{H H':Hp}{a:Addr}(e:Ext U H U' H') (ha:H a=none) (ha':H' a≠none):Ext U H (fun b=>U' b∨b=a) H':=by
 refine ⟨e.same,fun b h=>.inl (e.mono b h),fun b h=>?_,fun b h=>?_⟩
 ·rcases h with h|rfl
  ·exact e.new b h
  ·exact .inr ha
 ·rcases h with h|rfl
  ·exact e.dU b h
  ·exact ha'
theorem Keeps.share {U:AS}{H:Hp}{a:Addr}:Keeps U H (fun b=>U b∨b=a) H :=
 ⟨fun _ h=>.inl h,fun _ _ _ h=>h,fun _ _ _ h=>h,fun _ _ _ h=>h,fun _ _ h=>h⟩
theorem Top.keeps {U U':AS}{H H':Hp}{p:PV}{a:Addr}(k:Keeps U H U' H') (ha:∀o,H a=some o→H' a=some o) (h:Top U H p a):Top U' H' p a:=by
 cases p with
 | lst ps=>obtain ⟨xs,r,q⟩:=h;exact ⟨xs,ha _ r,Reps.keeps k _ _ q⟩
 | dct ks=>obtain ⟨xs,r,q⟩:=h;exact ⟨xs,ha _ r,RepK.keeps k _ _ q⟩
 | dtt ks=>obtain ⟨xs,r,q⟩:=h;exact ⟨xs,ha _ r,RepT.keeps k _ _ q⟩
 | _=>exact h.elim
theorem Bor.keeps {U U':AS}{H H':Hp}{p:PV}{v:V}(k:Keeps U H U' H') (s:Same H H') (h:Bor U H p v):Bor U' H' p v:=by
 cases p with
 | lst ps=>obtain ⟨a,xs,e,r,q⟩:=h;exact ⟨a,xs,e,s _ _ r,Reps.keeps k _ _ q⟩
 | dct ks=>obtain ⟨a,xs,e,r,q⟩:=h;exact ⟨a,xs,e,s.rd r,RepK.keeps k _ _ q⟩
 | dtt ks=>obtain ⟨a,xs,e,r,q⟩:=h;exact ⟨a,xs,e,s _ _ r,RepT.keeps k _ _ q⟩
 | scr ns=>obtain ⟨a,e,r⟩:=h;exact ⟨a,e,s.rd r⟩
 | _=>exact Rep.keeps k _ _ h
theorem SR.ext {U O U':AS}{H H':Hp}{σ:St}{ρ:PEnv}(s:SR U O H σ ρ) (e:Ext U H U' H'):SR U' O H' σ ρ:=by
 refine ⟨s.len,e.dU,fun a h=>?_,fun a h o=>?_,fun i p fl h=>?_,s.inj⟩
 ·obtain ⟨o,h1,h2⟩:=s.dO a h
  exact ⟨o,e.same a o h1,h2⟩
 ·rcases e.new a h with h|h
  ·exact s.dis a h o
  ·obtain ⟨u,h1,_⟩:=s.dO a o
   rw [h] at h1;cases h1
 ·obtain ⟨v,hv,ok⟩:=s.slot i p fl h
  refine ⟨v,hv,?_⟩;cases fl with
  | shr=>exact Rep.keeps e.keeps _ _ ok
  | own=>obtain ⟨a,e1,e2,e3⟩:=ok;exact ⟨a,e1,e2,e3.keeps e.keeps fun o h=>e.same _ _ h⟩
  | bor=>exact ⟨Bor.keeps e.keeps e.same ok.1,ok.2⟩
inductive Md where|shr|fr|bor
def Res (m:Md) (H:Hp) (U':AS) (H':Hp) (p:PV) (v:V):Prop:=match m with
 | .shr=>Rep U' H' p v
 | .fr=>∃a,v=.ref a∧H a=none∧¬U' a∧Top U' H' p a
 | .bor=>Bor U' H' p v
def VE (m:Md) (t:TE) (f:PEnv→Option PV):Prop:=∀(U O:AS) (H:Hp) (σ:St) (ρ:PEnv) (Q:VK) (p:PV),SR U O H σ ρ→f ρ=some p →
 (∀v H' U',Ext U H U' H'→Res m H U' H' p v→Q v H')→t σ H Q
theorem VE.shr {t:TE}{f:PEnv→Option PV}(h:VE .fr t f):VE .shr t f:=by
 intro U O H σ ρ Q p s e k;refine h U O H σ ρ Q p s e fun v H' U' ex ⟨a,ea,ha,hu,tp⟩=>?_;subst ea;have hne:H' a≠none:=by
  cases p with
  | lst ps=>obtain ⟨xs,r,_⟩:=tp;rw [r];intro z;cases z
  | dct ps=>obtain ⟨xs,r,_⟩:=tp;rw [r];intro z;cases z
  | dtt ps=>obtain ⟨xs,r,_⟩:=tp;rw [r];intro z;cases z
  | _=>exact tp.elim
 exact k (.ref a) H' _ (ex.share ha hne) ((tp.keeps Keeps.share fun o h=>h).rep (.inr rfl))
theorem VE.bor {m:Md}{t:TE}{f:PEnv→Option PV}(h:VE m t f):VE .bor t f:=by
 intro U O H σ ρ Q p s e k;refine h U O H σ ρ Q p s e fun v H' U' ex r=>k v H' U' ex ?_;cases m with
 | shr=>exact Rep.bor r
 | fr=>obtain ⟨a,rfl,_,_,tp⟩:=r;exact tp.bor
 | bor=>exact r
def VT (t:TT) (f:PEnv→Option Bool):Prop:=∀(U O:AS) (H:Hp) (σ:St) (ρ:PEnv) (Q:Bool→Hp→Prop) (b:Bool),SR U O H σ ρ→f ρ=some b →
 (∀H' U',Ext U H U' H'→Q b H')→t σ H Q
inductive Bors (U:AS) (H:Hp):List PV→List V→Prop
 | nil:Bors U H [] []
 | cons {p:PV}{v:V}{ps:List PV}{vs:List V}:Bor U H p v→Bors U H ps vs→Bors U H (p::ps) (v::vs)
def ResA (b:Bool) (U':AS) (H':Hp) (ps:List PV) (vs:List V):Prop:=if b=true then Bors U' H' ps vs else Reps U' H' ps vs
def VA (b:Bool) (t:TA) (f:PEnv→Option (List PV)):Prop:=∀(U O:AS) (H:Hp) (σ:St) (ρ:PEnv) (Q:List V→Hp→Prop) (ps:List PV),SR U O H σ ρ→f ρ=some ps →
 (∀vs H' U',Ext U H U' H'→ResA b U' H' ps vs→Q vs H')→t σ H Q
inductive Out where
 | nx (ρ:PEnv)|bk (ρ:PEnv)|ct (ρ:PEnv)|rt (p:PV) (fr:Bool)
structure Tr (U O:AS) (H:Hp) (U' O':AS) (H':Hp):Prop where
 fr:∀a o,H a=some o→¬O a→H' a=some o
 mono:∀a,U a→U' a
 new:∀a,U' a→U a∨O a∨H a=none
 own:∀a,O' a→O a∨H a=none
 dU:∀a,U' a→H' a≠none
 dm:∀a,H a≠none→H' a≠none
theorem Tr.refl {U O:AS}{H:Hp}(d:∀a,U a→H a≠none):Tr U O H U O H:=⟨fun _ _ h _=>h,fun _ h=>h,fun _ h=>.inl h,fun _ h=>.inl h,d,fun _ h=>h⟩
theorem Tr.trans {U O U1 O1 U2 O2:AS}{H H1 H2:Hp}(a:Tr U O H U1 O1 H1) (b:Tr U1 O1 H1 U2 O2 H2):Tr U O H U2 O2 H2:=by
 have back:∀c,H1 c=none→H c=none:=fun c h=>by
  cases q:H c with
  | none=>rfl
  | some o=>exact absurd h (a.dm c (by rw [q];intro z;cases z))
 refine ⟨fun c o h n=>b.fr c o (a.fr c o h n) fun z=>?_,fun c h=>b.mono c (a.mono c h),fun c h=>?_,fun c h=>?_,b.dU,fun c h=>b.dm c (a.dm c h)⟩
 ·rcases a.own c z with z|z
  ·exact n z
  ·rw [h] at z;cases z
 ·rcases b.new c h with h|h|h
  ·exact a.new c h
  ·rcases a.own c h with h|h
   ·exact .inr (.inl h)
   ·exact .inr (.inr h)
  ·exact .inr (.inr (back c h))
 ·rcases b.own c h with h|h
  ·exact a.own c h
  ·exact .inr (back c h)
theorem Ext.tr {U O U':AS}{H H':Hp}(e:Ext U H U' H'):Tr U O H U' O H' :=
 ⟨fun a o h _=>e.same a o h,e.mono,fun a h=>(e.new a h).elim .inl fun z=>.inr (.inr z),fun _ h=>.inl h,e.dU,fun a h z=>by
  cases q:H a with
  | none=>exact h q
  | some o=>rw [e.same a o q] at z;cases z⟩
theorem Tr.keeps {U O U' O':AS}{H H':Hp}(t:Tr U O H U' O' H') (dis:∀a,U a→¬O a) (dO:∀a,O a→Mutb H a):Keeps U H U' H':=by
 refine ⟨t.mono,fun a xs u h=>t.fr a _ h (dis a u),fun a xs u h=>?_,fun a kvs u h=>?_,fun a xs h=>t.fr a _ h fun z=>?_⟩
 ·rcases h with h|⟨o,h⟩
  ·exact .inl (t.fr a _ h (dis a u))
  ·exact .inr ⟨o,t.fr a _ h (dis a u)⟩
 ·rcases h with h|⟨o,h⟩
  ·exact .inl (t.fr a _ h (dis a u))
  ·exact .inr ⟨o,t.fr a _ h (dis a u)⟩
 ·obtain ⟨o,h1,h2⟩:=dO a z
  rw [h] at h1;cases h1;exact h2 xs rfl
def RetOk (fr:Bool) (O:AS) (H:Hp) (U':AS) (H':Hp) (p:PV) (v:V):Prop :=
 if fr=true then ∃a,v=.ref a∧¬U' a∧(H a=none∨O a)∧Top U' H' p a else Rep U' H' p v
def Post (U O:AS) (H:Hp) (D:Ends):Out→Prop
 | .nx ρ'=>∀U' O' H' σ',SR U' O' H' σ' ρ'→Tr U O H U' O' H'→D.nx σ' H'
 | .bk ρ'=>∀U' O' H' σ',SR U' O' H' σ' ρ'→Tr U O H U' O' H'→D.bk σ' H'
 | .ct ρ'=>∀U' O' H' σ',SR U' O' H' σ' ρ'→Tr U O H U' O' H'→D.ct σ' H'
 | .rt p fr=>∀U' O' H' v,Tr U O H U' O' H'→RetOk fr O H U' H' p v→D.rt v H'
def VS (t:TS) (F:PEnv→Option Out):Prop:=∀(U O:AS) (H:Hp) (σ:St) (ρ:PEnv) (D:Ends) (o:Out),SR U O H σ ρ→F ρ=some o→Post U O H D o→t D σ H
end L2
namespace L2
open PySem PySem.Spec PyProof.Rows
theorem Tr.back {U O U1 O1:AS}{H H1:Hp}(a:Tr U O H U1 O1 H1) {c:Addr}(h:H1 c=none):H c=none:=by
 cases q:H c with
 | none=>rfl
 | some o=>exact absurd h (a.dm c (by rw [q];intro z;cases z))
theorem RetOk.pre {fr:Bool}{U O U1 O1 U':AS}{H H1 H':Hp}{p:PV}{v:V}(t:Tr U O H U1 O1 H1) (r:RetOk fr O1 H1 U' H' p v):RetOk fr O H U' H' p v:=by
 cases fr with
 | false=>exact r
 | true =>
  obtain ⟨a,e,nu,h,tp⟩:=r;refine ⟨a,e,nu,?_,tp⟩;rcases h with h|h
  ·exact .inl (t.back h)
  ·rcases t.own a h with h|h
   ·exact .inr h
   ·exact .inl h
theorem Post.pre {U O U1 O1:AS}{H H1:Hp}{D:Ends}{o:Out}(t:Tr U O H U1 O1 H1) (q:Post U O H D o):Post U1 O1 H1 D o:=by
 cases o with
 | nx ρ'=>exact fun U' O' H' σ' s r=>q U' O' H' σ' s (t.trans r)
 | bk ρ'=>exact fun U' O' H' σ' s r=>q U' O' H' σ' s (t.trans r)
 | ct ρ'=>exact fun U' O' H' σ' s r=>q U' O' H' σ' s (t.trans r)
 | rt p fr=>exact fun U' O' H' v r k=>q U' O' H' v (t.trans r) (k.pre t)
abbrev VF:=PEnv→Option Out
def vSkip:VF:=fun ρ=>some (.nx ρ)
def vSeq (F G:VF):VF:=fun ρ=>match F ρ with
 | some (.nx ρ')=>G ρ'
 | o=>o
def vNone:VF:=fun _=>none
def vRet (f:PEnv→Option PV) (fr:Bool):VF:=fun ρ=>(f ρ).map fun p=>.rt p fr
def vRetO (i:Nat):VF:=fun ρ=>match ρ[i]? with
 | some (some (p,.own))=>some (.rt p true)
 | _=>none
def vBrk:VF:=fun ρ=>some (.bk ρ)
def vCnt:VF:=fun ρ=>some (.ct ρ)
def vIf (c:PEnv→Option Bool) (F G:VF):VF:=fun ρ=>match c ρ with
 | some true=>F ρ
 | some false=>G ρ
 | none=>none
def vSetS (i:Nat) (f:PEnv→Option PV):VF:=fun ρ=>(f ρ).map fun p=>.nx (ρ.set i (some (p,.shr)))
def vSetO (i:Nat) (f:PEnv→Option PV):VF:=fun ρ=>(f ρ).map fun p=>.nx (ρ.set i (some (p,.own)))
def vDrop (f:PEnv→Option PV):VF:=fun ρ=>(f ρ).map fun _=>.nx ρ
theorem vs_skip:VS tNext vSkip:=by
 intro U O H σ ρ D o s e q;cases e;exact q U O H σ s (.refl s.dU)
theorem vs_never:VS tNever vNone:=by
 intro U O H σ ρ D o s e q;cases e
theorem vs_seq {t u:TS}{F G:VF}(h:VS t F) (g:VS u G):VS (tSeq t u) (vSeq F G):=by
 intro U O H σ ρ D o s e q;unfold vSeq at e;cases z:F ρ with
 | none=>rw [z] at e;cases e
 | some o1 =>
  rw [z] at e;refine h U O H σ ρ { D with nx:=u D } o1 s z ?_;cases o1 with
  | nx ρ1=>exact fun U1 O1 H1 σ1 s1 r1=>g U1 O1 H1 σ1 ρ1 D o s1 e (q.pre r1)
  | bk ρ1=>cases e;exact q
  | ct ρ1=>cases e;exact q
  | rt p fr=>cases e;exact q
theorem vs_if {c:TT}{t u:TS}{fc:PEnv→Option Bool}{F G:VF}(hc:VT c fc) (h:VS t F) (g:VS u G):VS (tIfS c t u) (vIf fc F G):=by
 intro U O H σ ρ D o s e q;unfold vIf at e;cases z:fc ρ with
 | none=>rw [z] at e;cases e
 | some b =>
  rw [z] at e;refine hc U O H σ ρ _ b s z fun H' U' ex=>?_;cases b with
  | true=>exact h U' O H' σ ρ D o (s.ext ex) e (q.pre ex.tr)
  | false=>exact g U' O H' σ ρ D o (s.ext ex) e (q.pre ex.tr)
theorem vs_retS {te:TE}{f:PEnv→Option PV}(h:VE .shr te f):VS (tRet te) (vRet f false):=by
 intro U O H σ ρ D o s e q;unfold vRet at e;obtain ⟨p,hp,rfl⟩:=Zb.mp e;exact h U O H σ ρ _ p s hp fun v H' U' ex r=>q U' O H' v ex.tr r
theorem vs_retF {te:TE}{f:PEnv→Option PV}(h:VE .fr te f):VS (tRet te) (vRet f true):=by
 intro U O H σ ρ D o s e q;unfold vRet at e;obtain ⟨p,hp,rfl⟩:=Zb.mp e;exact h U O H σ ρ _ p s hp fun v H' U' ex ⟨a,ea,ha,hu,tp⟩=>q U' O H' v ex.tr ⟨a,ea,hu,.inl ha,tp⟩
theorem vs_retO {i:Nat}:VS (tRet (tVar i)) (vRetO i):=by
 intro U O H σ ρ D o s e q;unfold vRetO at e;split at e
 ·rename_i p hp
  cases e;obtain ⟨v,hv,a,rfl,oa,tp⟩:=s.slot i p .own hp;exact ⟨_,hv,q U O H (.ref a) (.refl s.dU) ⟨a,rfl,fun u=>s.dis a u oa,.inr oa,tp⟩⟩
 ·cases e
theorem vs_drop {te:TE}{m:Md}{f:PEnv→Option PV}(h:VE m te f):VS (tDrop te) (vDrop f):=by
 intro U O H σ ρ D o s e q;unfold vDrop at e;obtain ⟨p,hp,rfl⟩:=Zb.mp e;exact h U O H σ ρ _ p s hp fun v H' U' ex r=>q U' O H' σ (s.ext ex) ex.tr
theorem get_set_some {α:Type}{l:List α}{i j:Nat}{x y:α}(h:(l.set i x)[j]?=some y):(i=j∧y=x∧i < l.length)∨(i≠j∧l[j]?=some y):=by
 rw [List.getElem?_set] at h;by_cases e:i=j
 ·subst e
  simp only [if_true] at h;by_cases hl:i < l.length
  ·simp only [hl,if_true] at h;exact .inl ⟨rfl,(Option.some.inj h).symm,hl⟩
  ·simp only [hl,if_false] at h;cases h
 ·simp only [e,if_false] at h
  exact .inr ⟨e,h⟩
theorem set_same {α:Type}{l:List α}{i:Nat}{x:α}(h:i < l.length):(l.set i x)[i]?=some x:=by simp [h]
theorem set_other {α:Type}{l:List α}{i j:Nat}{x:α}(h:i≠j):(l.set i x)[j]?=l[j]?:=by simp [h]
theorem SR.setS {U O:AS}{H:Hp}{σ:St}{ρ:PEnv}{i:Nat}{p:PV}{v:V}(s:SR U O H σ ρ) (r:Rep U H p v):SR U O H (σ.set i (some v)) (ρ.set i (some (p,.shr))):=by
 refine ⟨by simp [s.len],s.dU,s.dO,s.dis,fun j q fl h=>?_,fun j k q q' a ne h1 h2 h3 h4=>?_⟩
 ·rcases get_set_some h with ⟨rfl,e,hl⟩|⟨ne,h⟩
  ·cases e
   exact ⟨v,set_same (by rw [s.len];exact hl),r⟩
  ·obtain ⟨w,hw,ok⟩:=s.slot j q fl h
   exact ⟨w,by rw [set_other ne];exact hw,ok⟩
 ·rcases get_set_some h1 with ⟨_,e,_⟩|⟨n1,h1⟩
  ·cases e
  rcases get_set_some h2 with ⟨_,e,_⟩|⟨n2,h2⟩
  ·cases e
  rw [set_other n1] at h3;rw [set_other n2] at h4;exact s.inj j k q q' a ne h1 h2 h3 h4
theorem SR.setO {U O:AS}{H:Hp}{σ:St}{ρ:PEnv}{i:Nat}{p:PV}{a:Addr}(s:SR U O H σ ρ) (no:¬O a) (nu:¬U a) (nb:∀(j:Nat) (q:PV),ρ[j]?=some (some (q,.bor))→σ[j]?≠some (some (.ref a))) (tp:Top U H p a):SR U (fun b=>O b∨b=a) H (σ.set i (some (.ref a))) (ρ.set i (some (p,.own))):=by
 have mu:Mutb H a:=by
  cases p with
  | lst ps=>obtain ⟨xs,r,_⟩:=tp;exact ⟨_,r,fun _ z=>nomatch z⟩
  | dct ks=>obtain ⟨xs,r,_⟩:=tp;exact ⟨_,r,fun _ z=>nomatch z⟩
  | dtt ks=>obtain ⟨xs,r,_⟩:=tp;exact ⟨_,r,fun _ z=>nomatch z⟩
  | _=>exact tp.elim
 have hold:∀(j:Nat) (q:PV),ρ[j]?=some (some (q,.own))→σ[j]?≠some (some (.ref a)):=fun j q h z=>by
  obtain ⟨w,hw,b,rfl,ob,_⟩:=s.slot j q .own h;rw [hw] at z;cases z;exact no ob
 refine ⟨by simp [s.len],s.dU,fun b h=>?_,fun b u h=>?_,fun j q fl h=>?_,fun j k q q' b ne h1 h2 h3 h4=>?_⟩
 ·rcases h with h|rfl
  ·exact s.dO b h
  ·exact mu
 ·rcases h with h|rfl
  ·exact s.dis b u h
  ·exact nu u
 ·rcases get_set_some h with ⟨rfl,e,hl⟩|⟨ne,h⟩
  ·cases e
   exact ⟨.ref a,set_same (by rw [s.len];exact hl),a,rfl,.inr rfl,tp⟩
  ·obtain ⟨w,hw,ok⟩:=s.slot j q fl h
   refine ⟨w,by rw [set_other ne];exact hw,?_⟩;cases fl with
   | shr=>exact ok
   | own=>obtain ⟨b,e1,e2,e3⟩:=ok;exact ⟨b,e1,.inl e2,e3⟩
   | bor =>
    refine ⟨ok.1,fun b e z=>?_,ok.2.2⟩;subst e;rcases z with z|rfl
    ·exact ok.2.1 b rfl z
    ·exact nb j q h hw
 ·rcases get_set_some h1 with ⟨rfl,e,hl⟩|⟨n1,h1⟩
  ·cases e
   rcases get_set_some h2 with ⟨e,_,_⟩|⟨n2,h2⟩
   ·exact ne e
   rw [set_same (by rw [s.len];exact hl)] at h3;cases h3;rw [set_other n2] at h4;exact hold k q' h2 h4
  ·rw [set_other n1] at h3
   rcases get_set_some h2 with ⟨rfl,e,hl⟩|⟨n2,h2⟩
   ·cases e
    rw [set_same (by rw [s.len];exact hl)] at h4;cases h4;exact hold j q h1 h3
   ·rw [set_other n2] at h4
    exact s.inj j k q q' b ne h1 h2 h3 h4
theorem vs_setS {i:Nat}{te:TE}{f:PEnv→Option PV}(h:VE .shr te f):VS (tAsg te (gName i)) (vSetS i f):=by
 intro U O H σ ρ D o s e q;obtain ⟨p,hp,rfl⟩:=Zb.mp e;exact h U O H σ ρ _ p s hp fun v H' U' ex r=>q U' O H' _ ((s.ext ex).setS r) ex.tr
theorem own_tr {U O:AS}{H:Hp}{a:Addr}(d:∀a,U a→H a≠none) {U':AS}{H':Hp}(ex:Ext U H U' H') (ha:H a=none):Tr U O H U' (fun b=>O b∨b=a) H' :=
 have t:=ex.tr (O:=O)
 ⟨t.fr,t.mono,t.new,fun b h=>h.elim .inl fun e=>.inr (by rw [e];exact ha),t.dU,t.dm⟩
theorem SR.noO {U O:AS}{H:Hp}{σ:St}{ρ:PEnv}(s:SR U O H σ ρ) {a:Addr}(ha:H a=none):¬O a:=fun z=>by
 obtain ⟨u,h1,_⟩:=s.dO a z;rw [ha] at h1;cases h1
theorem SR.noB {U O:AS}{H:Hp}{σ:St}{ρ:PEnv}(s:SR U O H σ ρ) {a:Addr}(ha:H a=none) (j:Nat) (q:PV) (h:ρ[j]?=some (some (q,.bor))):σ[j]?≠some (some (.ref a)):=fun z=>by
 obtain ⟨v,hv,ok⟩:=s.slot j q .bor h;rw [hv] at z;cases z;exact ok.1.dom ok.2.2 ha
theorem vs_setO {i:Nat}{te:TE}{f:PEnv→Option PV}(h:VE .fr te f):VS (tAsg te (gName i)) (vSetO i f):=by
 intro U O H σ ρ D o s e q;obtain ⟨p,hp,rfl⟩:=Zb.mp e;refine h U O H σ ρ _ p s hp fun v H' U' ex ⟨a,ea,ha,hu,tp⟩=>?_;subst ea;exact q U' _ H' _ ((s.ext ex).setO (s.noO ha) hu (s.noB ha) tp) (own_tr s.dU ex ha)
theorem Bor.keepsB {U U':AS}{H H':Hp}{p:PV}{v:V}(k:Keeps U H U' H') (h:Bor U H p v) (s:∀b,v=.ref b→∀o,H b=some o→H' b=some o):Bor U' H' p v:=by
 have rd:∀{a u},v=.ref a→Rd H a u→Rd H' a u:=fun {a u} e r=>by
  rcases r with r|⟨o,r⟩
  ·exact .inl (s a e _ r)
  ·exact .inr ⟨o,s a e _ r⟩
 cases p with
 | lst ps=>obtain ⟨a,xs,e,r,q⟩:=h;exact ⟨a,xs,e,s a e _ r,Reps.keeps k _ _ q⟩
 | dct ks=>obtain ⟨a,xs,e,r,q⟩:=h;exact ⟨a,xs,e,rd e r,RepK.keeps k _ _ q⟩
 | dtt ks=>obtain ⟨a,xs,e,r,q⟩:=h;exact ⟨a,xs,e,s a e _ r,RepT.keeps k _ _ q⟩
 | scr ns=>obtain ⟨a,e,r⟩:=h;exact ⟨a,e,rd e r⟩
 | _=>exact Rep.keeps k _ _ h
theorem SR.write {U O:AS}{H:Hp}{σ:St}{ρ:PEnv}{i:Nat}{p p':PV}{a:Addr}{u:HO}(s:SR U O H σ ρ) (hp:ρ[i]?=some (some (p,.own))) (hv:σ[i]?=some (some (.ref a))) (hu:∀xs,u≠.tup xs) (tp:Top U (upd H a u) p' a) :
  SR U O (upd H a u) σ (ρ.set i (some (p',.own)))∧Tr U O H U O (upd H a u)∧Keeps U H U (upd H a u):=by
 obtain ⟨v,hv',a',rfl,oa,tp0⟩:=s.slot i p .own hp;rw [hv] at hv';cases hv';have nu:∀b,U b→b≠a:=fun b hb e=>s.dis b hb (by rw [e];exact oa);have dm:∀b,H b≠none→upd H a u b≠none:=fun b h=>by
  by_cases e:b=a
  ·subst e;rw [upd_same];intro z;cases z
  ·rw [upd_ne e];exact h
 have tr:Tr U O H U O (upd H a u):=⟨fun b o h n=>by rw [upd_ne (show b≠a from fun e=>n (by rw [e];exact oa))];exact h,fun _ h=>h,fun _ h=>.inl h,fun _ h=>.inl h,fun b h=>dm b (s.dU b h),dm⟩
 have k:Keeps U H U (upd H a u):=tr.keeps s.dis s.dO;refine ⟨⟨by simp [s.len],fun b h=>dm b (s.dU b h),fun b h=>?_,s.dis,fun j q fl h=>?_,fun j l q q' b ne h1 h2 h3 h4=>?_⟩,tr,k⟩
 ·by_cases e:b=a
  ·subst e;exact ⟨u,upd_same,hu⟩
  ·obtain ⟨o,h1,h2⟩:=s.dO b h
   exact ⟨o,by rw [upd_ne e];exact h1,h2⟩
 ·rcases get_set_some h with ⟨rfl,e,hl⟩|⟨ne,h⟩
  ·cases e
   exact ⟨_,hv,a,rfl,oa,tp⟩
  ·obtain ⟨w,hw,ok⟩:=s.slot j q fl h
   refine ⟨w,hw,?_⟩;cases fl with
   | shr=>exact Rep.keeps k _ _ ok
   | own =>
    obtain ⟨b,e1,e2,e3⟩:=ok;refine ⟨b,e1,e2,e3.keeps k fun o h'=>?_⟩;subst e1;rw [upd_ne (show b≠a from fun z=>?_)];exact h';subst z;exact s.inj i j p q b ne hp h hv hw
   | bor =>
    refine ⟨Bor.keepsB k ok.1 fun b e o h'=>?_,ok.2⟩;rw [upd_ne (show b≠a from fun z=>ok.2.1 b e (by rw [z];exact oa))];exact h'
 ·have h1':∃r,ρ[j]?=some (some (r,.own)):=by
   rcases get_set_some h1 with ⟨rfl,e,hl⟩|⟨n1,h1⟩
   ·exact ⟨p,hp⟩
   ·exact ⟨q,h1⟩
  have h2':∃r,ρ[l]?=some (some (r,.own)):=by
   rcases get_set_some h2 with ⟨rfl,e,hl⟩|⟨n1,h2⟩
   ·exact ⟨p,hp⟩
   ·exact ⟨q',h2⟩
  obtain ⟨r1,e1⟩:=h1';obtain ⟨r2,e2⟩:=h2';exact s.inj j l r1 r2 b ne e1 e2 h3 h4
abbrev VX:=PEnv→Option PV
abbrev VB:=PEnv→Option Bool
abbrev VL:=PEnv→Option (List PV)
theorem repI (U:AS) (H:Hp) (i:Int):Rep U H (.int i) (.int i):=rep_int.mpr rfl
theorem repB (U:AS) (H:Hp) (i:Bool):Rep U H (.bl i) (.bl i):=rep_bl.mpr rfl
theorem repX (U:AS) (H:Hp) (i:Str):Rep U H (.str i) (.str i):=rep_str.mpr rfl
theorem repN (U:AS) (H:Hp):Rep U H .non .non:=rep_non.mpr rfl
def xVar (i:Nat):VX:=fun ρ=>match ρ[i]? with
 | some (some (p,_))=>some p
 | _=>none
def xVarS (i:Nat):VX:=fun ρ=>match ρ[i]? with
 | some (some (p,.shr))=>some p
 | _=>none
def xC (p:PV):VX:=fun _=>some p
def x1 (g:PV→Option PV) (f:VX):VX:=fun ρ=>(f ρ).bind g
def x2 (g:PV→PV→Option PV) (f h:VX):VX:=fun ρ=>(f ρ).bind fun p=>(h ρ).bind fun q=>g p q
def xL (g:List PV→Option PV) (f:VL):VX:=fun ρ=>(f ρ).bind g
def lNil:VL:=fun _=>some []
def lCons (f:VX) (r:VL):VL:=fun ρ=>(f ρ).bind fun p=>(r ρ).bind fun ps=>some (p::ps)
theorem ve_var {i:Nat}:VE .bor (tVar i) (xVar i):=by
 intro U O H σ ρ Q p s e k;unfold xVar at e;split at e
 ·rename_i q fl hq
  cases e;obtain ⟨v,hv,ok⟩:=s.slot i p fl hq;refine ⟨v,hv,k v H U (.refl s.dU) ?_⟩;cases fl with
  | shr=>exact Rep.bor ok
  | own=>obtain ⟨a,rfl,_,tp⟩:=ok;exact tp.bor
  | bor=>exact ok.1
 ·cases e
theorem ve_varS {i:Nat}:VE .shr (tVar i) (xVarS i):=by
 intro U O H σ ρ Q p s e k;unfold xVarS at e;split at e
 ·rename_i q hq
  cases e;obtain ⟨v,hv,ok⟩:=s.slot i p .shr hq;exact ⟨v,hv,k v H U (.refl s.dU) ok⟩
 ·cases e
theorem ve_int {i:Int}:VE .shr (tC (.int i)) (xC (.int i)):=fun U O H σ ρ Q p s e k=>by cases e;exact k _ H U (.refl s.dU) (repI U H _)
theorem ve_bl {i:Bool}:VE .shr (tC (.bl i)) (xC (.bl i)):=fun U O H σ ρ Q p s e k=>by cases e;exact k _ H U (.refl s.dU) (repB U H _)
theorem ve_str {i:Str}:VE .shr (tC (.str i)) (xC (.str i)):=fun U O H σ ρ Q p s e k=>by cases e;exact k _ H U (.refl s.dU) (repX U H _)
def R2V (m:Md) (r:R2) (g:PV→PV→Option PV):Prop:=∀(U:AS) (H:Hp) (p q z:PV) (v w:V) (Q:VK),(∀a,U a→H a≠none)→Bor U H p v→Bor U H q w→g p q=some z →
 (∀u H' U',Ext U H U' H'→Res m H U' H' z u→Q u H')→r v w H Q
def R1V (m:Md) (r:V→Hp→VK→Prop) (g:PV→Option PV):Prop:=∀(U:AS) (H:Hp) (p z:PV) (v:V) (Q:VK),(∀a,U a→H a≠none)→Bor U H p v→g p=some z →
 (∀u H' U',Ext U H U' H'→Res m H U' H' z u→Q u H')→r v H Q
def RLV (m:Md) (r:List V→Hp→VK→Prop) (g:List PV→Option PV):Prop:=∀(U:AS) (H:Hp) (ps:List PV) (z:PV) (vs:List V) (Q:VK),(∀a,U a→H a≠none)→Bors U H ps vs→g ps=some z →
 (∀u H' U',Ext U H U' H'→Res m H U' H' z u→Q u H')→r vs H Q
theorem Res.pre {m:Md}{U1 U':AS}{H H1 H':Hp}{p:PV}{v:V}(s:Same H H1) (r:Res m H1 U' H' p v):Res m H U' H' p v:=by
 cases m with
 | shr=>exact r
 | bor=>exact r
 | fr =>
  obtain ⟨a,e,ha,h2⟩:=r;refine ⟨a,e,?_,h2⟩;cases q:H a with
  | none=>rfl
  | some o=>rw [s a o q] at ha;cases ha
theorem ve_op {m ma mb:Md}{r:R2}{ta tb:TE}{fa fb:VX}{g:PV→PV→Option PV}(hr:R2V m r g) (ha:VE ma ta fa) (hb:VE mb tb fb):VE m (tOp r ta tb) (x2 g fa fb):=by
 intro U O H σ ρ Q z s e k;unfold x2 at e;obtain ⟨p,hp,e⟩:=Za.mp e;obtain ⟨q,hq,e⟩:=Za.mp e;refine ha.bor U O H σ ρ _ p s hp fun v H1 U1 ex1 r1=>?_;refine hb.bor U1 O H1 σ ρ _ q (s.ext ex1) hq fun w H2 U2 ex2 r2=>?_;exact hr U2 H2 p q z v w Q ex2.dU (Bor.keeps ex2.keeps ex2.same r1) r2 e fun u H3 U3 ex3 r3=>k u H3 U3 (ex1.trans (ex2.trans ex3)) (Res.pre (U1:=U2) (ex1.trans ex2).same r3)
theorem ve_un {m ma:Md}{r:V→Hp→VK→Prop}{ta:TE}{fa:VX}{g:PV→Option PV}(hr:R1V m r g) (ha:VE ma ta fa):VE m (tUn r ta) (x1 g fa):=by
 intro U O H σ ρ Q z s e k;unfold x1 at e;obtain ⟨p,hp,e⟩:=Za.mp e;refine ha.bor U O H σ ρ _ p s hp fun v H1 U1 ex1 r1=>?_;exact hr U1 H1 p z v Q ex1.dU r1 e fun u H3 U3 ex3 r3=>k u H3 U3 (ex1.trans ex3) (Res.pre (U1:=U1) ex1.same r3)
theorem va_nil {b:Bool}:VA b tNil lNil:=by
 intro U O H σ ρ Q ps s e k;cases e;refine k [] H U (.refl s.dU) ?_;cases b with
 | true=>exact Bors.nil
 | false=>exact (reps_nil (U:=U) (H:=H)).mpr rfl
theorem va_consB {ma:Md}{te:TE}{t:TA}{f:VX}{g:VL}(h:VE ma te f) (r:VA true t g):VA true (tCons te t) (lCons f g):=by
 intro U O H σ ρ Q ps s e k;unfold lCons at e;obtain ⟨p,hp,e⟩:=Za.mp e;obtain ⟨qs,hq,e⟩:=Za.mp e;cases e;refine h.bor U O H σ ρ _ p s hp fun v H1 U1 ex1 r1=>?_;refine r U1 O H1 σ ρ _ qs (s.ext ex1) hq fun vs H2 U2 ex2 r2=>?_;exact k (v::vs) H2 U2 (ex1.trans ex2) (.cons (Bor.keeps ex2.keeps ex2.same r1) r2)
theorem va_consS {te:TE}{t:TA}{f:VX}{g:VL}(h:VE .shr te f) (r:VA false t g):VA false (tCons te t) (lCons f g):=by
 intro U O H σ ρ Q ps s e k;unfold lCons at e;obtain ⟨p,hp,e⟩:=Za.mp e;obtain ⟨qs,hq,e⟩:=Za.mp e;cases e;refine h U O H σ ρ _ p s hp fun v H1 U1 ex1 r1=>?_;refine r U1 O H1 σ ρ _ qs (s.ext ex1) hq fun vs H2 U2 ex2 r2=>?_;exact k (v::vs) H2 U2 (ex1.trans ex2) (reps_cons.mpr ⟨v,vs,rfl,Rep.keeps ex2.keeps _ _ r1,r2⟩)
def ofConst:V→Option PV
 | .int i=>some (.int i) | .str x=>some (.str x) | .bl b=>some (.bl b) | .non=>some .non|_=>none
theorem rep_const {U:AS}{H:Hp}{v:V}{p:PV}(h:ofConst v=some p):Rep U H p v:=by
 cases v<;>simp [ofConst] at h<;>subst h
 ·exact rep_non.mpr rfl
 ·exact rep_bl.mpr rfl
 ·exact rep_int.mpr rfl
 ·exact rep_str.mpr rfl
inductive Consts:List V→List PV→Prop
 | nil:Consts [] []
 | cons {v:V}{p:PV}{vs:List V}{ps:List PV}:ofConst v=some p→Consts vs ps→Consts (v::vs) (p::ps)
theorem Consts.reps {U:AS}{H:Hp}:∀{vs:List V}{ps:List PV},Consts vs ps→Reps U H ps vs
 | _,_,.nil=>reps_nil.mpr rfl
 | _,_,.cons a b=>reps_cons.mpr ⟨_,_,rfl,rep_const a,b.reps⟩
theorem va_ks {vs:List V}{ps:List PV}(h:Consts vs ps):VA false (tKs vs) (fun _=>some ps):=by
 intro U O H σ ρ Q qs s e k;cases e;exact k vs H U (.refl s.dU) h.reps
def small? (n:Nat):Bool:=decide (n≤1000000)
theorem small_le {n:Nat}(h:small? n=true):n≤sizeLine:=Nat.le_trans (of_decide_eq_true h) (by decide)
theorem small_lt {n:Nat}(h:small? n=true):n < sizeLine:=Nat.lt_of_le_of_lt (of_decide_eq_true h) (by decide)
def mkLst (ps:List PV):Option PV:=if small? ps.length then some (.lst ps) else none
def mkTup (ps:List PV):Option PV:=if small? ps.length then some (.tup ps) else none
theorem some_if {α:Type}{c:Bool}{x y:α}(h:(if c=true then some x else none)=some y):c=true∧x=y:=by
 cases c with
 | true=>exact ⟨rfl,by simpa using h⟩
 | false=>cases h
theorem nU {U:AS}{H:Hp}(d:∀a,U a→H a≠none) {a:Addr}(h:H a=none):¬U a:=fun u=>d a u h
theorem new_lst {U:AS}{H:Hp}{ps:List PV}{xs:List V}{a:Addr}(d:∀a,U a→H a≠none) (ha:H a=none) (r:Reps U H ps xs):Ext U H U (upd H a (.lst xs))∧Res .fr H U (upd H a (.lst xs)) (.lst ps) (.ref a) :=
 ⟨.laid d ha,a,rfl,ha,nU d ha,xs,upd_same,Reps.keeps (Ext.laid d ha).keeps _ _ r⟩
theorem new_tup {U:AS}{H:Hp}{ps:List PV}{xs:List V}{a:Addr}(d:∀a,U a→H a≠none) (ha:H a=none) (r:Reps U H ps xs):Ext U H U (upd H a (.tup xs))∧Res .shr H U (upd H a (.tup xs)) (.tup ps) (.ref a) :=
 ⟨.laid d ha,rep_tup.mpr ⟨a,xs,rfl,upd_same,Reps.keeps (Ext.laid d ha).keeps _ _ r⟩⟩
theorem new_dct {U:AS}{H:Hp}{ks:List (Key×PV)}{xs:List (Key×V)}{a:Addr}(d:∀a,U a→H a≠none) (ha:H a=none) (r:RepK U H ks xs):Ext U H U (upd H a (.dK xs))∧Res .fr H U (upd H a (.dK xs)) (.dct ks) (.ref a) :=
 ⟨.laid d ha,a,rfl,ha,nU d ha,xs,upd_same,RepK.keeps (Ext.laid d ha).keeps _ _ r⟩
theorem ve_lst {t:TA}{f:VL}(h:VA false t f):VE .fr (tLst t) (xL mkLst f):=by
 intro U O H σ ρ Q z s e k;obtain ⟨ps,hp,e⟩:=Za.mp e;obtain ⟨hs,rfl⟩:=some_if e;refine h U O H σ ρ _ ps s hp fun vs H1 U1 ex1 (r1:Reps U1 H1 ps vs)=>⟨by rw [r1.length];exact small_le hs,fun a ha=>?_⟩
 obtain ⟨e2,r2⟩:=new_lst ex1.dU ha r1;exact k _ _ U1 (ex1.trans e2) (Res.pre (U1:=U1) ex1.same r2)
theorem ve_tup {t:TA}{f:VL}(h:VA false t f):VE .shr (tTup t) (xL mkTup f):=by
 intro U O H σ ρ Q z s e k;obtain ⟨ps,hp,e⟩:=Za.mp e;obtain ⟨hs,rfl⟩:=some_if e;refine h U O H σ ρ _ ps s hp fun vs H1 U1 ex1 (r1:Reps U1 H1 ps vs)=>⟨by rw [r1.length];exact small_le hs,fun a ha=>?_⟩
 obtain ⟨e2,r2⟩:=new_tup ex1.dU ha r1;exact k _ _ U1 (ex1.trans e2) r2
def isB:PV→Option Bool
 | .bl b=>some b
 | _=>none
def bOf (f:VX):VB:=fun ρ=>(f ρ).bind isB
def bAnd (f g:VB):VB:=fun ρ=>match f ρ with
 | some true=>g ρ
 | some false=>some false
 | none=>none
def bOr (f g:VB):VB:=fun ρ=>match f ρ with
 | some true=>some true
 | some false=>g ρ
 | none=>none
def bNot (f:VB):VB:=fun ρ=>(f ρ).map (!·)
def xB (f:VB):VX:=fun ρ=>(f ρ).map PV.bl
theorem isB_some {p:PV}{b:Bool}(h:isB p=some b):p=.bl b:=by cases p<;>simp [isB] at h;rw [h]
theorem bor_bl {U:AS}{H:Hp}{b:Bool}{v:V}(h:Bor U H (.bl b) v):v=.bl b:=(rep_bl (U:=U) (H:=H)).mp h
theorem bor_int {U:AS}{H:Hp}{b:Int}{v:V}(h:Bor U H (.int b) v):v=.int b:=(rep_int (U:=U) (H:=H)).mp h
theorem bor_str {U:AS}{H:Hp}{b:Str}{v:V}(h:Bor U H (.str b) v):v=.str b:=(rep_str (U:=U) (H:=H)).mp h
theorem vt_val {m:Md}{t:TE}{f:VX}(h:VE m t f):VT (tB t) (bOf f):=by
 intro U O H σ ρ Q b s e k;obtain ⟨p,hp,e⟩:=Za.mp e;have:=isB_some e;subst this;exact h.bor U O H σ ρ _ _ s hp fun v H1 U1 ex1 r1=>⟨b,bor_bl (U:=U1) (H:=H1) r1,k H1 U1 ex1⟩
theorem vt_test {m:Md}{t:TE}{f:VX}(h:VE m t f):VT (tTest t) (bOf f):=vt_val h
theorem vt_or {t u:TT}{f g:VB}(h:VT t f) (k:VT u g):VT (tOr t u) (bOr f g):=by
 intro U O H σ ρ Q b s e q;unfold bOr at e;cases z:f ρ with
 | none=>rw [z] at e;cases e
 | some c =>
  rw [z] at e;refine h U O H σ ρ _ c s z fun H1 U1 ex1=>?_;cases c with
  | false=>exact k U1 O H1 σ ρ Q b (s.ext ex1) e fun H2 U2 ex2=>q H2 U2 (ex1.trans ex2)
  | true=>cases e;exact q H1 U1 ex1
theorem vt_not {t:TT}{f:VB}(h:VT t f):VT (tNot t) (bNot f):=by
 intro U O H σ ρ Q b s e q;obtain ⟨c,hc,rfl⟩:=Zb.mp e;exact h U O H σ ρ _ c s hc q
theorem ve_and {ma mb:Md}{ta tb:TE}{f g:VX}(h:VE ma ta f) (k:VE mb tb g):VE .shr (tAndV ta tb) (xB (bAnd (bOf f) (bOf g))):=by
 intro U O H σ ρ Q z s e q;obtain ⟨b,hb,rfl⟩:=Zb.mp e;unfold bAnd at hb;cases z:bOf f ρ with
 | none=>rw [z] at hb;cases hb
 | some c =>
  rw [z] at hb;obtain ⟨p,hp,e⟩:=Za.mp z;have:=isB_some e;subst this;refine h.bor U O H σ ρ _ _ s hp fun v H1 U1 ex1 r1=>⟨c,bor_bl (U:=U1) (H:=H1) r1,?_⟩
  cases c with
  | true =>
   obtain ⟨p2,hp2,e2⟩:=Za.mp hb;have:=isB_some e2;subst this;exact k.bor U1 O H1 σ ρ Q _ (s.ext ex1) hp2 fun v2 H2 U2 ex2 r2=>q v2 H2 U2 (ex1.trans ex2) r2
  | false=>cases hb;exact q _ H1 U1 ex1 (repB U1 H1 _)
theorem ve_or {ma mb:Md}{ta tb:TE}{f g:VX}(h:VE ma ta f) (k:VE mb tb g):VE .shr (tOrV ta tb) (xB (bOr (bOf f) (bOf g))):=by
 intro U O H σ ρ Q z s e q;obtain ⟨b,hb,rfl⟩:=Zb.mp e;unfold bOr at hb;cases z:bOf f ρ with
 | none=>rw [z] at hb;cases hb
 | some c =>
  rw [z] at hb;obtain ⟨p,hp,e⟩:=Za.mp z;have:=isB_some e;subst this;refine h.bor U O H σ ρ _ _ s hp fun v H1 U1 ex1 r1=>⟨c,bor_bl (U:=U1) (H:=H1) r1,?_⟩
  cases c with
  | false =>
   obtain ⟨p2,hp2,e2⟩:=Za.mp hb;have:=isB_some e2;subst this;exact k.bor U1 O H1 σ ρ Q _ (s.ext ex1) hp2 fun v2 H2 U2 ex2 r2=>q v2 H2 U2 (ex1.trans ex2) r2
  | true=>cases hb;exact q _ H1 U1 ex1 (repB U1 H1 _)
def xIf (c:VB) (f g:VX):VX:=fun ρ=>match c ρ with
 | some true=>f ρ
 | some false=>g ρ
 | none=>none
structure Walk (U0:AS) (H0:Hp) (J:It) (xs:List PV):Prop where
 go:∀(i:Nat) (U:AS) (H:Hp),Keeps U0 H0 U H→(∀a,U a→H a≠none)→∀x,xs[i]?=some x→J.go i H∧∀v H',J.yld i H v H'→∃U',Ext U H U' H'∧Rep U' H' x v
 stop:∀(U:AS) (H:Hp),Keeps U0 H0 U H→J.stop xs.length H
def VI (wi:TI) (it:VL):Prop:=∀(U O:AS) (H:Hp) (σ:St) (ρ:PEnv) (R:It→Hp→Prop) (xs:List PV),SR U O H σ ρ→it ρ=some xs→(∀J H' U',Ext U H U' H'→Walk U' H' J xs→R J H')→wi σ H R
abbrev VTg:=PV→PEnv→Option PEnv
def VG (g:TG) (tg:VTg):Prop:=∀(U O:AS) (H:Hp) (σ:St) (ρ ρ':PEnv) (p:PV) (v:V) (K:St→Hp→Prop),SR U O H σ ρ→Rep U H p v→tg p ρ=some ρ'→(∀σ',SR U O H σ' ρ'→K σ' H)→g v σ H K
def gN (i:Nat):VTg:=fun p ρ=>some (ρ.set i (some (p,.shr)))
theorem vg_name {i:Nat}:VG (gName i) (gN i):=by
 intro U O H σ ρ ρ' p v K s r e k;cases e;exact k _ (s.setS r)
def gAll:List Nat→List PV→PEnv→Option PEnv
 | [],[],ρ=>some ρ
 | i::is,p::ps,ρ=>gAll is ps (ρ.set i (some (p,.shr)))
 | _,_,_=>none
def gT (is:List Nat):VTg:=fun p ρ=>match p with
 | .tup ps=>gAll is ps ρ
 | _=>none
def gNames:List Nat→TGs
 | []=>gNil
 | i::is=>gCons (gName i) (gNames is)
theorem vg_all {U O:AS}{H:Hp}{K:St→Hp→Prop}:∀{is:List Nat}{ps:List PV}{vs:List V}{σ:St}{ρ ρ':PEnv},SR U O H σ ρ→Reps U H ps vs→gAll is ps ρ=some ρ'→(∀σ',SR U O H σ' ρ'→K σ' H)→vs.length=is.length∧gNames is vs σ H K
 | [],[],vs,σ,ρ,ρ',s,r,e,k=>by
  cases e;have:=reps_nil.mp r;subst this;exact ⟨rfl,rfl,k _ s⟩
 | [],p::ps,vs,σ,ρ,ρ',s,r,e,k=>nomatch e
 | i::is,[],vs,σ,ρ,ρ',s,r,e,k=>nomatch e
 | i::is,p::ps,vs,σ,ρ,ρ',s,r,e,k=>by
  obtain ⟨x,q,rfl,h1,h2⟩:=reps_cons.mp r;obtain ⟨h3,h4⟩:=vg_all (K:=K) (s.setS (i:=i) h1) h2 e k;exact ⟨by simp [h3],x,q,rfl,h4⟩
theorem vg_tup {Kf:PySem.W.Frag}{is:List Nat}{n:Nat}{t:TGs}(ht:t=gNames is) (hn:n=is.length):VG (gTup Kf n t) (gT is):=by
 intro U O H σ ρ ρ' p v K s r e k;subst ht hn;unfold gT at e;split at e
 ·obtain ⟨a,xs,rfl,ha,q⟩:=rep_tup.mp r
  obtain ⟨h1,h2⟩:=vg_all s q e k;exact ⟨a,xs,rfl,SqT.of ha,h1,h2⟩
 ·cases e
def vLoop (tg:VTg) (body:VF):List PV→PEnv→Option Out
 | [],ρ=>some (.nx ρ)
 | x::xs,ρ=>match tg x ρ with
  | none=>none
  | some ρ1=>match body ρ1 with
   | some (.nx ρ')=>vLoop tg body xs ρ'
   | some (.ct ρ')=>vLoop tg body xs ρ'
   | some (.bk ρ')=>some (.nx ρ')
   | some (.rt p b)=>some (.rt p b)
   | none=>none
def vFor (it:VL) (tg:VTg) (body:VF):VF:=fun ρ=>(it ρ).bind fun xs=>vLoop tg body xs ρ
theorem drop_get {α:Type}{xs:List α}{i:Nat}{x:α}(h:xs[i]?=some x):xs.drop i=x::xs.drop (i+1):=by
 have hl:=(Zg.mp h).1;rw [List.drop_eq_getElem_cons hl];rw [Zc hl] at h;rw [Option.some.inj h]
theorem vs_for {wi:TI}{g:TG}{tb:TS}{it:VL}{tg:VTg}{body:VF}(hi:VI wi it) (hg:VG g tg) (hb:VS tb body):VS (tFor wi g tb) (vFor it tg body):=by
 intro U O H σ ρ D o s e q;obtain ⟨xs,hxs,e⟩:=Za.mp e;refine hi U O H σ ρ _ xs s hxs fun J H1 U1 ex wk=>?_;have s1:=s.ext ex;have q1:Post U1 O H1 D o:=q.pre ex.tr;refine ⟨fun i m σ' H'=>∃U' O' ρ',SR U' O' H' σ' ρ'∧Tr U1 O H1 U' O' H'∧i≤xs.length∧m=xs.length - i∧vLoop tg body (xs.drop i) ρ'=some o,⟨_,U1,O,ρ,s1,.refl s1.dU,Nat.zero_le _,rfl,by simpa using e⟩,?_⟩;rintro i m σ' H' ⟨U',O',ρ',s',tr,hi',rfl,e'⟩;have kp:Keeps U1 H1 U' H':=tr.keeps s1.dis s1.dO;cases hx:xs[i]? with
 | none =>
  have hl:xs.length≤i:=List.getElem?_eq_none_iff.mp hx;have hii:i=xs.length:=by omega
  subst hii;rw [List.drop_length] at e';unfold vLoop at e';cases e';exact .inl ⟨wk.stop U' H' kp,q1 U' O' H' σ' s' tr⟩
 | some x =>
  have hl:=(Zg.mp hx).1;obtain ⟨hgo,hy⟩:=wk.go i U' H' kp s'.dU x hx;rw [drop_get hx] at e';refine .inr ⟨hgo,fun σ2 H2=>∃m',m' < xs.length - i∧∃U' O' ρ',SR U' O' H2 σ2 ρ'∧Tr U1 O H1 U' O' H2∧i+1≤xs.length∧m'=xs.length - (i+1)∧vLoop tg body (xs.drop (i+1)) ρ'=some o,fun σ2 H2 h=>h,fun v H2 yl=>?_⟩;obtain ⟨U2,ex2,rp⟩:=hy v H2 yl;unfold vLoop at e';cases z:tg x ρ' with
  | none=>rw [z] at e';cases e'
  | some ρ1 =>
   rw [z] at e';refine hg U2 O' H2 σ' ρ' ρ1 x v _ (s'.ext ex2) rp z fun σ3 s3=>?_;have tr3:=tr.trans (ex2.tr (O:=O'));cases zb:body ρ1 with
   | none=>simp only [zb] at e';cases e'
   | some ob =>
    simp only [zb] at e';refine hb U2 O' H2 σ3 ρ1 _ ob s3 zb ?_;cases ob with
    | nx ρ4=>exact fun U4 O4 H4 σ4 s4 t4=>⟨_,by omega,U4,O4,ρ4,s4,tr3.trans t4,hl,rfl,e'⟩
    | ct ρ4=>exact fun U4 O4 H4 σ4 s4 t4=>⟨_,by omega,U4,O4,ρ4,s4,tr3.trans t4,hl,rfl,e'⟩
    | bk ρ4=>cases e';exact q1.pre tr3
    | rt p b=>cases e';exact q1.pre tr3
def demote:PV×Fl→PV×Fl
 | (p,.own)=>(p,.bor)
 | q=>q
def startR (src:List (Option Nat)) (ρ:PEnv):PEnv:=src.map fun o=>match o with
 | some j=>((ρ[j]?).join).map demote
 | none=>none
def vCompL (tg:VTg) (cond:VB) (elt:VX):List PV→PEnv→Option (List PV)
 | [],_=>some []
 | x::xs,ρ=>match tg x ρ with
  | none=>none
  | some ρ1=>match cond ρ1 with
   | none=>none
   | some false=>vCompL tg cond elt xs ρ1
   | some true=>match elt ρ1 with
    | none=>none
    | some y=>(vCompL tg cond elt xs ρ1).map (y::·)
def xComp (src:List (Option Nat)) (it:VL) (tg:VTg) (cond:VB) (elt:VX):VX:=fun ρ=>(it ρ).bind fun xs=>if small? xs.length then (vCompL tg cond elt xs (startR src ρ)).map PV.lst else none
def bTrue:VB:=fun _=>some true
theorem vt_all:VT tAll bTrue:=by
 intro U O H σ ρ Q b s e k;cases e;exact k H U (.refl s.dU)
theorem SR.comp {U O:AS}{H:Hp}{σ:St}{ρ:PEnv}(s:SR U O H σ ρ) (src:List (Option Nat)):SR U (fun _=>False) H (startC src σ) (startR src ρ):=by
 refine ⟨by simp [startC,startR],s.dU,fun a h=>h.elim,fun a _ h=>h,fun i p fl h=>?_,fun i j p q a ne h1 h2 h3 h4=>?_⟩
 ·unfold startR at h
  rw [Zj] at h;cases hs:src[i]? with
  | none=>rw [hs] at h;cases h
  | some o =>
   rw [hs] at h;cases o with
   | none=>simp at h
   | some j =>
    simp only [Option.map_some,Option.some.injEq] at h;obtain ⟨⟨p0,fl0⟩,hj,hd⟩:=Zb.mp h;have hj':ρ[j]?=some (some (p0,fl0)):=by
     cases q:ρ[j]? with
     | none=>rw [q] at hj;cases hj
     | some z=>rw [q] at hj;simp at hj;rw [hj]
    obtain ⟨v,hv,ok⟩:=s.slot j p0 fl0 hj';refine ⟨v,?_,?_⟩
    ·unfold startC
     rw [Zj,hs];simp [hv]
    ·cases fl0 with
     | shr=>cases hd;exact ok
     | own=>cases hd;obtain ⟨a,rfl,_,tp⟩:=ok;exact ⟨tp.bor,fun _ _ h=>h,tp.notAdr⟩
     | bor=>cases hd;exact ⟨ok.1,fun _ _ h=>h,ok.2.2⟩
 ·obtain ⟨_,_,ok⟩:∃fl,∃_:fl=Fl.own,True:=⟨.own,rfl,trivial⟩
  have no:∀(i:Nat) (p:PV),(startR src ρ)[i]?≠some (some (p,.own)):=fun i p h=>by
   unfold startR at h;rw [Zj] at h;cases hs:src[i]? with
   | none=>rw [hs] at h;cases h
   | some o =>
    rw [hs] at h;cases o with
    | none=>simp at h
    | some j =>
     simp only [Option.map_some,Option.some.injEq] at h;obtain ⟨⟨p0,fl0⟩,hj,hd⟩:=Zb.mp h;cases fl0<;>cases hd
  exact no i p h1
theorem ve_comp {src:List (Option Nat)}{wi:TI}{g:TG}{tif:TT}{te:TE}{it:VL}{tg:VTg}{cond:VB}{elt:VX}(hi:VI wi it) (hg:VG g tg) (hc:VT tif cond) (he:VE .shr te elt):VE .fr (tComp src wi g tif te) (xComp src it tg cond elt):=by
 intro U O H σ ρ Q z s e k;obtain ⟨xs,hxs,e⟩:=Za.mp e;by_cases hs:small? xs.length=true
 case neg=>rw [if_neg hs] at e;cases e
 rw [if_pos hs] at e;obtain ⟨zs,e,rfl⟩:=Zb.mp e;refine hi U O H σ ρ _ xs s hxs fun J H1 U1 ex wk=>?_;have s1:=s.ext ex;have sz:∀n,n≤xs.length→n≤sizeLine:=fun n h=>Nat.le_trans h (small_le hs);refine ⟨fun i m ys τ H'=>∃U' ρ' ps,SR U' (fun _=>False) H' τ ρ'∧Ext U1 H1 U' H'∧i≤xs.length∧m=xs.length - i∧ys.length≤i∧Reps U' H' ps ys∧(vCompL tg cond elt (xs.drop i) ρ').map (ps++·)=some zs,
  ⟨_,U1,startR src ρ,[],s1.comp src,.refl s1.dU,Nat.zero_le _,rfl,Nat.le_refl _,reps_nil.mpr rfl,by simpa using e⟩,?_⟩
 rintro i m ys τ H' ⟨U',ρ',ps,s',ex',hi',rfl,hy,rp,e'⟩;have kp:=ex'.keeps;cases hx:xs[i]? with
 | none =>
  have hl:xs.length≤i:=List.getElem?_eq_none_iff.mp hx;have hii:i=xs.length:=by omega
  subst hii;rw [List.drop_length] at e';unfold vCompL at e';simp at e';subst e';refine .inl ⟨wk.stop U' H' kp,sz _ hy,fun D hD=>?_⟩;obtain ⟨e2,r2⟩:=new_lst ex'.dU hD rp;exact k _ _ U' (ex.trans (ex'.trans e2)) (Res.pre (U1:=U1) (ex.trans ex').same r2)
 | some x =>
  have hl:=(Zg.mp hx).1;obtain ⟨hgo,hyl⟩:=wk.go i U' H' kp s'.dU x hx;rw [drop_get hx] at e';refine .inr ⟨hgo,Nat.lt_of_le_of_lt hy (Nat.lt_of_lt_of_le hl (small_le hs)),fun v H2 yl=>?_⟩;obtain ⟨U2,ex2,rv⟩:=hyl v H2 yl;unfold vCompL at e';cases z1:tg x ρ' with
  | none=>rw [z1] at e';cases e'
  | some ρ1 =>
   rw [z1] at e';refine hg U2 _ H2 τ ρ' ρ1 x v _ (s'.ext ex2) rv z1 fun τ3 s3=>?_;cases z2:cond ρ1 with
   | none=>simp only [z2] at e';cases e'
   | some b =>
    simp only [z2] at e';refine hc U2 _ H2 τ3 ρ1 _ b s3 z2 fun H4 U4 ex4=>?_;have ex24:=ex2.trans ex4;cases b with
    | false=>exact ⟨_,by omega,U4,ρ1,ps,s3.ext ex4,ex'.trans ex24,hl,rfl,by omega,Reps.keeps ex24.keeps _ _ rp,e'⟩
    | true =>
     cases z3:elt ρ1 with
     | none=>simp only [z3] at e';cases e'
     | some y =>
      simp only [z3] at e';refine he U4 _ H4 τ3 ρ1 _ y (s3.ext ex4) z3 fun w H5 U5 ex5 r5=>?_;refine ⟨_,by omega,U5,ρ1,ps++[y],(s3.ext ex4).ext ex5,(ex'.trans ex24).trans ex5,hl,rfl,by simp;omega,Reps.append (Reps.keeps (ex24.trans ex5).keeps _ _ rp) (Reps.one r5),?_⟩;rw [Option.map_map] at e';rw [←e'];congr 1;funext l;simp
mutual
def cf:PV→Bool
 | .non=>true
 | .bl _=>true
 | .int _=>true
 | .str _=>true
 | .tup ps=>cfs ps
 | _=>false
def cfs:List PV→Bool
 | []=>true
 | p::ps=>cf p&&cfs ps
end
mutual
theorem Rep.cf {U U':AS}{H:Hp}:∀(p:PV) (v:V),cf p=true→Rep U H p v→Rep U' H p v
 | .non,v,_,h=>rep_non.mpr (rep_non.mp h)
 | .bl b,v,_,h=>rep_bl.mpr (rep_bl.mp h)
 | .int i,v,_,h=>rep_int.mpr (rep_int.mp h)
 | .str x,v,_,h=>rep_str.mpr (rep_str.mp h)
 | .tup ps,v,c,h=>by
  obtain ⟨a,xs,e,r,q⟩:=rep_tup.mp h;exact rep_tup.mpr ⟨a,xs,e,r,Reps.cfs ps xs (by simpa [L2.cf] using c) q⟩
 | .scr ns,v,c,_=>by simp [L2.cf] at c
 | .adr ns,v,c,_=>by simp [L2.cf] at c
 | .lst ps,v,c,_=>by simp [L2.cf] at c
 | .dct ps,v,c,_=>by simp [L2.cf] at c
 | .obj _ _ _,v,c,_=>by simp [L2.cf] at c
 | .dtt ps,v,c,_=>by simp [L2.cf] at c
theorem Reps.cfs {U U':AS}{H:Hp}:∀(ps:List PV) (xs:List V),cfs ps=true→Reps U H ps xs→Reps U' H ps xs
 | [],xs,_,h=>reps_nil.mpr (reps_nil.mp h)
 | p::ps,xs,c,h=>by
  obtain ⟨x,r,e,h1,h2⟩:=reps_cons.mp h;simp only [L2.cfs,Zc1] at c;exact reps_cons.mpr ⟨x,r,e,Rep.cf p x c.1 h1,Reps.cfs ps r c.2 h2⟩
end
def spV (fr:Bool) (f:List PV→Option PV):Sp:=fun vs H Q _=>∃U ps p,(∀a,U a→H a≠none)∧Reps U H ps vs∧f ps=some p∧∀v H' U',Ext U H U' H'→Res (if fr=true then .fr else .shr) H U' H' p v→Q v H'
def initR (n:Nat) (ps:List PV):PEnv:=ps.map (fun p=>some (p,Fl.shr))++List.replicate (n - ps.length) none
def fnM (k n:Nat) (fr:Bool) (F:VF) (ps:List PV):Option PV:=if ps.length=k then (match F (initR n ps) with
 | some (.rt p b)=>if (fr&&!b)=true then none else some p
 | some (.nx _)=>if fr=true then none else some .non
 | _=>none) else none
theorem init_slot {n:Nat}{ps:List PV}{i:Nat}{p:PV}{fl:Fl}(h:(initR n ps)[i]?=some (some (p,fl))):fl=.shr∧ps[i]?=some p:=by
 unfold initR at h;by_cases hl:i < ps.length
 ·rw [Za1 (by simpa using hl),Zj] at h
  obtain ⟨q,hq,e⟩:=Zb.mp h;cases e;exact ⟨rfl,hq⟩
 ·rw [List.getElem?_append_right (by simp;omega)] at h
  rw [List.getElem?_replicate] at h;split at h
  ·cases h
  ·cases h
theorem SR.init {U:AS}{H:Hp}{N:List Str}{ps:List PV}{vs:List V}(d:∀a,U a→H a≠none) (r:Reps U H ps vs):SR U (fun _=>False) H (start N vs) (initR N.length ps):=by
 refine ⟨?_,d,fun a h=>h.elim,fun _ _ h=>h,fun i p fl h=>?_,fun i j p q a ne h1 h2 h3 h4=>?_⟩
 ·unfold start initR
  simp [r.length]
 ·obtain ⟨rfl,hp⟩:=init_slot h
  obtain ⟨v,hv,rv⟩:=r.get hp;refine ⟨v,?_,rv⟩;unfold start;rw [Za1 (by simpa using (Zg.mp hv).1),Zj,hv];rfl
 ·exact nomatch (init_slot h1).1
theorem fnV {t:TS}{F:VF}{fr:Bool}{N:List Str}{k:Nat}{vs:List V}{H:Hp}{Q:VK}{E:XK}(h:VS t F) (hsp:spV fr (fnM k N.length fr F) vs H Q E):t { nx:=fun _ H'=>Q .non H',rt:=Q } (start N vs) H:=by
 obtain ⟨U,ps,p,d,r,e,k⟩:=hsp;unfold fnM at e;split at e
 case isFalse=>cases e
 have s:=SR.init (N:=N) d r;have toE:∀{U' O':AS}{H':Hp},Tr U (fun _=>False) H U' O' H'→Ext U H U' H':=fun {U' O' H'} t=>⟨fun a o h=>t.fr a o h fun z=>z,t.mono,fun a h=>(t.new a h).elim .inl fun z=>z.elim (fun z=>z.elim) .inr,t.dU⟩
 cases z:F (initR N.length ps) with
 | none=>rw [z] at e;cases e
 | some o =>
  rw [z] at e;refine h U _ H _ _ _ o s z ?_;cases o with
  | bk ρ=>cases e
  | ct ρ=>cases e
  | nx ρ =>
   cases fr with
   | true=>cases e
   | false =>
    cases e;exact fun U' O' H' σ' s' t'=>k .non H' U' (toE t') (repN U' H')
  | rt q b =>
   cases fr with
   | true =>
    cases b with
    | false=>cases e
    | true =>
     cases e;refine fun U' O' H' v t' ro=>k v H' U' (toE t') ?_;obtain ⟨a,ea,nu,ha,tp⟩:=ro;exact ⟨a,ea,ha.elim (fun z=>z) fun z=>z.elim,nu,tp⟩
   | false =>
    cases b with
    | false=>cases e;exact fun U' O' H' v t' ro=>k v H' U' (toE t') ro
    | true =>
     cases e;refine fun U' O' H' v t' ro=>?_;obtain ⟨a,rfl,nu,ha,tp⟩:=ro;have ha':H a=none:=ha.elim (fun z=>z) fun z=>z.elim;have hne:H' a≠none:=Bor.dom tp.bor tp.notAdr;exact k (.ref a) H' _ ((toE t').share ha' hne) ((tp.keeps Keeps.share fun o h=>h).rep (.inr rfl))
theorem spV_len {fr:Bool}{k n:Nat}{F:VF}{ps:List Str}(hk:ps.length=k):∀vs H Q E,spV fr (fnM k n fr F) vs H Q E→vs.length=ps.length:=by
 rintro vs H Q E ⟨U,qs,p,d,r,e,_⟩;unfold fnM at e;split at e
 ·rename_i h;rw [r.length,h,hk]
 ·cases e
theorem ve_callS {f:List PV→Option PV}{t:TA}{fa:VL}{E:XK}(h:VA false t fa):VE .shr (tCall (spV false f) [] E t) (xL f fa):=by
 intro U O H σ ρ Q z s e k;obtain ⟨ps,hp,e⟩:=Za.mp e;refine h U O H σ ρ _ ps s hp fun vs H1 U1 ex1 r1=>?_;rw [List.append_nil];exact ⟨U1,ps,z,ex1.dU,r1,e,fun v H2 U2 ex2 r2=>k v H2 U2 (ex1.trans ex2) r2⟩
theorem ve_callF {f:List PV→Option PV}{t:TA}{fa:VL}{E:XK}(h:VA false t fa):VE .fr (tCall (spV true f) [] E t) (xL f fa):=by
 intro U O H σ ρ Q z s e k;obtain ⟨ps,hp,e⟩:=Za.mp e;refine h U O H σ ρ _ ps s hp fun vs H1 U1 ex1 r1=>?_;rw [List.append_nil];exact ⟨U1,ps,z,ex1.dU,r1,e,fun v H2 U2 ex2 r2=>k v H2 U2 (ex1.trans ex2) (Res.pre (m:=.fr) (U1:=U1) ex1.same r2)⟩
theorem Bor.dm {U:AS}{H:Hp}(d:∀a,U a→H a≠none) {p:PV}{v:V}(h:Bor U H p v):Rep (fun a=>H a≠none) H p v:=by
 have k:Keeps U H (fun a=>H a≠none) H:=⟨d,fun _ _ _ h=>h,fun _ _ _ h=>h,fun _ _ _ h=>h,fun _ _ h=>h⟩
 cases p with
 | lst ps=>obtain ⟨a,xs,e,r,q⟩:=h;exact rep_lst.mpr ⟨a,xs,e,(show H a≠none by rw [r];intro z;cases z),r,Reps.keeps k _ _ q⟩
 | dct ks=>obtain ⟨a,xs,e,r,q⟩:=h;exact rep_dct.mpr ⟨a,xs,e,r.dom,r,RepK.keeps k _ _ q⟩
 | dtt ks=>obtain ⟨a,xs,e,r,q⟩:=h;exact rep_dtt.mpr ⟨a,xs,e,(show H a≠none by rw [r];intro z;cases z),r,RepT.keeps k _ _ q⟩
 | scr ns=>obtain ⟨a,e,r⟩:=h;exact rep_scr.mpr ⟨a,e,r.dom,r⟩
 | _=>exact Rep.keeps k _ _ h
theorem Ext.onlyU {U U2:AS}{H H':Hp}(d:∀a,U a→H a≠none) (s:Same H H'):Ext U H U H':=⟨s,fun _ h=>h,fun _ h=>.inl h,fun a h z=>by
 cases q:H a with
 | none=>exact d a h q
 | some o=>rw [s a o q] at z;cases z⟩
def wr (i:Nat) (g:PV→Option PV):VF:=fun ρ=>match ρ[i]? with
 | some (some (p,.own))=>(g p).map fun p'=>.nx (ρ.set i (some (p',.own)))
 | _=>none
def vAppend (i:Nat) (f:VX):VF:=fun ρ=>(f ρ).bind fun q=>wr i (fun p=>match p with
 | .lst ps=>if small? ps.length then some (.lst (ps++[q])) else none
 | _=>none) ρ
def vExtend (i:Nat) (f:VX):VF:=fun ρ=>(f ρ).bind fun q=>wr i (fun p=>match p,q with
 | .lst ps,.lst qs=>if small? (ps.length+qs.length) then some (.lst (ps++qs)) else none
 | _,_=>none) ρ
theorem wr_some {i:Nat}{g:PV→Option PV}{ρ:PEnv}{o:Out}(h:wr i g ρ=some o):∃p p',ρ[i]?=some (some (p,.own))∧g p=some p'∧o=.nx (ρ.set i (some (p',.own))):=by
 unfold wr at h;split at h
 ·rename_i p hp
  obtain ⟨p',hg,rfl⟩:=Zb.mp h;exact ⟨p,p',hp,hg,rfl⟩
 ·cases h
theorem keeps_upd {U O:AS}{H:Hp}{σ:St}{ρ:PEnv}{a:Addr}{u u':HO}(s:SR U O H σ ρ) (oa:O a) (ha:H a=some u) (hu:∀xs,u≠.tup xs):Keeps U H U (upd H a u'):=by
 have ne:∀b,U b→b≠a:=fun b hb z=>s.dis b hb (by rw [z];exact oa);refine ⟨fun _ h=>h,fun b ys u hb=>?_,fun b ys u hb=>?_,fun b ys u hb=>?_,fun b ys hb=>?_⟩
 ·rw [upd_ne (ne b u)];exact hb
 ·rcases hb with hb|⟨oo,hb⟩
  ·exact .inl (by rw [upd_ne (ne b u)];exact hb)
  ·exact .inr ⟨oo,by rw [upd_ne (ne b u)];exact hb⟩
 ·rcases hb with hb|⟨oo,hb⟩
  ·exact .inl (by rw [upd_ne (ne b u)];exact hb)
  ·exact .inr ⟨oo,by rw [upd_ne (ne b u)];exact hb⟩
 ·rw [upd_ne (ne_of hb ha (fun z=>hu _ z.symm))];exact hb
end L2
namespace L2
open PySem PySem.Spec PyProof.Rows
def pII (g:Int→Int→Int):PV→PV→Option PV
 | .int i,.int j=>some (.int (g i j))
 | _,_=>none
def pIIc (c:Int→Int→Bool) (g:Int→Int→Int):PV→PV→Option PV
 | .int i,.int j=>if c i j then some (.int (g i j)) else none
 | _,_=>none
def pIB (g:Int→Int→Bool):PV→PV→Option PV
 | .int i,.int j=>some (.bl (g i j))
 | _,_=>none
theorem r2_ii {g:Int→Int→Int}:R2V .shr (rI0 fun i j=>.int (g i j)) (pII g):=by
 intro U H p q z v w Q d hp hq e k;cases p<;>cases q<;>simp only [pII] at e<;>first|cases e|skip
 ·rename_i i j
  exact ⟨i,j,bor_int (U:=U) (H:=H) hp,bor_int (U:=U) (H:=H) hq,k _ H U (.refl d) (repI U H _)⟩
theorem r2_ib {g:Int→Int→Bool}:R2V .shr (rI0 fun i j=>.bl (g i j)) (pIB g):=by
 intro U H p q z v w Q d hp hq e k;cases p<;>cases q<;>simp only [pIB] at e<;>first|cases e|skip
 ·rename_i i j
  exact ⟨i,j,bor_int (U:=U) (H:=H) hp,bor_int (U:=U) (H:=H) hq,k _ H U (.refl d) (repB U H _)⟩
theorem r2_iic {C:Int→Int→Prop}{c:Int→Int→Bool}{g:Int→Int→Int}(hc:∀i j,c i j=true→C i j):R2V .shr (rI C fun i j=>.int (g i j)) (pIIc c g):=by
 intro U H p q z v w Q d hp hq e k;cases p<;>cases q<;>simp only [pIIc] at e<;>first|cases e|skip
 ·rename_i i j
  obtain ⟨h,rfl⟩:=some_if e;exact ⟨i,j,bor_int (U:=U) (H:=H) hp,bor_int (U:=U) (H:=H) hq,hc i j h,k _ H U (.refl d) (repI U H _)⟩
def pAdd:=pII (· + ·)
def pSub:=pII (· - ·)
def cMul (i j:Int):Bool:=(decide (-(2 ^ 64) < i)&&decide (i < 2 ^ 64)) || (decide (-(2 ^ 64) < j)&&decide (j < 2 ^ 64))
def pMul:=pIIc cMul (· * ·)
def cDiv (_ j:Int):Bool:=decide (0 < j)&&decide (j < 1073741824)
def pDiv:=pIIc cDiv (· / ·)
def cPos (_ j:Int):Bool:=decide (0 < j)
def pMod:=pIIc cPos (· % ·)
theorem r2_add:R2V .shr (rI0 fun i j=>.int (i+j)) pAdd:=r2_ii
theorem r2_sub:R2V .shr (rI0 fun i j=>.int (i - j)) pSub:=r2_ii
theorem r2_div:R2V .shr (rI CDiv fun i j=>.int (i / j)) pDiv:=r2_iic fun i j h=>by
 unfold cDiv at h;unfold CDiv;simpa using h
theorem r2_mod:R2V .shr (rI (fun _ j=>0 < j) fun i j=>.int (i % j)) pMod:=r2_iic fun i j h=>by
 unfold cPos at h;simpa using h
def pLt:=pIB fun i j=>decide (i < j)
def pLe:=pIB fun i j=>decide (i≤j)
def pGt:=pIB fun i j=>decide (j < i)
def pGe:=pIB fun i j=>decide (j≤i)
theorem r2_lt:R2V .shr (rI0 fun i j=>.bl (decide (i < j))) pLt:=r2_ib
theorem r2_le:R2V .shr (rI0 fun i j=>.bl (decide (i≤j))) pLe:=r2_ib
theorem r2_gt:R2V .shr (rI0 fun i j=>.bl (decide (j < i))) pGt:=r2_ib
theorem r2_ge:R2V .shr (rI0 fun i j=>.bl (decide (j≤i))) pGe:=r2_ib
def pNeg:PV→Option PV
 | .int i=>some (.int (-i))
 | _=>none
theorem r1_neg:R1V .shr (rU fun i=>.int (-i)) pNeg:=by
 intro U H p z v Q d hp e k;cases p<;>simp only [pNeg] at e<;>first|cases e|skip
 ·rename_i i
  exact ⟨i,bor_int (U:=U) (H:=H) hp,k _ H U (.refl d) (repI U H _)⟩
def eqSc:PV→PV→Option Bool
 | .int i,.int j=>some (decide (i=j))
 | .str i,.str j=>some (decide (i=j))
 | .bl i,.bl j=>some (decide (i=j))
 | .non,.non=>some true
 | .non,.int _=>some false
 | .int _,.non=>some false
 | .non,.str _=>some false
 | .str _,.non=>some false
 | .non,.bl _=>some false
 | .bl _,.non=>some false
 | _,_=>none
def pEq (p q:PV):Option PV:=(eqSc p q).map PV.bl
def pNe (p q:PV):Option PV:=(eqSc p q).map fun b=>PV.bl (!b)
theorem sc_val {U:AS}{H:Hp}{p q:PV}{b:Bool}{v w:V}(hp:Bor U H p v) (hq:Bor U H q w) (e:eqSc p q=some b):scal v w=true∧b=decide (v=w):=by
 cases p<;>cases q<;>simp only [eqSc] at e<;>first|cases e|skip
 all_goals (simp only [Bor,rep_non,rep_bl,rep_int,rep_str] at hp hq;subst hp hq;simp [scal])
theorem r2_eq:R2V .shr rEq pEq:=by
 intro U H p q z v w Q d hp hq e k;obtain ⟨b,hb,rfl⟩:=Zb.mp e;obtain ⟨h1,h2⟩:=sc_val hp hq hb;refine ⟨h1,k _ H U (.refl d) ?_⟩;rw [h2];exact repB U H _
theorem r2_ne:R2V .shr rNe pNe:=by
 intro U H p q z v w Q d hp hq e k;obtain ⟨b,hb,rfl⟩:=Zb.mp e;obtain ⟨h1,h2⟩:=sc_val hp hq hb;refine ⟨h1,k _ H U (.refl d) ?_⟩;rw [h2];exact repB U H _
def pLeS:PV→PV→Option PV
 | .str i,.str j=>some (.bl (!decide (j.cps.toList < i.cps.toList)))
 | _,_=>none
theorem r2_leS:R2V .shr rLeS pLeS:=by
 intro U H p q z v w Q d hp hq e k;cases p<;>cases q<;>simp only [pLeS] at e<;>first|cases e|skip
 ·rename_i i j
  exact ⟨i,j,bor_str (U:=U) (H:=H) hp,bor_str (U:=U) (H:=H) hq,k _ H U (.refl d) (repB U H _)⟩
def peq (p q:PV):Bool:=@decide (p=q) (Classical.propDecidable _)
theorem peq_iff {p q:PV}:peq p q=true↔p=q:=by unfold peq;simp
mutual
def simk:Nat→PV→PV→Bool
 | _,.int _,.int _=>true
 | _,.str _,.str _=>true
 | _,.bl _,.bl _=>true
 | _,.non,.non=>true
 | n+1,.lst ps,.lst qs=>simks n ps qs
 | n+1,.tup ps,.tup qs=>simks n ps qs
 | _,_,_=>false
def simks:Nat→List PV→List PV→Bool
 | _,[],_=>true
 | _,_::_,[]=>true
 | n,p::ps,q::qs=>simk n p q&&simks n ps qs
end
theorem simks_get:∀{n:Nat}{ps qs:List PV}{j:Nat}{p q:PV},simks n ps qs=true→ps[j]?=some p→qs[j]?=some q→simk n p q=true
 | n,[],_,j,p,q,_,e,_=>by simp at e
 | n,_::_,[],j,p,q,_,_,e=>by simp at e
 | n,a::ps,b::qs,0,p,q,h,e1,e2=>by
  simp only [simks,Zc1] at h;simp at e1 e2;subst e1 e2;exact h.1
 | n,a::ps,b::qs,j+1,p,q,h,e1,e2=>by
  simp only [simks,Zc1] at h;exact simks_get (j:=j) h.2 (by simpa using e1) (by simpa using e2)
theorem Reps.getV:∀{U:AS}{H:Hp}{ps:List PV}{xs:List V}{i:Nat}{v:V},Reps U H ps xs→xs[i]?=some v→∃p,ps[i]?=some p∧Rep U H p v
 | U,H,[],xs,i,v,h,e=>by rw [reps_nil.mp h] at e;simp at e
 | U,H,q::ps,xs,0,v,h,e=>by
  obtain ⟨x,r,rfl,h1,_⟩:=reps_cons.mp h;simp at e;subst e;exact ⟨q,rfl,h1⟩
 | U,H,q::ps,xs,i+1,v,h,e=>by
  obtain ⟨x,r,rfl,_,h2⟩:=reps_cons.mp h;obtain ⟨p,hp,hr⟩:=Reps.getV (i:=i) h2 (by simpa using e);exact ⟨p,by simpa using hp,hr⟩
theorem all_peq {ps qs:List PV}(hl:ps.length=qs.length):((List.range ps.length).all fun j=>peq (ps.getD j .non) (qs.getD j .non))=peq (.lst ps) (.lst qs):=by
 rw [Bool.eq_iff_iff,peq_iff];simp only [Zp1,Zt,peq_iff];constructor
 ·intro h
  congr 1;refine List.ext_getElem hl fun j h1 h2=>?_;have:=h j h1;simpa [Zy,h1,h2] using this
 ·intro h j hj
  injection h with h
  rw [h]
theorem peq_tup {ps qs:List PV}:peq (.tup ps) (.tup qs)=peq (.lst ps) (.lst qs):=by
 rw [Bool.eq_iff_iff,peq_iff,peq_iff];constructor
 ·intro h;injection h with h;rw [h]
 ·intro h;injection h with h;rw [h]
theorem peq_len {ps qs:List PV}:(decide (ps.length=qs.length)&&(List.range ps.length).all fun j=>peq (ps.getD j .non) (qs.getD j .non))=peq (.lst ps) (.lst qs):=by
 by_cases h:ps.length=qs.length
 ·rw [Zn h,Bool.true_and,all_peq h]
 ·rw [Zo h,Bool.false_and]
  have:¬peq (.lst ps) (.lst qs)=true:=by
   rw [peq_iff];intro e;injection e with e;exact h (by rw [e])
  simpa using this
theorem getD_of {ps:List PV}{j:Nat}{p:PV}(h:ps[j]?=some p):ps.getD j .non=p:=by simp [Zy,h]
theorem peq_sc_int {i j:Int}:peq (.int i) (.int j)=decide (i=j):=by rw [Bool.eq_iff_iff,peq_iff];simp
theorem peq_sc_str {i j:Str}:peq (.str i) (.str j)=decide (i=j):=by rw [Bool.eq_iff_iff,peq_iff];simp
theorem peq_sc_bl {i j:Bool}:peq (.bl i) (.bl j)=decide (i=j):=by rw [Bool.eq_iff_iff,peq_iff];simp
theorem eqR_bl {X:Cx}{n:Nat}{H:Hp}(a b:Bool):EqR X n H (.bl a) (.bl b) (decide (a=b)):=by
 refine ⟨fun pins σ s u v I ru rv A _=>?_,fun e=>by cases e;simp⟩;cases ru;cases rv;have e:decide (a=b)=(a==b):=by cases a<;>cases b<;>rfl
 rw [e];exact SeqAt.EqAt.bool_bool a b
theorem eqR_rep {X:Cx}{U:AS}{H:Hp}:∀(n:Nat) (p q:PV) (v w:V),simk n p q=true→Rep U H p v→Rep U H q w→EqR X n H v w (peq p q):=by
 intro n
 induction n with
 | zero =>
  intro p q v w hs hp hq;cases p<;>cases q<;>simp only [simk] at hs<;>first|cases hs|skip
  ·rw [rep_non.mp hp,rep_non.mp hq]
   have e:peq .non .non=true:=peq_iff.mpr rfl;rw [e];exact ⟨fun pins σ s u v I ru rv A _=>by cases ru;cases rv;exact SeqAt.EqAt.same _,fun _=>rfl⟩
  ·rw [rep_bl.mp hp,rep_bl.mp hq,peq_sc_bl];exact eqR_bl _ _
  ·rw [rep_int.mp hp,rep_int.mp hq,peq_sc_int];exact eqR_int _ _
  ·rw [rep_str.mp hp,rep_str.mp hq,peq_sc_str];exact eqR_str _ _
 | succ n ih =>
  intro p q v w hs hp hq;cases p<;>cases q<;>simp only [simk] at hs<;>first|cases hs|skip
  ·rw [rep_non.mp hp,rep_non.mp hq]
   have e:peq .non .non=true:=peq_iff.mpr rfl;rw [e];exact ⟨fun pins σ s u v I ru rv A _=>by cases ru;cases rv;exact SeqAt.EqAt.same _,fun _=>rfl⟩
  ·rw [rep_bl.mp hp,rep_bl.mp hq,peq_sc_bl];exact eqR_bl _ _
  ·rw [rep_int.mp hp,rep_int.mp hq,peq_sc_int];exact eqR_int _ _
  ·rw [rep_str.mp hp,rep_str.mp hq,peq_sc_str];exact eqR_str _ _
  ·rename_i ps qs
   obtain ⟨a,xs,rfl,_,ha,rx⟩:=rep_lst.mp hp;obtain ⟨b,ys,rfl,_,hb,ry⟩:=rep_lst.mp hq;have q:=eqR_list (X:=X) (n:=n) (e:=fun j=>peq (ps.getD j .non) (qs.getD j .non)) (SqL.of ha) (SqL.of hb) (fun hl j x y hx hy=>?_) (fun z=>?_)
   ·rw [rx.length,ry.length,peq_len] at q;exact q
   ·obtain ⟨p',e1,r1⟩:=rx.getV hx
    obtain ⟨q',e2,r2⟩:=ry.getV hy;rw [getD_of e1,getD_of e2];exact ih p' q' x y (simks_get hs e1 e2) r1 r2
   ·subst z;rw [ha] at hb;cases hb;rfl
  ·rename_i ps qs
   obtain ⟨a,xs,rfl,ha,rx⟩:=rep_tup.mp hp;obtain ⟨b,ys,rfl,hb,ry⟩:=rep_tup.mp hq;have q:=eqR_tup (X:=X) (n:=n) (e:=fun j=>peq (ps.getD j .non) (qs.getD j .non)) (SqT.of ha) (SqT.of hb) (fun j x y hx hy=>?_) (fun z=>?_)
   ·rw [rx.length,ry.length] at q
    rw [peq_tup,←peq_len];have e2:((List.range (min ps.length qs.length)).all (fun j=>peq (ps.getD j .non) (qs.getD j .non))&&decide (ps.length=qs.length))=(decide (ps.length=qs.length)&&(List.range ps.length).all fun j=>peq (ps.getD j .non) (qs.getD j .non)):=by
     by_cases h:ps.length=qs.length
     ·rw [←h,Nat.min_self,Bool.and_comm]
     ·rw [Zo h,Bool.and_false,Bool.false_and]
    rw [e2] at q;exact q
   ·obtain ⟨p',e1,r1⟩:=rx.getV hx
    obtain ⟨q',e2,r2⟩:=ry.getV hy;rw [getD_of e1,getD_of e2];exact ih p' q' x y (simks_get hs e1 e2) r1 r2
   ·subst z;rw [ha] at hb;cases hb;rfl
def pEqL (n:Nat) (neg:Bool):PV→PV→Option PV
 | .lst ps,.lst qs=>if simks n ps qs then some (.bl (if neg=true then !peq (.lst ps) (.lst qs) else peq (.lst ps) (.lst qs))) else none
 | _,_=>none
theorem r2_eqL {X:Cx}{n:Nat}{neg:Bool}:R2V .shr (rEqL X n neg) (pEqL n neg):=by
 intro U H p q z v w Q d hp hq e k;cases p<;>cases q<;>simp only [pEqL] at e<;>first|cases e|skip
 ·rename_i ps qs
  obtain ⟨h,rfl⟩:=some_if e;obtain ⟨a,xs,rfl,ha,rx⟩:=hp;obtain ⟨b,ys,rfl,hb,ry⟩:=hq;refine ⟨a,b,xs,ys,fun j=>peq (ps.getD j .non) (qs.getD j .non),rfl,rfl,SqL.of ha,SqL.of hb,fun hl j x y hx hy=>?_,?_⟩
  ·obtain ⟨p',e1,r1⟩:=rx.getV hx
   obtain ⟨q',e2,r2⟩:=ry.getV hy;show EqR X n H x y (peq (ps.getD j .non) (qs.getD j .non));rw [getD_of e1,getD_of e2];exact eqR_rep n p' q' x y (simks_get h e1 e2) r1 r2
  ·rw [rx.length,ry.length,peq_len]
   exact k _ H U (.refl d) (repB U H _)
def pIxL:PV→PV→Option PV
 | .lst ps,.int i=>atI ps i
 | .scr ns,.int i=>(atI ns i).map PV.int
 | _,_=>none
def pIxT:PV→PV→Option PV
 | .tup ps,.int i=>atI ps i
 | _,_=>none
def pIxS:PV→PV→Option PV
 | .str z,.int i=>if small? z.length then (atI z.cps.toList i).map fun c=>PV.str ⟨#[c]⟩ else none
 | _,_=>none
theorem atI_reps {U:AS}{H:Hp}{ps:List PV}{xs:List V}{i:Int}{p:PV}(r:Reps U H ps xs) (h:atI ps i=some p):∃v,atI xs i=some v∧Rep U H p v:=by
 unfold atI at h ⊢;rw [r.length];obtain ⟨j,hj,h⟩:=Za.mp h;obtain ⟨v,hv,rv⟩:=r.get h;exact ⟨v,by rw [hj];exact hv,rv⟩
theorem r2_ixL {Kf:PySem.W.Frag}:R2V .shr (rIxL Kf) pIxL:=by
 intro U H p q z v w Q d hp hq e k;cases p<;>cases q<;>simp only [pIxL,pIxT,pIxS] at e<;>first|cases e|skip
 ·rename_i ps i
  obtain ⟨a,xs,rfl,ha,rx⟩:=hp;obtain ⟨u,hu,ru⟩:=atI_reps rx e;exact ⟨a,xs,i,u,rfl,bor_int (U:=U) (H:=H) hq,SqL.of ha,hu,k _ H U (.refl d) ru⟩
 ·rename_i ns i
  obtain ⟨a,rfl,ha⟩:=hp;obtain ⟨n,hn,rfl⟩:=Zb.mp e;refine ⟨a,ns.map V.int,i,.int n,rfl,bor_int (U:=U) (H:=H) hq,.inl ha,?_,k _ H U (.refl d) (repI U H _)⟩;unfold atI at hn ⊢;obtain ⟨j,hj,h⟩:=Za.mp hn;rw [Zd,hj];simp [h]
def pCat:PV→PV→Option PV
 | .lst ps,.lst qs=>if small? (ps.length+qs.length) then some (.lst (ps++qs)) else none
 | _,_=>none
def pRep:PV→PV→Option PV
 | .lst ps,.int k=>if small? (ps.length * k.toNat)&&decide (-(2 ^ 63)≤k)&&decide (k < 2 ^ 63) then some (.lst (List.replicate k.toNat ps).flatten) else none
 | _,_=>none
theorem Reps.rep {U:AS}{H:Hp}{ps:List PV}{xs:List V}(h:Reps U H ps xs):∀n:Nat,Reps U H (List.replicate n ps).flatten (List.replicate n xs).flatten
 | 0=>reps_nil.mpr rfl
 | n+1=>by
  rw [List.replicate_succ,List.replicate_succ,List.flatten_cons,List.flatten_cons];exact Reps.append h (Reps.rep h n)
theorem r2_rep:R2V .fr rRep pRep:=by
 intro U H p q z v w Q d hp hq e k;cases p with
 | lst ps =>
  cases q with
  | int i =>
   obtain ⟨h,rfl⟩:=some_if e;simp only [Zc1,decide_eq_true_eq] at h;obtain ⟨a,xs,rfl,ha,rx⟩:=hp;refine ⟨a,i,xs,rfl,bor_int (U:=U) (H:=H) hq,ha,h.1.2,h.2,by rw [rx.length];exact small_le h.1.1,fun l hl=>?_⟩;obtain ⟨e2,r2⟩:=new_lst d hl (Reps.rep rx i.toNat);exact k _ _ U e2 r2
  | _=>cases e
 | _=>cases e
def VO (t:TO) (f:PEnv→Option (Option Int)):Prop:=∀(U O:AS) (H:Hp) (σ:St) (ρ:PEnv) (Q:Option Int→Hp→Prop) (b:Option Int),SR U O H σ ρ→f ρ=some b→(∀H' U',Ext U H U' H'→Q b H')→t σ H Q
def oNone:PEnv→Option (Option Int):=fun _=>some none
def isI:PV→Option Int
 | .int i=>some i
 | _=>none
def oSome (f:VX):PEnv→Option (Option Int):=fun ρ=>((f ρ).bind isI).map some
theorem vo_none:VO tNoPart oNone:=fun U O H σ ρ Q b s e k=>by cases e;exact k H U (.refl s.dU)
theorem vo_some {m:Md}{t:TE}{f:VX}(h:VE m t f):VO (tPart t) (oSome f):=by
 intro U O H σ ρ Q b s e k;obtain ⟨i,hi,rfl⟩:=Zb.mp e;obtain ⟨p,hp,e2⟩:=Za.mp hi;cases p<;>simp only [isI] at e2<;>first|cases e2|skip
 ·exact h.bor U O H σ ρ _ _ s hp fun v H1 U1 ex1 r1=>⟨i,bor_int (U:=U1) (H:=H1) r1,k H1 U1 ex1⟩
def cutP (xs:List PV) (lo hi:Option Int):List PV:=(xs.drop (HT.sIx xs.length 0 lo)).take (HT.sIx xs.length xs.length hi - HT.sIx xs.length 0 lo)
def xSl (f:VX) (lo hi:PEnv→Option (Option Int)):VX:=fun ρ=>(f ρ).bind fun p=>(lo ρ).bind fun l=>(hi ρ).bind fun u=>match p with
 | .lst ps=>some (.lst (cutP ps l u))
 | _=>none
theorem ve_slL {Kf:PySem.W.Frag}{m:Md}{te:TE}{tl th:TO}{f:VX}{lo hi:PEnv→Option (Option Int)}(h:VE m te f) (hl:VO tl lo) (hh:VO th hi):VE .fr (tSl (rSlL Kf) te tl th) (xSl f lo hi):=by
 intro U O H σ ρ Q z s e k;obtain ⟨p,hp,e⟩:=Za.mp e;obtain ⟨l,hlo,e⟩:=Za.mp e;obtain ⟨u,hhi,e⟩:=Za.mp e;cases p with
 | lst ps =>
  cases e;refine h.bor U O H σ ρ _ _ s hp fun v H1 U1 ex1 r1=>hl U1 O H1 σ ρ _ l (s.ext ex1) hlo fun H2 U2 ex2=>hh U2 O H2 σ ρ _ u ((s.ext ex1).ext ex2) hhi fun H3 U3 ex3=>?_;obtain ⟨a,xs,rfl,ha,rx⟩:=Bor.keeps (p:=.lst ps) (ex2.trans ex3).keeps (ex2.trans ex3).same r1;refine ⟨a,xs,rfl,SqL.of ha,fun p hp=>?_⟩;have rc:Reps U3 H3 (cutP ps l u) (cutV xs l u):=by
   unfold cutP cutV;rw [rx.length];exact Reps.take _ (Reps.drop _ rx)
  obtain ⟨e2,r2⟩:=new_lst ex3.dU hp rc;have e13:=ex1.trans (ex2.trans ex3);exact k _ _ U3 (e13.trans e2) (Res.pre (U1:=U3) e13.same r2)
 | _=>cases e
def xRev (f g:VX):VX:=fun ρ=>(f ρ).bind fun p=>(g ρ).bind fun q=>match p,q with
 | .lst ps,.int i=>if i = -1 then some (.lst ps.reverse) else none
 | _,_=>none
end L2
namespace L2
open PySem PySem.Spec PyProof.Rows
theorem ve_cb {m:Md}{r:List V→Hp→VK→Prop}{t:TA}{fa:VL}{g:List PV→Option PV}(hr:RLV m r g) (ha:VA true t fa):VE m (tCB r t) (xL g fa):=by
 intro U O H σ ρ Q z s e k;obtain ⟨ps,hp,e⟩:=Za.mp e;refine ha U O H σ ρ _ ps s hp fun vs H1 U1 ex1 r1=>?_;exact hr U1 H1 ps z vs Q ex1.dU r1 e fun u H3 U3 ex3 r3=>k u H3 U3 (ex1.trans ex3) (Res.pre (U1:=U1) ex1.same r3)
theorem Bors.one {U:AS}{H:Hp}{p:PV}{vs:List V}(h:Bors U H [p] vs):∃v,vs = [v]∧Bor U H p v:=by
 cases h with
 | cons a b=>cases b;exact ⟨_,rfl,a⟩
theorem Bors.two {U:AS}{H:Hp}{p q:PV}{vs:List V}(h:Bors U H [p,q] vs):∃v w,vs = [v,w]∧Bor U H p v∧Bor U H q w:=by
 cases h with
 | cons a b =>
  obtain ⟨w,rfl,hb⟩:=b.one;exact ⟨_,w,rfl,a,hb⟩
def pLen:List PV→Option PV
 | [.lst ps]=>some (.int ps.length)
 | [.tup ps]=>some (.int ps.length)
 | [.scr ns]=>some (.int ns.length)
 | _=>none
theorem rl_len {Kf:PySem.W.Frag}:RLV .shr (rLenL Kf) pLen:=by
 intro U H ps z vs Q d hb e k
 match ps,e with
 | [.lst qs],e =>
  cases e;obtain ⟨v,rfl,a,xs,rfl,ha,rx⟩:=hb.one;refine ⟨a,xs,rfl,.inl (SqL.of ha),?_⟩;rw [rx.length];exact k _ H U (.refl d) (repI U H _)
 | [.tup qs],e =>
  cases e;obtain ⟨v,rfl,hv⟩:=hb.one;obtain ⟨a,xs,rfl,ha,rx⟩:=rep_tup.mp (show Rep U H (.tup qs) v from hv);refine ⟨a,xs,rfl,.inr (SqT.of ha),?_⟩;rw [rx.length];exact k _ H U (.refl d) (repI U H _)
 | [.scr ns],e =>
  cases e;obtain ⟨v,rfl,a,rfl,ha⟩:=hb.one;refine ⟨a,ns.map V.int,rfl,.inl (.inl ha),?_⟩;rw [Zd];exact k _ H U (.refl d) (repI U H _)
def pLenS:List PV→Option PV
 | [.str z]=>if small? z.length then some (.int z.length) else none
 | _=>none
theorem rl_lenS:RLV .shr rLenS pLenS:=by
 intro U H ps z vs Q d hb e k
 match ps,e with
 | [.str x],e =>
  obtain ⟨h,rfl⟩:=some_if e;obtain ⟨v,rfl,hv⟩:=hb.one;exact ⟨x,by rw [bor_str (U:=U) (H:=H) hv],small_le h,k _ H U (.refl d) (repI U H _)⟩
def pList:List PV→Option PV
 | [.lst ps]=>some (.lst ps)
 | [.tup ps]=>some (.lst ps)
 | _=>none
theorem rl_list {Kf:PySem.W.Frag}:RLV .fr (rListOf Kf) pList:=by
 intro U H ps z vs Q d hb e k
 match ps,e with
 | [.lst qs],e =>
  cases e;obtain ⟨v,rfl,a,xs,rfl,ha,rx⟩:=hb.one;refine ⟨a,xs,rfl,.inl (SqL.of ha),fun l hl=>?_⟩;obtain ⟨e2,r2⟩:=new_lst d hl rx;exact k _ _ U e2 r2
 | [.tup qs],e =>
  cases e;obtain ⟨v,rfl,hv⟩:=hb.one;obtain ⟨a,xs,rfl,ha,rx⟩:=rep_tup.mp (show Rep U H (.tup qs) v from hv);refine ⟨a,xs,rfl,.inr (SqT.of ha),fun l hl=>?_⟩;obtain ⟨e2,r2⟩:=new_lst d hl rx;exact k _ _ U e2 r2
def bools:List PV→Option (List Bool)
 | []=>some []
 | .bl b::ps=>(bools ps).map (b::·)
 | _=>none
theorem bools_map:∀{ps:List PV}{bs:List Bool},bools ps=some bs→ps=bs.map PV.bl
 | [],bs,h=>by cases h;rfl
 | .bl b::ps,bs,h=>by
  obtain ⟨cs,hc,rfl⟩:=Zb.mp h;rw [bools_map hc];rfl
 | .non::_,_,h=>nomatch h
 | .int _::_,_,h=>nomatch h
 | .str _::_,_,h=>nomatch h
 | .lst _::_,_,h=>nomatch h
 | .tup _::_,_,h=>nomatch h
 | .dct _::_,_,h=>nomatch h
 | .scr _::_,_,h=>nomatch h
 | .adr _::_,_,h=>nomatch h
 | .obj _ _ _::_,_,h=>nomatch h
 | .dtt _::_,_,h=>nomatch h
theorem bools_of:∀(bs:List Bool),bools (bs.map PV.bl)=some bs
 | []=>rfl
 | b::bs=>by simp [bools,bools_of bs]
def pAll:List PV→Option PV
 | [.lst ps]=>(bools ps).map fun bs=>.bl (bs.all id)
 | _=>none
theorem rl_all {Kf:PySem.W.Frag}:RLV .shr (rAll Kf) pAll:=by
 intro U H ps z vs Q d hb e k
 match ps,e with
 | [.lst qs],e =>
  obtain ⟨bs,hbs,rfl⟩:=Zb.mp e;obtain ⟨v,rfl,a,xs,rfl,ha,rx⟩:=hb.one;rw [bools_map hbs] at rx;have:=rx.bls;subst this;exact ⟨a,bs,rfl,SqL.of ha,k _ H U (.refl d) (repB U H _)⟩
def pMax2:List PV→Option PV
 | [.int i,.int j]=>some (.int (if j > i then j else i))
 | _=>none
def tyName:PV→Option String
 | .non=>some "NoneType" | .bl _=>some "bool" | .int _=>some "int" | .str _=>some "str" | .lst _=>some "list" | .tup _=>some "tuple" | .dct _=>none | .scr _=>none | .adr _=>none | .obj _ _ _=>none | .dtt _=>none
def pIsi (tab:List (String×Bool)) (p:PV):Option PV:=((tyName p).bind fun t=>tab.lookup t).map PV.bl
def pIsN:PV→Option PV
 | .non=>some (.bl true)
 | _=>some (.bl false)
def pNotN:PV→Option PV
 | .non=>some (.bl false)
 | _=>some (.bl true)
def flatP:PV→Bool
 | .non=>true | .bl _=>true | .int _=>true | .str _=>true|_=>false
def eqP:PV→PV→Bool
 | .non,.non=>true
 | .bl a,.bl b=>a==b
 | .bl a,.int b=>(if a then 1 else 0)==b
 | .int a,.bl b=>a==(if b then 1 else 0)
 | .int a,.int b=>a==b
 | .str a,.str b=>a==b
 | _,_=>false
theorem flat_val {U:AS}{H:Hp}{p:PV}{v:V}(h:Bor U H p v) (hf:flatP p=true):flatV v=true∧ofConst v=some p:=by
 cases p<;>simp only [flatP] at hf<;>first|cases hf|skip
 ·rw [(rep_non (U:=U) (H:=H)).mp h];exact ⟨rfl,rfl⟩
 ·rw [(rep_bl (U:=U) (H:=H)).mp h];exact ⟨rfl,rfl⟩
 ·rw [(rep_int (U:=U) (H:=H)).mp h];exact ⟨rfl,rfl⟩
 ·rw [(rep_str (U:=U) (H:=H)).mp h];exact ⟨rfl,rfl⟩
theorem eqP_val {p q:PV}{v w:V}(h1:ofConst v=some p) (h2:ofConst w=some q):eqV v w=eqP p q:=by
 cases v<;>simp only [ofConst] at h1<;>first|cases h1|skip
 all_goals (cases w<;>simp only [ofConst] at h2<;>first|cases h2|skip)
 all_goals rfl
theorem flats {U:AS}{H:Hp}:∀{ps:List PV}{xs:List V},Reps U H ps xs→ps.all flatP=true→xs.all flatV=true∧∀(v:V) (p:PV),ofConst v=some p→xs.any (fun y=>eqV y v)=ps.any (fun y=>eqP y p)
 | [],xs,h,_=>by rw [reps_nil.mp h];exact ⟨rfl,fun _ _ _=>rfl⟩
 | p::ps,xs,h,hf=>by
  obtain ⟨x,r,rfl,h1,h2⟩:=reps_cons.mp h;simp only [List.all_cons,Zc1] at hf;obtain ⟨a,b⟩:=flats h2 hf.2;obtain ⟨c,d⟩:=flat_val (Rep.bor h1) hf.1;exact ⟨by simp [a,c],fun v q hq=>by simp only [List.any_cons];rw [b v q hq,eqP_val d hq]⟩
def pIn (neg:Bool) (p q:PV):Option PV:=match q with
 | .lst ps=>if flatP p&&ps.all flatP then some (.bl (if neg then !(ps.any fun y=>eqP y p) else ps.any fun y=>eqP y p)) else none
 | .tup ps=>if flatP p&&ps.all flatP then some (.bl (if neg then !(ps.any fun y=>eqP y p) else ps.any fun y=>eqP y p)) else none
 | _=>none
theorem r2_in {Kf:PySem.W.Frag}{neg:Bool}:R2V .shr (rIn Kf neg) (pIn neg):=by
 intro U H p q z v w Q d hp hq e k;cases q with
 | lst ps =>
  obtain ⟨h,rfl⟩:=some_if e;simp only [Zc1] at h;obtain ⟨a,xs,rfl,ha,rx⟩:=hq;obtain ⟨f1,f2⟩:=flats rx h.2;obtain ⟨g1,g2⟩:=flat_val hp h.1;refine ⟨a,xs,rfl,.inl (SqL.of ha),g1,f1,?_⟩;unfold inV;rw [f2 v p g2];exact k _ H U (.refl d) (repB U H _)
 | tup ps =>
  obtain ⟨h,rfl⟩:=some_if e;simp only [Zc1] at h;obtain ⟨a,xs,rfl,ha,rx⟩:=rep_tup.mp (show Rep U H (.tup ps) w from hq);obtain ⟨f1,f2⟩:=flats rx h.2;obtain ⟨g1,g2⟩:=flat_val hp h.1;refine ⟨a,xs,rfl,.inr (SqT.of ha),g1,f1,?_⟩;unfold inV;rw [f2 v p g2];exact k _ H U (.refl d) (repB U H _)
 | _=>cases e
def itL (f:VX):VL:=fun ρ=>(f ρ).bind fun p=>match p with
 | .lst ps=>some ps
 | _=>none
def itT (f:VX):VL:=fun ρ=>(f ρ).bind fun p=>match p with
 | .tup ps=>some ps
 | _=>none
theorem vi_list {Kf:PySem.W.Frag}{tl:TE}{f:VX}(h:VE .shr tl f):VI (iList Kf tl) (itL f):=by
 intro U O H σ ρ R ys s e k;obtain ⟨p,hp,e⟩:=Za.mp e;cases p with
 | lst ps =>
  cases e;refine h U O H σ ρ _ _ s hp fun v H1 U1 ex1 r1=>?_;obtain ⟨a,xs,rfl,ua,ha,rx⟩:=rep_lst.mp r1;refine ⟨a,rfl,⟨xs,SqL.of ha⟩,k _ H1 U1 ex1 ⟨fun i U2 H2 kp d x hx=>?_,fun U2 H2 kp=>?_⟩⟩
  ·have ha2:=kp.lst a (.l xs) ua ha
   obtain ⟨v,hv,rv⟩:=(Reps.keeps kp _ _ rx).get hx;refine ⟨⟨xs,v,SqL.of ha2,hv⟩,fun w H3 hy=>?_⟩;obtain ⟨rfl,hw⟩:=hy;have:=hw xs (SqL.of ha2);rw [hv] at this;cases this;exact ⟨U2,.refl d,rv⟩
  ·exact ⟨xs,SqL.of (kp.lst a (.l xs) ua ha),by rw [rx.length];exact Nat.le_refl _⟩
 | _=>cases e
theorem vi_tup {Kf:PySem.W.Frag}{m:Md}{tl:TE}{f:VX}(h:VE m tl f):VI (iTup Kf tl) (itT f):=by
 intro U O H σ ρ R ys s e k;obtain ⟨p,hp,e⟩:=Za.mp e;cases p with
 | tup ps =>
  cases e;refine h.bor U O H σ ρ _ _ s hp fun v H1 U1 ex1 r1=>?_;obtain ⟨a,xs,rfl,ha,rx⟩:=(rep_tup (U:=U1) (H:=H1)).mp r1;refine ⟨a,rfl,⟨xs,SqT.of ha⟩,k _ H1 U1 ex1 ⟨fun i U2 H2 kp d x hx=>?_,fun U2 H2 kp=>?_⟩⟩
  ·have ha2:=kp.tup a xs ha
   obtain ⟨v,hv,rv⟩:=(Reps.keeps kp _ _ rx).get hx;refine ⟨⟨xs,v,SqT.of ha2,hv⟩,fun w H3 hy=>?_⟩;obtain ⟨rfl,hw⟩:=hy;have:=hw xs (SqT.of ha2);rw [hv] at this;cases this;exact ⟨U2,.refl d,rv⟩
  ·exact ⟨xs,SqT.of (kp.tup a xs ha),by rw [rx.length];exact Nat.le_refl _⟩
 | _=>cases e
def rngP (lo:Int) (n:Nat):List PV:=(List.range n).map fun k=>.int (lo + (k:Nat))
theorem rngP_get {lo:Int}{n i:Nat}{x:PV}(h:(rngP lo n)[i]?=some x):i < n∧x=.int (lo + (i:Nat)):=by
 unfold rngP at h;rw [Zj] at h;obtain ⟨j,hj,rfl⟩:=Zb.mp h;obtain ⟨h1,h2⟩:=Zg.mp hj;rw [Zu] at h1;rw [List.getElem_range] at h2;exact ⟨h1,by rw [h2]⟩
theorem walk_rng {U:AS}{H:Hp}{lo:Int}{n:Nat}:Walk U H (Itr lo n) (rngP lo n):=by
 refine ⟨fun i U2 H2 kp d x hx=>?_,fun U2 H2 kp=>?_⟩
 ·obtain ⟨h1,rfl⟩:=rngP_get hx
  refine ⟨h1,fun w H3 hy=>?_⟩;obtain ⟨rfl,rfl⟩:=hy;exact ⟨U2,.refl d,repI U2 H3 _⟩
 ·show n≤(rngP lo n).length
  unfold rngP;simp
def big? (i:Int):Bool:=decide (-(2 ^ 62)≤i)&&decide (i < 2 ^ 62)
theorem big_of {i:Int}(h:big? i=true):-(2 ^ 62)≤i∧i < 2 ^ 62:=by unfold big? at h;simpa using h
def itR1 (f:VL):VL:=fun ρ=>(f ρ).bind fun ps=>match ps with
 | [.int j]=>if big? j then some (rngP 0 j.toNat) else none
 | _=>none
def dwnP (i:Int) (n:Nat):List PV:=(List.range n).map fun k=>.int (i - (k:Nat))
def itRD (f:VL):VL:=fun ρ=>(f ρ).bind fun ps=>match ps with
 | [.int i,.int j,.int k]=>if big? i&&big? j&&decide (k = -1) then some (dwnP i (i - j).toNat) else none
 | _=>none
theorem vi_rng1 {ta:TA}{f:VL}(h:VA true ta f):VI (iRng1 ta) (itR1 f):=by
 intro U O H σ ρ R ys s e k;obtain ⟨ps,hp,e⟩:=Za.mp e
 match ps,hp,e with
 | [.int j],hp,e =>
  obtain ⟨hb,rfl⟩:=some_if e;refine h U O H σ ρ _ _ s hp fun vs H1 U1 ex1 r1=>?_;obtain ⟨v,rfl,hv⟩:=Bors.one (U:=U1) (H:=H1) r1;rw [bor_int (U:=U1) (H:=H1) hv];exact ⟨j,rfl,(big_of hb).1,(big_of hb).2,k _ H1 U1 ex1 walk_rng⟩
theorem vi_rngD {ta:TA}{f:VL}(h:VA true ta f):VI (iRngD ta) (itRD f):=by
 intro U O H σ ρ R ys s e k;obtain ⟨ps,hp,e⟩:=Za.mp e
 match ps,hp,e with
 | [.int i,.int j,.int l],hp,e =>
  obtain ⟨hb,rfl⟩:=some_if e;simp only [Zc1,decide_eq_true_eq] at hb;obtain ⟨⟨h1,h2⟩,rfl⟩:=hb;refine h U O H σ ρ _ _ s hp fun vs H1 U1 ex1 r1=>?_;have r1':Bors U1 H1 [.int i,.int j,.int (-1)] vs:=r1;cases r1' with
  | cons ha hr =>
   obtain ⟨v,w,rfl,hv,hw⟩:=hr.two;rw [bor_int (U:=U1) (H:=H1) ha,bor_int (U:=U1) (H:=H1) hv,bor_int (U:=U1) (H:=H1) hw];refine ⟨i,j,rfl,⟨(big_of h1).1,(big_of h1).2,(big_of h2).1,(big_of h2).2⟩,k _ H1 U1 ex1 ⟨fun q U2 H2 kp d x hx=>?_,fun U2 H2 kp=>?_⟩⟩
   ·unfold dwnP at hx
    rw [Zj] at hx;obtain ⟨t,ht,rfl⟩:=Zb.mp hx;obtain ⟨g1,g2⟩:=Zg.mp ht;rw [Zu] at g1;rw [List.getElem_range] at g2;subst g2;refine ⟨g1,fun w H3 hy=>?_⟩;obtain ⟨rfl,rfl⟩:=hy;exact ⟨U2,.refl d,repI U2 H3 _⟩
   ·show (dwnP i (i - j).toNat).length=(i - j).toNat
    unfold dwnP;simp
def sgnP (x:Str) (i:Nat):PV:=.str ⟨#[x.cps.getD i 0]⟩
def itS (f:VX):VL:=fun ρ=>(f ρ).bind fun p=>match p with
 | .str z=>some ((List.range z.cps.size).map (sgnP z))
 | _=>none
theorem vi_str {m:Md}{tl:TE}{f:VX}(h:VE m tl f):VI (iStr tl) (itS f):=by
 intro U O H σ ρ R ys s e k;obtain ⟨p,hp,e⟩:=Za.mp e;cases p with
 | str z =>
  cases e;refine h.bor U O H σ ρ _ _ s hp fun v H1 U1 ex1 r1=>?_;refine ⟨z,bor_str (U:=U1) (H:=H1) r1,k _ H1 U1 ex1 ⟨fun i U2 H2 kp d x hx=>?_,fun U2 H2 kp=>?_⟩⟩
  ·rw [Zj] at hx
   obtain ⟨t,ht,rfl⟩:=Zb.mp hx;obtain ⟨g1,g2⟩:=Zg.mp ht;rw [Zu] at g1;rw [List.getElem_range] at g2;subst g2;refine ⟨g1,fun w H3 hy=>?_⟩;obtain ⟨rfl,rfl⟩:=hy;exact ⟨U2,.refl d,repX U2 H3 _⟩
  ·show ((List.range z.cps.size).map (sgnP z)).length=z.cps.size
   simp
 | _=>cases e
def enumP (ps:List PV):List PV:=ps.zipIdx.map fun q=>.tup [.int (q.2:Nat),q.1]
def itE (f:VL):VL:=fun ρ=>(f ρ).bind fun ps=>match ps with
 | [.lst qs]=>some (enumP qs)
 | _=>none
theorem vi_enum {Kf:PySem.W.Frag}{ta:TA}{f:VL}(h:VA false ta f):VI (iEnum Kf ta) (itE f):=by
 intro U O H σ ρ R ys s e k;obtain ⟨ps,hp,e⟩:=Za.mp e
 match ps,hp,e with
 | [.lst qs],hp,e =>
  cases e;refine h U O H σ ρ _ _ s hp fun vs H1 U1 ex1 r1=>?_;obtain ⟨v,r,rfl,hv,hr⟩:=(reps_cons (U:=U1) (H:=H1)).mp r1;rw [reps_nil.mp hr];obtain ⟨a,xs,rfl,ua,ha,rx⟩:=rep_lst.mp hv;refine ⟨a,rfl,⟨xs,SqL.of ha⟩,k _ H1 U1 ex1 ⟨fun i U2 H2 kp d x hx=>?_,fun U2 H2 kp=>?_⟩⟩
  ·have ha2:=kp.lst a (.l xs) ua ha
   unfold enumP at hx;rw [Zj,List.getElem?_zipIdx] at hx;obtain ⟨t,ht,rfl⟩:=Zb.mp hx;obtain ⟨q,hq,rfl⟩:=Zb.mp ht;obtain ⟨v,hv,rv⟩:=(Reps.keeps kp _ _ rx).get hq;refine ⟨⟨xs,v,SqL.of ha2,hv⟩,fun w H3 hy=>?_⟩;obtain ⟨u,t,hu,rfl,ht,rfl⟩:=hy;have:=hu xs (SqL.of ha2);rw [hv] at this;cases this;have rr:Reps U2 H2 [.int ((0+i:Nat):Int),q] [V.int ((i:Nat):Int),v]:=by
    rw [Nat.zero_add];exact reps_cons.mpr ⟨_,_,rfl,repI U2 H2 _,Reps.one rv⟩
   obtain ⟨e2,r2⟩:=new_tup d ht rr;exact ⟨U2,e2,r2⟩
  ·refine ⟨xs,SqL.of (kp.lst a (.l xs) ua ha),?_⟩
   rw [rx.length];unfold enumP;simp
def vAug (i:Nat) (g:Int→Int→Int) (f:VX):VF:=fun ρ=>match xVar i ρ,f ρ with
 | some (.int x),some (.int y)=>some (.nx (ρ.set i (some (.int (g x y),.shr))))
 | _,_=>none
def vPar (i j:Nat) (f:VL):VF:=fun ρ=>(f ρ).bind fun ps=>match ps with
 | [p,q]=>some (.nx ((ρ.set i (some (p,.shr))).set j (some (q,.shr))))
 | _=>none
def vUnp (tg:VTg) (f:VX):VF:=fun ρ=>(f ρ).bind fun p=>(tg p ρ).map Out.nx
def xChain (g g':PV→PV→Option PV) (fa fb fc:VX):VX:=fun ρ=>(fa ρ).bind fun p=>(fb ρ).bind fun q=>match g p q with
 | some (.bl true)=>(fc ρ).bind fun r=>g' q r
 | some (.bl false)=>some (.bl false)
 | _=>none
theorem ve_chain {ma mb mc:Md}{r r':R2}{ta tb tc:TE}{fa fb fc:VX}{g g':PV→PV→Option PV}(hr:R2V .shr r g) (hr':R2V .shr r' g') (ha:VE ma ta fa) (hb:VE mb tb fb) (hc:VE mc tc fc):VE .shr (tChain r r' ta tb tc) (xChain g g' fa fb fc):=by
 intro U O H σ ρ Q z s e k;obtain ⟨p,hp,e⟩:=Za.mp e;obtain ⟨q,hq,e⟩:=Za.mp e;refine ha.bor U O H σ ρ _ p s hp fun v H1 U1 ex1 r1=>?_;refine hb.bor U1 O H1 σ ρ _ q (s.ext ex1) hq fun w H2 U2 ex2 r2=>?_;have s2:=(s.ext ex1).ext ex2;cases hg:g p q with
 | none=>simp only [hg] at e;cases e
 | some b =>
  refine hr U2 H2 p q b v w _ ex2.dU (Bor.keeps ex2.keeps ex2.same r1) r2 hg fun u H3 U3 ex3 r3=>?_;have s3:=s2.ext ex3;have ex13:=ex1.trans (ex2.trans ex3);simp only [hg] at e;cases b with
  | bl c =>
   have hu:=(rep_bl (U:=U3) (H:=H3)).mp r3;subst hu;refine ⟨c,rfl,?_⟩;cases c with
   | true =>
    obtain ⟨r,hrr,e⟩:=Za.mp e;show tc σ H3 _;refine hc.bor U3 O H3 σ ρ _ r s3 hrr fun w' H4 U4 ex4 r4=>?_;exact hr' U4 H4 q r z w w' Q ex4.dU (Bor.keeps (ex3.trans ex4).keeps (ex3.trans ex4).same r2) r4 e fun u H5 U5 ex5 r5=>k u H5 U5 (ex13.trans (ex4.trans ex5)) r5
   | false =>
    cases e;exact k _ H3 U3 ex13 (repB U3 H3 _)
  | _=>cases e
def keyP:PV→Option Key
 | .int i=>some (.inl i)
 | .str x=>some (.inr x)
 | _=>none
def valP:List (Key×PV)→Key→Option PV
 | [],_=>none
 | (k,v)::r,x=>if k=x then some v else valP r x
theorem key_val {U:AS}{H:Hp}{p:PV}{v:V}{k:Key}(h:Bor U H p v) (hk:keyP p=some k):v=kV k:=by
 cases p<;>simp only [keyP] at hk<;>first|cases hk|skip
 ·exact (rep_int (U:=U) (H:=H)).mp h
 ·exact (rep_str (U:=U) (H:=H)).mp h
theorem valV_cons (k:Key) (v:V) (r:List (Key×V)) (x:Key):valV ((k,v)::r) x=if k=x then some v else valV r x:=by
 unfold valV;rw [List.find?_cons];by_cases h:k=x
 ·simp [h]
 ·simp [h]
theorem RepK.val {U:AS}{H:Hp}:∀{ks:List (Key×PV)}{kvs:List (Key×V)},RepK U H ks kvs→∀x,(valP ks x=none∧valV kvs x=none)∨∃p v,valP ks x=some p∧valV kvs x=some v∧Rep U H p v
 | [],kvs,h,x=>by rw [repK_nil.mp h];exact .inl ⟨rfl,rfl⟩
 | (k,p)::ks,kvs,h,x=>by
  obtain ⟨v,r,rfl,h1,h2⟩:=repK_cons.mp h;rw [valV_cons];show ((if k=x then some p else valP ks x)=none∧_)∨∃p' v',(if k=x then some p else valP ks x)=some p'∧_;by_cases hx:k=x
  ·simp only [hx,if_true]
   exact .inr ⟨p,v,rfl,rfl,h1⟩
  ·simp only [hx,if_false]
   exact RepK.val h2 x
def xDGet (f g:VX):VX:=x2 (fun d y=>match d with
 | .dct ks=>(keyP y).bind (valP ks)
 | _=>none) f g
theorem ve_dget {m m':Md}{td ty:TE}{f g:VX}(h:VE m td f) (hg:VE m' ty g):VE .shr (tDGet td ty) (xDGet f g):=by
 intro U O H σ ρ Q z s e k;obtain ⟨p,hp,e⟩:=Za.mp e;obtain ⟨q,hq,e⟩:=Za.mp e;refine h.bor U O H σ ρ _ p s hp fun v H1 U1 ex1 r1=>hg.bor U1 O H1 σ ρ _ q (s.ext ex1) hq fun w H2 U2 ex2 r2=>?_;cases p with
 | dct ks =>
  obtain ⟨a,kvs,rfl,ha,rk⟩:=Bor.keeps (p:=.dct ks) ex2.keeps ex2.same r1;obtain ⟨x,hx,e⟩:=Za.mp e;have hw:=key_val r2 hx;subst hw;rcases rk.val x with ⟨n1,_⟩|⟨p,u,e1,e2,ru⟩
  ·rw [n1] at e;cases e
  ·rw [e1] at e;cases e
   exact ⟨a,u,rfl,.inl ⟨kvs,x,ha,rfl,e2.symm⟩,k _ H2 U2 (ex1.trans ex2) ru⟩
 | _=>cases e
def xDIn (neg:Bool) (f g:VX):VX:=x2 (fun y d=>match d with
 | .dct ks=>(keyP y).map fun k=>.bl (if neg then !(valP ks k).isSome else (valP ks k).isSome)
 | _=>none) f g
theorem ve_din {m m':Md}{td ty:TE}{f g:VX}(h:VE m ty f) (hg:VE m' td g):VE .shr (tDIn ty td) (xDIn false f g):=by
 intro U O H σ ρ Q z s e k;obtain ⟨q,hq,e⟩:=Za.mp e;obtain ⟨p,hp,e⟩:=Za.mp e;refine h.bor U O H σ ρ _ q s hq fun w H1 U1 ex1 r1=>hg.bor U1 O H1 σ ρ _ p (s.ext ex1) hp fun v H2 U2 ex2 r2=>?_;cases p with
 | dct ks =>
  obtain ⟨a,kvs,rfl,ha,rk⟩:=r2;obtain ⟨x,hx,rfl⟩:=Zb.mp e;have hw:=key_val r1 hx;subst hw;rcases rk.val x with ⟨n1,n2⟩|⟨p,u,e1,e2,ru⟩
  ·refine ⟨a,none,rfl,.inl ⟨kvs,x,ha,rfl,n2.symm⟩,k _ H2 U2 (ex1.trans ex2) ?_⟩
   rw [n1];exact repB U2 H2 _
  ·refine ⟨a,some u,rfl,.inl ⟨kvs,x,ha,rfl,e2.symm⟩,k _ H2 U2 (ex1.trans ex2) ?_⟩
   rw [e1];exact repB U2 H2 _
 | _=>cases e
theorem ve_dnotin {m m':Md}{td ty:TE}{f g:VX}(h:VE m ty f) (hg:VE m' td g):VE .shr (tDNotIn ty td) (xDIn true f g):=by
 intro U O H σ ρ Q z s e k;obtain ⟨q,hq,e⟩:=Za.mp e;obtain ⟨p,hp,e⟩:=Za.mp e;refine h.bor U O H σ ρ _ q s hq fun w H1 U1 ex1 r1=>hg.bor U1 O H1 σ ρ _ p (s.ext ex1) hp fun v H2 U2 ex2 r2=>?_;cases p with
 | dct ks =>
  obtain ⟨a,kvs,rfl,ha,rk⟩:=r2;obtain ⟨x,hx,rfl⟩:=Zb.mp e;have hw:=key_val r1 hx;subst hw;rcases rk.val x with ⟨n1,n2⟩|⟨p,u,e1,e2,ru⟩
  ·refine ⟨a,none,rfl,.inl ⟨kvs,x,ha,rfl,n2.symm⟩,k _ H2 U2 (ex1.trans ex2) ?_⟩
   rw [n1];exact repB U2 H2 _
  ·refine ⟨a,some u,rfl,.inl ⟨kvs,x,ha,rfl,e2.symm⟩,k _ H2 U2 (ex1.trans ex2) ?_⟩
   rw [e1];exact repB U2 H2 _
 | _=>cases e
theorem hu4_of {A:Around}{k:Nat}(hr:Room k A):A.units + (3+1) < cLine:=Nat.lt_of_le_of_lt (Nat.add_le_add_left (by decide:4≤64) _) hr.units
open PySem.W
theorem vals_are:∀{ns:List Int}{us:List Value},IntsAre us ns→Vals (ns.map V.int) us
 | _,_,.nil=>.nil
 | _,_,.cons n t h=>.cons ⟨t,rfl⟩ (vals_are h)
theorem ints_of_get:∀{ns:List Int}{us:List Value},us.length=ns.length→(∀(j:Nat) (v:Value),us[j]?=some v→∃n t,ns[j]?=some n∧v=Value.int n t)→IntsAre us ns
 | [],[],_,_=>.nil
 | [],_::_,h,_=>nomatch h
 | _::_,[],h,_=>nomatch h
 | n::ns,u::us,h,k=>by
  obtain ⟨m,t,e,rfl⟩:=k 0 u rfl;simp at e;subst e;exact .cons _ _ (ints_of_get (by simpa using h) fun j v hv=>by simpa using k (j+1) v (by simpa using hv))
theorem kv_keys:∀{kvs:List (Key×V)}{vs:List (Key×Value)},KV kvs vs→kvs.map (·.1)=vs.map (·.1)
 | _,_,.nil=>rfl
 | _,_,.cons r t=>by rw [Zh,Zh,r.1,kv_keys t]
theorem key_int {P:Program}{w:World}{n:Int}{v:Value}(h:(mixKind P w).is (Sum.inl n) v=true):∃t,v=Value.int n t :=
 Value.isInt_shape (k:=n) (v:=v) h
def rSrtD:List V→Hp→VK→Prop:=fun xs H Q=>∃(a:Addr) (kvs:List (Key×V)) (ns:List Int),xs = [.ref a]∧Rd H a (.dK kvs)∧kvs.map (·.1)=ns.map Sum.inl∧ns.length < 64 ∧
 ∀ns':List Int,ns'.Perm ns→ns'.Pairwise (·≤·)→∀l,H l=none→Q (.ref l) (upd H l (.lst (ns'.map V.int)))
theorem call_sortedD {X:Cx}(hc:X.calm=true):CallR X (.builtin "sorted") rSrtD:=by
 intro pins s σ H xs us Q I r h;obtain ⟨a,kvs,ns,rfl,ha,hk,h64,q⟩:=h;obtain ⟨u,rfl,rx⟩:=vals1 r;cases rx;obtain ⟨z,hd,vs,rel,dd⟩:=dk_rd I.hok ha;have hlen:vs.length=ns.length:=by
  have e1:=rel.len;have e2:=congrArg List.length hk;simp only [Zd] at e2;omega
 refine Calls.call_function_entry kind_sorted plain_sorted entry_sorted (args_sorted1 _) ?_;unfold Builtin.«sorted»;refine wpAny_bind (m:=checkCount "sorted" 1 1 _) (wpAny_pure ?_);obtain ⟨ep,hat⟩:=dd.dictAt;refine wpAny_bind (kdu_collect (A:=X.A.in1) (kdl_dict (knd:=mixKind X.prog X.w) (kvs:=vs) (ep:=ep) hd) (I.ok.hd hc) hat (by rw [hlen,sizeLine_eq];omega) fun h' tk acc hkk hacc=>?_);have hl:acc.toList.length=vs.length:=by rw [Array.length_toList];exact hacc.1
 refine wpAny_bind (wpAny_newList ?_ (by rw [hl,hlen,sizeLine_eq];omega));have hI:IntsAre acc.toList ns:=by
  refine ints_of_get (by rw [hl,hlen]) fun j v hv=>?_;obtain ⟨k,x,hx,his⟩:=hacc.2 j v (by rw [←Array.getElem?_toList];exact hv);have hkj:(vs.map (·.1))[j]?=some k:=by rw [Zj,hx];rfl
  rw [←kv_keys rel,hk,Zj] at hkj;obtain ⟨n,hn,rfl⟩:=Zb.mp hkj;obtain ⟨t,rfl⟩:=key_int his;exact ⟨n,t,hn,rfl⟩
 have hoL:(h'.push (seqObj "list" acc.toList.toArray 0)).get? h'.objs.size=some (seqObj "list" acc.toList.toArray 0):=Heap.get?_push_size _ rfl;refine wpAny_bind (wpAny_holding (wpAny_call_entry slot_list_sort ⟨_,hoL,rfl⟩ entry_list_sort (list_sort_tree hoL hI (by rw [hl,hlen];exact h64) fun out ns' a1 a2 a3=>⟨_,rfl,?_⟩) (args_list_sort _)));refine wpAny_pure ⟨_,rfl,?_⟩;have hlt:h'.objs.size < (h'.push (seqObj "list" acc.toList.toArray 0)).objs.size:=by rw [size_push'];exact Nat.lt_succ_self _
 obtain ⟨e,he⟩:=sortedHeap_at (out:=out) hoL;have I1:Inv X pins σ H { s with heap:=h',toks:=tk }:=I.kept (t':=tk) hkk;have kp:∀b o,h'.get? b=some o→(sortedHeap (h'.push (seqObj "list" acc.toList.toArray 0)) h'.objs.size acc.toList out).get? b=some o:=fun b o hb=>by
  have hb':=Heap.lt_size hb;rw [sortedHeap_old (Nat.ne_of_lt hb') (by rw [size_push'];exact Nat.lt_succ_of_lt hb')];exact Heap.get?_push_of_some _ hb
 refine ⟨.ref h'.objs.size,_,I1.laid (t':=tk) kp (Nat.le_refl _) (show ObjOk X.prog X.w _ _ _ (.lst (ns'.map V.int)) from ⟨?_,out.toList,e,vals_are a1,by simpa using he⟩),rfl,q ns' a2 a3 _ (I1.hok.fresh (Nat.le_refl _))⟩;rw [Zd,a2.length_eq,sizeLine_eq];omega
end L2
namespace L2
end L2
namespace PySem
open Sem (wp)
end PySem
namespace L2
open PySem PySem.Spec PyProof.Rows PySem.W
end L2
namespace L2
open PySem PySem.Spec PyProof.Rows
theorem perm_sorted:∀{a b:List Int},a.Perm b→a.Pairwise (·≤·)→b.Pairwise (·≤·)→a=b
 | [],b,p,_,_=>(List.perm_nil.mp p.symm).symm ▸ rfl
 | x::a,[],p,_,_=>nomatch (List.perm_nil.mp p)
 | x::a,y::b,p,ha,hb=>by
  have h1:=Zm1.mp ha;have h2:=Zm1.mp hb;have e:x=y:=by
   have hx:x∈y::b:=p.mem_iff.mp Zf;have hy:y∈x::a:=p.mem_iff.mpr Zf;have l1:y≤x:=by
    rcases Zk.mp hx with rfl|hx
    ·exact Int.le_refl _
    ·exact h2.1 x hx
   have l2:x≤y:=by
    rcases Zk.mp hy with rfl|hy
    ·exact Int.le_refl _
    ·exact h1.1 y hy
   omega
  subst e;rw [perm_sorted ((List.perm_cons x).mp p) h1.2 h2.2]
def keysI:List (Key×PV)→Option (List Int)
 | []=>some []
 | (.inl k,_)::r=>(keysI r).map (k::·)
 | _=>none
theorem keysI_map {U:AS}{H:Hp}:∀{ks:List (Key×PV)}{kvs:List (Key×V)}{ns:List Int},RepK U H ks kvs→keysI ks=some ns→kvs.map (·.1)=ns.map Sum.inl
 | [],kvs,ns,h,e=>by rw [repK_nil.mp h];cases e;rfl
 | (.inl k,p)::ks,kvs,ns,h,e=>by
  obtain ⟨v,r,rfl,_,h2⟩:=repK_cons.mp h;obtain ⟨ms,hm,rfl⟩:=Zb.mp e;rw [Zh,keysI_map h2 hm];rfl
 | (.inr k,p)::ks,kvs,ns,h,e=>nomatch e
end L2
namespace L2
end L2
namespace PySem
open PyProof.Rows
open PySem.W PySem.Spec
end PySem
namespace L2
open PySem PySem.Spec PyProof.Rows PySem.W
end L2
namespace L2
open PySem PySem.Spec PyProof.Rows
def rDUpd:V→List V→Hp→VK→Prop:=fun x vs H Q=>∃l b kvs more,x=.ref l∧vs = [.ref b]∧l≠b∧H l=some (.dK kvs)∧Rd H b (.dK more)∧kvs.length+more.length≤sizeLine∧Q .non (upd H l (.dK (mergeK kvs more)))
theorem mt_dupd {X:Cx}:MtM X "dict.update" rDUpd:=by
 intro pins s σ H x vs v us Q I rx rv h;obtain ⟨l,b,kvs,more,rfl,rfl,hne,hl,hb,hz,q⟩:=h;cases rx;obtain ⟨u,rfl,ru⟩:=rv.one;cases ru;obtain ⟨z1,hd1,vs1,rel1,dd1⟩:=dk_of I.hok hl;obtain ⟨z2,hd2,vs2,rel2,dd2⟩:=dk_rd I.hok hb;refine call_meetsIn F.slot_dict_update dd1.typeIs F.entry_dict_update (F.args_dict_update_2 _ _) (meets_dict_update (mixKind X.prog X.w) l b hne hd2) ⟨vs1,vs2,dd1,dd2,by rw [←rel1.length,←rel2.length];exact hz,fun h' e1 e2 e3=>?_⟩;have he:∃q,h'.get? l=some q:=let ⟨q,_,_,hq,_⟩:=e1;⟨q,hq⟩;exact ⟨.non,_,d_write (t':=s.toks) I (by rw [hl];exact True.intro) e3 he (dk_new (by have:=length_mergeK more kvs;omega) hd1 (rel2.merge rel1) e1),rfl,q⟩
def rTupO (K:PySem.W.Frag):List V→Hp→VK→Prop:=fun xs H Q=>∃p ys,xs = [.ref p]∧((SqL K H p ys∧∀l,H l=none→Q (.ref l) (upd H l (.tup ys)))∨(SqT K H p ys∧Q (.ref p) H))
theorem call_tuple_ofK {X:Cx}{K:PySem.W.Frag}(hK:X.K=K):CallR X (.type "tuple") (rTupO K):=by
 subst hK;exact call_tuple_of
def pTupO:List PV→Option PV
 | [.lst ps]=>some (.tup ps)
 | _=>none
theorem rl_tupO {K:PySem.W.Frag}:RLV .shr (rTupO K) pTupO:=by
 intro U H ps z vs Q d hb e k
 match ps,e with
 | [.lst qs],e =>
  cases e;obtain ⟨v,rfl,a,xs,rfl,ha,rx⟩:=hb.one;refine ⟨a,xs,rfl,.inl ⟨SqL.of ha,fun l hl=>?_⟩⟩;obtain ⟨e2,r2⟩:=new_tup d hl rx;exact k _ _ U e2 r2
def intsP:List PV→Option (List Int)
 | []=>some []
 | .int k::r=>(intsP r).map (k::·)
 | _=>none
theorem intsP_map:∀(ns:List Int),intsP (ns.map PV.int)=some ns
 | []=>rfl
 | n::ns=>by show (intsP (ns.map PV.int)).map (n::·)=_;rw [intsP_map ns];rfl
def insZ (x:Int):List Int→List Int
 | []=>[x]
 | y::r=>if x≤y then x::y::r else y::insZ x r
def srtZ:List Int→List Int
 | []=>[]
 | x::r=>insZ x (srtZ r)
theorem insZ_perm (x:Int):∀l:List Int,(insZ x l).Perm (x::l)
 | []=>.refl _
 | y::r=>by
  unfold insZ;split
  ·exact .refl _
  ·exact ((insZ_perm x r).cons y).trans (.swap x y r)
theorem srtZ_perm:∀l:List Int,(srtZ l).Perm l
 | []=>.refl _
 | x::r=>(insZ_perm x (srtZ r)).trans ((srtZ_perm r).cons x)
theorem insZ_pw (x:Int):∀{l:List Int},l.Pairwise (·≤·)→(insZ x l).Pairwise (·≤·)
 | [],_=>List.pairwise_singleton _ _
 | y::r,h=>by
  have h':=Zm1.mp h;unfold insZ;split
  ·rename_i hxy
   refine Zm1.mpr ⟨fun z hz=>?_,h⟩;rcases Zk.mp hz with rfl|hz
   ·exact hxy
   ·exact Int.le_trans hxy (h'.1 z hz)
  ·rename_i hxy
   refine Zm1.mpr ⟨fun z hz=>?_,insZ_pw x h'.2⟩;rcases Zk.mp ((insZ_perm x r).mem_iff.mp hz) with rfl|hz
   ·omega
   ·exact h'.1 z hz
theorem srtZ_pw:∀l:List Int,(srtZ l).Pairwise (·≤·)
 | []=>.nil
 | x::r=>insZ_pw x (srtZ_pw r)
def putP (ks:List (Key×PV)) (k:Key) (v:PV):List (Key×PV):=if (ks.any fun kv=>decide (kv.1=k))=true then ks.map (fun kv=>if kv.1=k then (kv.1,v) else kv) else ks++[(k,v)]
def mergeP (ks more:List (Key×PV)):List (Key×PV):=more.foldl (fun acc kv=>putP acc kv.1 kv.2) ks
section
variable {U:AS}{H:Hp}
theorem RepK.length:∀{ks:List (Key×PV)}{xs:List (Key×V)},RepK U H ks xs→xs.length=ks.length
 | [],xs,h=>by rw [repK_nil.mp h];rfl
 | k::ks,xs,h=>by
  obtain ⟨v,r,rfl,_,h2⟩:=repK_cons.mp h;simp [RepK.length h2]
theorem RepK.any (k:Key):∀{ks:List (Key×PV)}{xs:List (Key×V)},RepK U H ks xs→(xs.any fun kv=>decide (kv.1=k))=ks.any fun kv=>decide (kv.1=k)
 | [],xs,h=>by rw [repK_nil.mp h];rfl
 | kp::ks,xs,h=>by
  obtain ⟨v,r,rfl,_,h2⟩:=repK_cons.mp h;rw [List.any_cons,List.any_cons,RepK.any k h2]
theorem RepK.repl (k:Key) {p:PV}{v:V}(hp:Rep U H p v):∀{ks:List (Key×PV)}{xs:List (Key×V)},RepK U H ks xs→RepK U H (ks.map fun kv=>if kv.1=k then (kv.1,p) else kv) (xs.map fun kv=>if kv.1=k then (kv.1,v) else kv)
 | [],xs,h=>by rw [repK_nil.mp h];exact repK_nil.mpr rfl
 | kp::ks,xs,h=>by
  obtain ⟨u,r,rfl,h1,h2⟩:=repK_cons.mp h;rw [Zh,Zh];by_cases e:kp.1=k
  ·simp only [e,if_true]
   exact repK_cons.mpr ⟨v,_,rfl,hp,RepK.repl k hp h2⟩
  ·simp only [e,if_false]
   exact repK_cons.mpr ⟨u,_,rfl,h1,RepK.repl k hp h2⟩
theorem RepK.snoc (k:Key) {p:PV}{v:V}(hp:Rep U H p v):∀{ks:List (Key×PV)}{xs:List (Key×V)},RepK U H ks xs→RepK U H (ks++[(k,p)]) (xs++[(k,v)])
 | [],xs,h=>by rw [repK_nil.mp h];exact repK_cons.mpr ⟨v,[],rfl,hp,repK_nil.mpr rfl⟩
 | kp::ks,xs,h=>by
  obtain ⟨u,r,rfl,h1,h2⟩:=repK_cons.mp h;exact repK_cons.mpr ⟨u,_,rfl,h1,RepK.snoc k hp h2⟩
theorem RepK.put (k:Key) {p:PV}{v:V}(hp:Rep U H p v) {ks:List (Key×PV)}{xs:List (Key×V)}(h:RepK U H ks xs):RepK U H (putP ks k p) (putK xs k v):=by
 unfold putP putK;rw [h.any k];split
 ·exact h.repl k hp
 ·exact h.snoc k hp
theorem RepK.merge:∀{more:List (Key×PV)}{ys:List (Key×V)}{ks:List (Key×PV)}{xs:List (Key×V)},RepK U H more ys→RepK U H ks xs→RepK U H (mergeP ks more) (mergeK xs ys)
 | [],ys,ks,xs,h,g=>by rw [repK_nil.mp h];exact g
 | kp::more,ys,ks,xs,h,g=>by
  obtain ⟨u,r,rfl,h1,h2⟩:=repK_cons.mp h;show RepK U H (mergeP (putP ks kp.1 kp.2) more) (mergeK (putK xs kp.1 u) r);exact RepK.merge h2 (g.put kp.1 h1)
end
def vDPut (i:Nat) (fk fv:VX):VF:=fun ρ=>(fv ρ).bind fun q=>(fk ρ).bind fun y=>(keyP y).bind fun k=>wr i (fun p=>match p with
 | .dct ks=>if small? ks.length then some (.dct (putP ks k q)) else none
 | _=>none) ρ
theorem vs_dput {m:Md}{i:Nat}{ty tv:TE}{fk fv:VX}(hk:VE m ty fk) (hv:VE .shr tv fv):VS (sDPut (tVar i) ty tv) (vDPut i fk fv):=by
 intro U O H σ ρ D o s e q;obtain ⟨z,hz,e⟩:=Za.mp e;obtain ⟨y,hy,e⟩:=Za.mp e;obtain ⟨k,hk',e⟩:=Za.mp e;obtain ⟨p,p',hp,hg,rfl⟩:=wr_some e;obtain ⟨v,hv',a,rfl,oa,tp⟩:=s.slot i p .own hp;cases p with
 | dct ks =>
  obtain ⟨hs,rfl⟩:=some_if hg;refine hv U O H σ ρ _ z s hz fun u H1 U1 ex1 r1=>⟨.ref a,hv',?_⟩
  have s1:=s.ext ex1;refine hk.bor U1 O H1 σ ρ _ y s1 hy fun x H2 U2 ex2 r2=>?_;have s2:=s1.ext ex2;have hx:=key_val r2 hk';subst hx;obtain ⟨kvs,hx,rx⟩:=tp;have hx2:=ex2.same _ _ (ex1.same _ _ hx);have rx2:=RepK.keeps (ex1.trans ex2).keeps _ _ rx;have k0:=keeps_upd (u':=.dK (putK kvs k u)) s2 oa hx2 (fun _ z=>nomatch z);obtain ⟨s3,t3,_⟩:=s2.write (p':=.dct (putP ks k z)) (u:=.dK (putK kvs k u)) hp hv' (fun _ z=>nomatch z) ⟨_,upd_same,RepK.put k (Rep.keeps k0 _ _ (Rep.keeps ex2.keeps _ _ r1)) (RepK.keeps k0 _ _ rx2)⟩;exact ⟨a,_,rfl,.k hx2 (by rw [rx.length];exact small_lt hs),q U2 O _ σ s3 ((ex1.trans ex2).tr.trans t3)⟩
 | _=>cases hg
def vDUpd (i:Nat) (f:VX):VF:=fun ρ=>(f ρ).bind fun q=>wr i (fun p=>match p,q with
 | .dct ks,.dct more=>if small? (ks.length+more.length) then some (.dct (mergeP ks more)) else none
 | _,_=>none) ρ
theorem vs_dupd {Kf:PySem.W.Frag}{i:Nat}{te:TE}{f:VX}(h:VE .shr te f):VS (tDrop (tBM Kf "dict" rDUpd (tVar i) (tCons te tNil))) (vDUpd i f):=by
 intro U O H σ ρ D o s e q;obtain ⟨y,hy,e⟩:=Za.mp e;obtain ⟨p,p',hp,hg,rfl⟩:=wr_some e;obtain ⟨v,hv,a,rfl,oa,tp⟩:=s.slot i p .own hp;cases p with
 | dct ks =>
  cases y with
  | dct more =>
   obtain ⟨xs,hx,rx⟩:=tp;obtain ⟨hs,rfl⟩:=some_if hg;refine ⟨.ref a,hv,.inr (.inr (.inl ⟨rfl,.inl ⟨xs,hx⟩⟩)),h U O H σ ρ _ _ s hy fun w H1 U1 ex r1=>?_⟩;obtain ⟨b,ys,rfl,ub,hb,rz⟩:=rep_dct.mp r1;have s1:=s.ext ex;have hx1:=ex.same _ _ hx;have rx1:=RepK.keeps ex.keeps _ _ rx;have k0:=keeps_upd (u':=.dK (mergeK xs ys)) s1 oa hx1 (fun _ z=>nomatch z);obtain ⟨s2,t2,_⟩:=s1.write (p':=.dct (mergeP ks more)) (u:=.dK (mergeK xs ys)) hp hv (fun _ z=>nomatch z) ⟨_,upd_same,RepK.merge (RepK.keeps k0 _ _ rz) (RepK.keeps k0 _ _ rx1)⟩;exact ⟨a,b,xs,ys,rfl,rfl,fun z=>s1.dis b ub (by rw [←z];exact oa),hx1,hb,by rw [rx.length,rz.length];exact small_le hs,q U1 O _ σ s2 (ex.tr.trans t2)⟩
  | _=>cases hg
 | _=>cases hg
theorem ve_dnew:VE .fr tDNewK (fun _=>some (.dct [])):=by
 intro U O H σ ρ Q z s e k;cases e;intro p hp;obtain ⟨e2,r2⟩:=new_dct (ks:=[]) (xs:=[]) s.dU hp (repK_nil.mpr rfl);exact k _ _ U e2 r2
def xDisp1 (fk fv:VX):VX:=fun ρ=>(fk ρ).bind fun y=>(fv ρ).bind fun q=>(keyP y).map fun k=>.dct [(k,q)]
theorem ve_disp1 {m:Md}{tk tv:TE}{fk fv:VX}(hk:VE m tk fk) (hv:VE .shr tv fv):VE .fr (tDisp [(tk,tv)]) (xDisp1 fk fv):=by
 intro U O H σ ρ Q z s e k;obtain ⟨y,hy,e⟩:=Za.mp e;obtain ⟨q,hq,e⟩:=Za.mp e;obtain ⟨x,hx,rfl⟩:=Zb.mp e;intro p hp;have ex0:Ext U H U (upd H p (.dK [])):=.laid s.dU hp;have s0:=s.ext ex0;refine hk.bor U O _ σ ρ _ y s0 hy fun v H1 U1 ex1 r1=>hv U1 O H1 σ ρ _ q (s0.ext ex1) hq fun u H2 U2 ex2 r2=>?_;have hvx:=key_val r1 hx;subst hvx;have e02:=ex0.trans (ex1.trans ex2);have hp2:H2 p=some (.dK []):=ex2.same _ _ (ex1.same _ _ upd_same);have hpU:¬U2 p:=fun h=>by
  rcases ex2.new p h with h|h
  ·rcases ex1.new p h with h|h
   ·exact s.dU p h hp
   ·rw [upd_same] at h;cases h
  ·rw [ex1.same _ _ upd_same] at h;cases h
 refine ⟨hp2,[(x,u)],rfl,by simp,?_⟩;have hne:∀b,U2 b→b≠p:=fun b hb z=>hpU (z ▸ hb);have ex3:Ext U H U2 (upd H2 p (.dK (mergeK [] [(x,u)]))):=by
  refine ⟨fun b o hb=>?_,e02.mono,e02.new,fun b hb=>?_⟩
  ·rw [upd_ne (ne_of_none hb hp)];exact e02.same b o hb
  ·rw [upd_ne (hne b hb)];exact e02.dU b hb
 have kp:Keeps U2 H2 U2 (upd H2 p (.dK (mergeK [] [(x,u)]))):=by
  refine ⟨fun _ h=>h,fun b ys ub hb=>?_,fun b ys ub hb=>?_,fun b ys ub hb=>?_,fun b ys hb=>?_⟩
  ·rw [upd_ne (hne b ub)];exact hb
  ·rcases hb with hb|⟨oo,hb⟩
   ·exact .inl (by rw [upd_ne (hne b ub)];exact hb)
   ·exact .inr ⟨oo,by rw [upd_ne (hne b ub)];exact hb⟩
  ·rcases hb with hb|⟨oo,hb⟩
   ·exact .inl (by rw [upd_ne (hne b ub)];exact hb)
   ·exact .inr ⟨oo,by rw [upd_ne (hne b ub)];exact hb⟩
  ·rw [upd_ne (ne_of hb hp2 (fun z=>nomatch z))];exact hb
 exact k _ _ U2 ex3 ⟨p,rfl,hp,hpU,_,upd_same,repK_cons.mpr ⟨u,[],rfl,Rep.keeps kp _ _ r2,repK_nil.mpr rfl⟩⟩
structure WalkE (U0:AS) (H0:Hp) (J:It) (xs:List PV):Prop where
 go:∀(i:Nat) (U:AS) (H:Hp),Ext U0 H0 U H→(∀a,U a→H a≠none)→∀x,xs[i]?=some x→J.go i H∧∀v H',J.yld i H v H'→∃U',Ext U H U' H'∧Rep U' H' x v
 stop:∀(U:AS) (H:Hp),Ext U0 H0 U H→J.stop xs.length H
def VIb (wi:TI) (it:VL):Prop:=∀(U O:AS) (H:Hp) (σ:St) (ρ:PEnv) (R:It→Hp→Prop) (xs:List PV),SR U O H σ ρ→it ρ=some xs→(∀J H' U',Ext U H U' H'→WalkE U' H' J xs→R J H')→wi σ H R
theorem ve_compB {src:List (Option Nat)}{wi:TI}{g:TG}{tif:TT}{te:TE}{it:VL}{tg:VTg}{cond:VB}{elt:VX}(hi:VIb wi it) (hg:VG g tg) (hc:VT tif cond) (he:VE .shr te elt):VE .fr (tComp src wi g tif te) (xComp src it tg cond elt):=by
 intro U O H σ ρ Q z s e k;obtain ⟨xs,hxs,e⟩:=Za.mp e;by_cases hs:small? xs.length=true
 case neg=>rw [if_neg hs] at e;cases e
 rw [if_pos hs] at e;obtain ⟨zs,e,rfl⟩:=Zb.mp e;refine hi U O H σ ρ _ xs s hxs fun J H1 U1 ex wk=>?_;have s1:=s.ext ex;have sz:∀n,n≤xs.length→n≤sizeLine:=fun n h=>Nat.le_trans h (small_le hs);refine ⟨fun i m ys τ H'=>∃U' ρ' ps,SR U' (fun _=>False) H' τ ρ'∧Ext U1 H1 U' H'∧i≤xs.length∧m=xs.length - i∧ys.length≤i∧Reps U' H' ps ys∧(vCompL tg cond elt (xs.drop i) ρ').map (ps++·)=some zs,
  ⟨_,U1,startR src ρ,[],s1.comp src,.refl s1.dU,Nat.zero_le _,rfl,Nat.le_refl _,reps_nil.mpr rfl,by simpa using e⟩,?_⟩
 rintro i m ys τ H' ⟨U',ρ',ps,s',ex',hi',rfl,hy,rp,e'⟩;have kp:=ex'.keeps;cases hx:xs[i]? with
 | none =>
  have hl:xs.length≤i:=List.getElem?_eq_none_iff.mp hx;have hii:i=xs.length:=by omega
  subst hii;rw [List.drop_length] at e';unfold vCompL at e';simp at e';subst e';refine .inl ⟨wk.stop U' H' ex',sz _ hy,fun D hD=>?_⟩;obtain ⟨e2,r2⟩:=new_lst ex'.dU hD rp;exact k _ _ U' (ex.trans (ex'.trans e2)) (Res.pre (U1:=U1) (ex.trans ex').same r2)
 | some x =>
  have hl:=(Zg.mp hx).1;obtain ⟨hgo,hyl⟩:=wk.go i U' H' ex' s'.dU x hx;rw [drop_get hx] at e';refine .inr ⟨hgo,Nat.lt_of_le_of_lt hy (Nat.lt_of_lt_of_le hl (small_le hs)),fun v H2 yl=>?_⟩;obtain ⟨U2,ex2,rv⟩:=hyl v H2 yl;unfold vCompL at e';cases z1:tg x ρ' with
  | none=>rw [z1] at e';cases e'
  | some ρ1 =>
   rw [z1] at e';refine hg U2 _ H2 τ ρ' ρ1 x v _ (s'.ext ex2) rv z1 fun τ3 s3=>?_;cases z2:cond ρ1 with
   | none=>simp only [z2] at e';cases e'
   | some b =>
    simp only [z2] at e';refine hc U2 _ H2 τ3 ρ1 _ b s3 z2 fun H4 U4 ex4=>?_;have ex24:=ex2.trans ex4;cases b with
    | false=>exact ⟨_,by omega,U4,ρ1,ps,s3.ext ex4,ex'.trans ex24,hl,rfl,by omega,Reps.keeps ex24.keeps _ _ rp,e'⟩
    | true =>
     cases z3:elt ρ1 with
     | none=>simp only [z3] at e';cases e'
     | some y =>
      simp only [z3] at e';refine he U4 _ H4 τ3 ρ1 _ y (s3.ext ex4) z3 fun w H5 U5 ex5 r5=>?_;refine ⟨_,by omega,U5,ρ1,ps++[y],(s3.ext ex4).ext ex5,(ex'.trans ex24).trans ex5,hl,rfl,by simp;omega,Reps.append (Reps.keeps (ex24.trans ex5).keeps _ _ rp) (Reps.one r5),?_⟩;rw [Option.map_map] at e';rw [←e'];congr 1;funext l;simp
theorem q_nx {F G:VF}{ρ ρ':PEnv}(h:F ρ=some (.nx ρ')):vSeq F G ρ=G ρ':=by unfold vSeq;rw [h]
theorem q_rt {F G:VF}{ρ:PEnv}{p:PV}{b:Bool}(h:F ρ=some (.rt p b)):vSeq F G ρ=some (.rt p b):=by unfold vSeq;rw [h]
theorem q_for {it:VL}{tg:VTg}{body:VF}{ρ:PEnv}{xs:List PV}(h:it ρ=some xs):vFor it tg body ρ=vLoop tg body xs ρ:=by unfold vFor;rw [h];rfl
theorem q_fnrt {k n:Nat}{fr b:Bool}{F:VF}{ps:List PV}{p:PV}(hl:ps.length=k) (h:F (initR n ps)=some (.rt p b)) (hb:(fr&&!b)=false):fnM k n fr F ps=some p:=by
 unfold fnM;rw [if_pos hl,h];simp only [hb,Bool.false_eq_true,if_false]
theorem q_fnnx {k n:Nat}{F:VF}{ps:List PV}{ρ:PEnv}(hl:ps.length=k) (h:F (initR n ps)=some (.nx ρ)):fnM k n false F ps=some .non:=by
 unfold fnM;rw [if_pos hl,h];rfl
theorem q_cons {tg:VTg}{body:VF}{x:PV}{xs:List PV}{ρ ρ1 ρ':PEnv}(h1:tg x ρ=some ρ1) (h2:body ρ1=some (.nx ρ')):vLoop tg body (x::xs) ρ=vLoop tg body xs ρ':=by
 show (match tg x ρ with|none=>none|some ρ1=>_)=_;rw [h1];show (match body ρ1 with|some (.nx ρ')=>vLoop tg body xs ρ'|some (.ct ρ')=>vLoop tg body xs ρ'|some (.bk ρ')=>some (.nx ρ')|some (.rt p b)=>some (.rt p b)|none=>none)=_;rw [h2]
theorem q_set {i:Nat}{f:VX}{ρ:PEnv}{p:PV}(h:f ρ=some p):vSetS i f ρ=some (.nx (ρ.set i (some (p,.shr)))):=by unfold vSetS;rw [h];rfl
theorem q_setO {i:Nat}{f:VX}{ρ:PEnv}{p:PV}(h:f ρ=some p):vSetO i f ρ=some (.nx (ρ.set i (some (p,.own)))):=by unfold vSetO;rw [h];rfl
theorem q_xL {g:List PV→Option PV}{fa:VL}{ρ:PEnv}{ps:List PV}(h:fa ρ=some ps):xL g fa ρ=g ps:=by unfold xL;rw [h];rfl
theorem q_x2 {g:PV→PV→Option PV}{f h:VX}{ρ:PEnv}{p q:PV}(h1:f ρ=some p) (h2:h ρ=some q):x2 g f h ρ=g p q:=by unfold x2;rw [h1,h2];rfl
theorem q_lc {f:VX}{r:VL}{ρ:PEnv}{p:PV}{ps:List PV}(h1:f ρ=some p) (h2:r ρ=some ps):lCons f r ρ=some (p::ps):=by unfold lCons;rw [h1,h2];rfl
theorem q_l1 {f:VX}{ρ:PEnv}{p:PV}(h1:f ρ=some p):lCons f lNil ρ=some [p]:=q_lc h1 rfl
theorem q_b {f:VX}{ρ:PEnv}{b:Bool}(h:f ρ=some (.bl b)):bOf f ρ=some b:=by unfold bOf;rw [h];rfl
theorem q_not {f:VB}{ρ:PEnv}{b:Bool}(h:f ρ=some b):bNot f ρ=some (!b):=by unfold bNot;rw [h];rfl
theorem q_orf {f g:VB}{ρ:PEnv}(h:f ρ=some false):bOr f g ρ=g ρ:=by unfold bOr;rw [h]
theorem q_ort {f g:VB}{ρ:PEnv}(h:f ρ=some true):bOr f g ρ=some true:=by unfold bOr;rw [h]
theorem q_andt {f g:VB}{ρ:PEnv}(h:f ρ=some true):bAnd f g ρ=g ρ:=by unfold bAnd;rw [h]
theorem q_ret {f:VX}{b:Bool}{ρ:PEnv}{p:PV}(h:f ρ=some p):vRet f b ρ=some (.rt p b):=by unfold vRet;rw [h];rfl
theorem q_ift {c:VB}{F G:VF}{ρ:PEnv}(h:c ρ=some true):vIf c F G ρ=F ρ:=by unfold vIf;rw [h]
theorem q_iff {c:VB}{F G:VF}{ρ:PEnv}(h:c ρ=some false):vIf c F G ρ=G ρ:=by unfold vIf;rw [h]
theorem q_drop {f:VX}{ρ:PEnv}{p:PV}(h:f ρ=some p):vDrop f ρ=some (.nx ρ):=by unfold vDrop;rw [h];rfl
theorem q_sm {n:Nat}(h:n≤1000000):small? n=true:=Zn h
theorem q_dput {i:Nat}{fk fv:VX}{ρ:PEnv}{x:Int}{q:PV}{ks:List (Key×PV)}(hv:fv ρ=some q) (hk:fk ρ=some (.int x)) (hp:ρ[i]?=some (some (.dct ks,.own))) (hs:ks.length≤1000000):vDPut i fk fv ρ=some (.nx (ρ.set i (some (.dct (putP ks (.inl x) q),.own)))):=by
 unfold vDPut wr;rw [hv];simp only [Option.bind_some,hk,keyP,hp,q_sm hs,if_true,Option.map_some]
theorem q_dupd {i:Nat}{f:VX}{ρ:PEnv}{ks more:List (Key×PV)}(h:f ρ=some (.dct more)) (hp:ρ[i]?=some (some (.dct ks,.own))) (hs:ks.length+more.length≤1000000):vDUpd i f ρ=some (.nx (ρ.set i (some (.dct (mergeP ks more),.own)))):=by
 unfold vDUpd wr;rw [h];simp only [Option.bind_some,hp,q_sm hs,if_true,Option.map_some]
theorem q_itL {f:VX}{ρ:PEnv}{ps:List PV}(h:f ρ=some (.lst ps)):itL f ρ=some ps:=by unfold itL;rw [h];rfl
theorem q_itT {f:VX}{ρ:PEnv}{ps:List PV}(h:f ρ=some (.tup ps)):itT f ρ=some ps:=by unfold itT;rw [h];rfl
theorem q_itE {f:VL}{ρ:PEnv}{ps:List PV}(h:f ρ=some [.lst ps]):itE f ρ=some (enumP ps):=by unfold itE;rw [h];rfl
theorem q_big (n:Int) (h:-1000000≤n∧n≤1000000):big? n=true:=by
 unfold big?;rw [Zc1,decide_eq_true_eq,decide_eq_true_eq];have:(2:Int) ^ 62=4611686018427387904:=by decide
 rw [this];omega
theorem q_itR1 {f:VL}{ρ:PEnv}{j:Int}(h:f ρ=some [.int j]) (hj:-1000000≤j∧j≤1000000):itR1 f ρ=some (rngP 0 j.toNat):=by
 unfold itR1;rw [h];show (if big? j=true then _ else _)=_;rw [q_big j hj];rfl
theorem q_itRD {f:VL}{ρ:PEnv}{i j:Int}(h:f ρ=some [.int i,.int j,.int (-1)]) (hi:-1000000≤i∧i≤1000000) (hj:-1000000≤j∧j≤1000000):itRD f ρ=some (dwnP i (i - j).toNat):=by
 unfold itRD;rw [h];show (if (big? i&&big? j&&decide ((-1:Int) = -1))=true then _ else _)=_;rw [q_big i hi,q_big j hj];rfl
theorem q_sub (i j:Int):pSub (.int i) (.int j)=some (.int (i - j)):=rfl
theorem q_eq (i j:Int):pEq (.int i) (.int j)=some (.bl (decide (i=j))):=rfl
theorem q_le (i j:Int):pLe (.int i) (.int j)=some (.bl (decide (i≤j))):=rfl
theorem q_lt (i j:Int):pLt (.int i) (.int j)=some (.bl (decide (i < j))):=rfl
theorem q_gt (i j:Int):pGt (.int i) (.int j)=some (.bl (decide (j < i))):=rfl
theorem q_ge (i j:Int):pGe (.int i) (.int j)=some (.bl (decide (j≤i))):=rfl
theorem q_lenl (ps:List PV):pLen [.lst ps]=some (.int ps.length):=rfl
theorem q_lent (ps:List PV):pLen [.tup ps]=some (.int ps.length):=rfl
theorem q_lens (ps:List Int):pLen [.scr ps]=some (.int ps.length):=rfl
theorem q_mod (i j:Int) (h:0 < j):pMod (.int i) (.int j)=some (.int (i % j)):=by
 have c:cPos i j=true:=Zn h;show (if cPos i j=true then _ else _)=_;rw [if_pos c]
theorem q_div (i j:Int) (h:0 < j) (h2:j < 1073741824):pDiv (.int i) (.int j)=some (.int (i / j)):=by
 have c:cDiv i j=true:=by unfold cDiv;rw [Zn h,Zn h2];rfl
 show (if cDiv i j=true then _ else _)=_;rw [if_pos c]
theorem q_mul (i j:Int) (h:0≤i) (h2:i < 4294967296):pMul (.int i) (.int j)=some (.int (i * j)):=by
 have e:(2:Int) ^ 64=18446744073709551616:=by decide
 have c:cMul i j=true:=by
  unfold cMul;rw [e,Zn (show -18446744073709551616 < i by omega),Zn (show i < 18446744073709551616 by omega)];rfl
 unfold pMul pIIc;simp only [c,if_true]
theorem q_at {α:Type}{l:List α}{i:Nat}{x:α}(h:l[i]?=some x):atI l (i:Int)=some x:=by
 have hl:=(Zg.mp h).1;unfold atI ixN;rw [if_pos (by omega),if_pos (by omega),Int.toNat_natCast];exact h
theorem q_cat (ps qs:List PV) (h:ps.length+qs.length≤1000000):pCat (.lst ps) (.lst qs)=some (.lst (ps++qs)):=by
 show (if small? (ps.length+qs.length)=true then _ else _)=_;rw [q_sm h];rfl
theorem q_comp {src:List (Option Nat)}{it:VL}{tg:VTg}{c:VB}{f:VX}{ρ:PEnv}{xs ys:List PV}(h:it ρ=some xs) (hs:xs.length≤1000000) (h2:vCompL tg c f xs (startR src ρ)=some ys):xComp src it tg c f ρ=some (.lst ys):=by
 unfold xComp;rw [h];show (if small? xs.length=true then _ else _)=_;rw [q_sm hs,if_pos rfl,h2];rfl
theorem q_filter {tg:VTg}{cond:VB}{elt:VX}{α:Type}(e:α→PV) (Inv:PEnv→Prop) (g:α→Option PV):∀{xs:List α}{ρ:PEnv},Inv ρ→(∀x∈xs,∀ρ,Inv ρ→∃ρ1,tg (e x) ρ=some ρ1∧Inv ρ1∧((cond ρ1=some false∧g x=none)∨∃y,cond ρ1=some true∧elt ρ1=some y∧g x=some y))→vCompL tg cond elt (xs.map e) ρ=some (xs.filterMap g)
 | [],ρ,_,_=>rfl
 | x::xs,ρ,iv,h=>by
  obtain ⟨ρ1,h1,h2,h3⟩:=h x Zf ρ iv;have ih:=q_filter e Inv g (xs:=xs) h2 fun y hy=>h y (Ze _ hy);rw [Zh];unfold vCompL;rcases h3 with ⟨h3,h4⟩|⟨y,h3,h4,h5⟩
  ·simp only [h1,h3,ih,List.filterMap_cons,h4]
  ·simp only [h1,h3,h4,ih,List.filterMap_cons,h5]
   rfl
def intsV (l:List Int):PV:=.lst (l.map PV.int)
def tupZ (e:List Int):PV:=.tup (e.map PV.int)
def dT (ns:List Int):List (Key×PV):=ns.map fun x=>(Sum.inl x,PV.bl true)
def addZ (ns:List Int) (x:Int):List Int:=if x∈ns then ns else ns++[x]
def mrgZ (ns ms:List Int):List Int:=ms.foldl addZ ns
theorem dT_len (ns:List Int):(dT ns).length=ns.length:=by unfold dT;simp
theorem dT_any (ns:List Int) (x:Int):((dT ns).any fun kv=>decide (kv.1=(Sum.inl x:Key)))=decide (x∈ns):=by
 unfold dT;rw [Bool.eq_iff_iff,List.any_map];simp
theorem dT_put (ns:List Int) (x:Int):putP (dT ns) (.inl x) (.bl true)=dT (addZ ns x):=by
 unfold putP addZ;rw [dT_any];by_cases h:x∈ns
 ·rw [if_pos (Zn h),if_pos h]
  unfold dT;rw [Zi];refine List.map_congr_left fun y _=>?_;simp only [Function.comp];split
  ·rename_i e;rfl
  ·rfl
 ·rw [if_neg (by simpa using h),if_neg h]
  unfold dT;rw [Zr];rfl
theorem dT_merge:∀(ms ns:List Int),mergeP (dT ns) (dT ms)=dT (mrgZ ns ms)
 | [],ns=>rfl
 | m::ms,ns=>by
  show mergeP (putP (dT ns) (.inl m) (.bl true)) (dT ms)=_;rw [dT_put,dT_merge ms];rfl
theorem dT_val (x:Int):∀ns:List Int,(valP (dT ns) (.inl x)).isSome=decide (x∈ns)
 | []=>by simp [dT,valP]
 | n::ns=>by
  show (if (Sum.inl n:Key)=Sum.inl x then some (PV.bl true) else valP (dT ns) (.inl x)).isSome=_;by_cases h:n=x
  ·subst h;simp
  ·rw [if_neg (fun z=>h (Sum.inl.inj z)),dT_val x ns]
   simp [Ne.symm h]
theorem dT_keys:∀ns:List Int,keysI (dT ns)=some ns
 | []=>rfl
 | n::ns=>by
  show (keysI (dT ns)).map (n::·)=_;rw [dT_keys ns];rfl
theorem mem_addZ {ns:List Int}{x y:Int}:y∈addZ ns x↔y∈ns∨y=x:=by
 unfold addZ;split
 ·rename_i h
  exact ⟨.inl,fun z=>z.elim id fun e=>e ▸ h⟩
 ·simp
theorem nodup_addZ {ns:List Int}{x:Int}(h:ns.Nodup):(addZ ns x).Nodup:=by
 unfold addZ;split
 ·exact h
 ·rename_i hx
  refine List.nodup_append.mpr ⟨h,by simp,fun a ha b hb=>?_⟩;rw [Zo1.mp hb];exact fun z=>hx (z ▸ ha)
theorem mem_mrgZ {y:Int}:∀{ms ns:List Int},y∈mrgZ ns ms↔y∈ns∨y∈ms
 | [],ns=>by simp [mrgZ]
 | m::ms,ns=>by
  show y∈mrgZ (addZ ns m) ms↔_;rw [mem_mrgZ,mem_addZ,Zk];exact ⟨fun h=>h.elim (fun h=>h.elim .inl (fun h=>.inr (.inl h))) (fun h=>.inr (.inr h)),fun h=>h.elim (fun h=>.inl (.inl h)) fun h=>h.elim (fun h=>.inl (.inr h)) .inr⟩
theorem nodup_mrgZ:∀{ms ns:List Int},ns.Nodup→(mrgZ ns ms).Nodup
 | [],ns,h=>h
 | m::ms,ns,h=>nodup_mrgZ (ms:=ms) (nodup_addZ h)
theorem mem_srtZ {y:Int}{l:List Int}:y∈srtZ l↔y∈l:=(srtZ_perm l).mem_iff
theorem srtZ_lt {l:List Int}(h:l.Nodup):(srtZ l).Pairwise (· < ·):=by
 have h1:=srtZ_pw l;have h2:(srtZ l).Nodup:=(srtZ_perm l).nodup_iff.mpr h;exact (h1.and h2).imp fun ⟨a,b⟩=>by omega
theorem rise_len:∀{l:List Int}{k n:Int},l.Pairwise (· < ·)→(∀x∈l,k≤x∧x < n)→k≤n→(l.length:Int)≤n - k
 | [],k,n,_,_,h=>by simp;omega
 | x::l,k,n,hp,h,hk=>by
  have hp':=Zm1.mp hp;have hx:=h x Zf;have:=rise_len (l:=l) (k:=x+1) (n:=n) hp'.2 (fun y hy=>by have:=hp'.1 y hy;have:=h y (Ze _ hy);omega) (by omega);simp only [Zq];omega
theorem nodup_len {l:List Int}{n:Nat}(h:l.Nodup) (hb:∀x∈l,0≤x∧x < (n:Int)):l.length≤n:=by
 have:=rise_len (k:=0) (n:=n) (srtZ_lt h) (fun x hx=>hb x (mem_srtZ.mp hx)) (by omega);rw [(srtZ_perm l).length_eq] at this;omega
def pSrtDz:List PV→Option PV
 | [.dct ks]=>(keysI ks).bind fun ns=>if decide (ns.length < 64) then some (.lst ((srtZ ns).map PV.int)) else none
 | _=>none
theorem rl_srtDz:RLV .fr rSrtD pSrtDz:=by
 intro U H ps z vs Q d hb e k
 match ps,e with
 | [.dct ks],e =>
  obtain ⟨ns,hns,e⟩:=Za.mp e;obtain ⟨h,rfl⟩:=some_if e;obtain ⟨v,rfl,a,kvs,rfl,ha,rk⟩:=hb.one;refine ⟨a,kvs,ns,rfl,ha,keysI_map rk hns,of_decide_eq_true h,fun ns' hp hs l hl=>?_⟩;rw [perm_sorted (hp.trans (srtZ_perm ns).symm) hs (srtZ_pw ns)];obtain ⟨e2,r2⟩:=new_lst d hl (Reps.of_ints (srtZ ns));exact k _ _ U e2 r2
theorem q_srtD {ns:List Int}(h:ns.length < 64):pSrtDz [.dct (dT ns)]=some (intsV (srtZ ns)):=by
 show ((keysI (dT ns)).bind fun ns=>if decide (ns.length < 64)=true then some (PV.lst ((srtZ ns).map PV.int)) else none)=_;rw [dT_keys,Option.bind_some,if_pos (Zn h)];rfl
theorem q_din {neg:Bool}{f g:VX}{ρ:PEnv}{ns:List Int}{i:Int}(h1:g ρ=some (.dct (dT ns))) (h2:f ρ=some (.int i)):xDIn neg f g ρ=some (.bl (if neg=true then !decide (i∈ns) else decide (i∈ns))):=by
 unfold xDIn x2;rw [h1,h2];show some (PV.bl (if neg=true then !(valP (dT ns) (Sum.inl i)).isSome else (valP (dT ns) (Sum.inl i)).isSome))=_;rw [dT_val]
theorem int_inj:∀{a b:List Int},a.map PV.int=b.map PV.int→a=b
 | [],[],_=>rfl
 | [],_::_,h=>nomatch h
 | _::_,[],h=>nomatch h
 | x::a,y::b,h=>by
  simp only [Zh,List.cons.injEq,PV.int.injEq] at h;rw [h.1,int_inj h.2]
theorem sim_int:∀(n:Nat) (a b:List Int),simks n (a.map PV.int) (b.map PV.int)=true
 | n,[],b=>by simp [simks]
 | n,x::a,[]=>by simp [simks]
 | n,x::a,y::b=>by
  have:simk n (.int x) (.int y)=true:=by cases n<;>simp [simk]
  simp only [Zh,simks,this,sim_int n a b,Bool.and_self]
theorem q_eqL (neg:Bool) (a b:List Int):pEqL 3 neg (intsV a) (intsV b)=some (.bl (if neg=true then !decide (a=b) else decide (a=b))):=by
 have e:peq (.lst (a.map PV.int)) (.lst (b.map PV.int))=decide (a=b):=by
  rw [Bool.eq_iff_iff,peq_iff];simp only [decide_eq_true_eq];exact ⟨fun h=>int_inj (PV.lst.inj h),fun h=>by rw [h]⟩
 unfold intsV;simp only [pEqL,sim_int,if_true,e]
end L2
namespace PySem
open PyProof.Rows PySem.W PySem.Spec
end PySem
namespace L2
open PySem PySem.Spec PyProof.Rows PySem.W
end L2
namespace L2
open PySem PySem.Spec PyProof.Rows
def rRngO:List V→Hp→VK→Prop:=fun xs H Q=>∃n:Nat,xs = [.int (n:Int)]∧n≤100000∧∀l,H l=none→Q (.ref l) (upd H l (.rng 0 n))
theorem call_rangeO {X:Cx}:CallR X (.type "range") rRngO:=by
 intro pins s σ H xs us Q I r h;obtain ⟨n,rfl,hn,q⟩:=h;obtain ⟨u,rfl,rx⟩:=vals1 r;obtain ⟨t,rfl⟩:=rx;refine call_range_1 ?_;exact ⟨.ref s.heap.objs.size,_,I.laid (a:=s.heap.objs.size) (o:=.rng 0 n) (t':=s.toks+1+1) (fun b o e=>Heap.get?_push_of_some _ e) (Nat.le_refl _) ⟨_,_,_,Heap.get?_push_size _ rfl⟩,rfl,q _ (I.hok.fresh (Nat.le_refl _))⟩
def rLstR:List V→Hp→VK→Prop:=fun xs H Q=>∃(a:Addr) (n:Nat),xs = [.ref a]∧H a=some (.rng 0 n)∧n≤100000∧∀l,H l=none→Q (.ref l) (upd H l (.lst (((List.range n).map fun (i:Nat)=>(i:Int)).map V.int)))
theorem call_listR {X:Cx}(hc:X.calm=true):CallR X (.type "list") rLstR:=by
 intro pins s σ H xs us Q I r h;obtain ⟨a,n,rfl,ha,hn,q⟩:=h;obtain ⟨u,rfl,rx⟩:=vals1 r;cases rx;obtain ⟨t,u,v,hr⟩:=I.hok a _ ha;have hsz:Builtin.Range.rangeSize 0 (n:Int) 1=(n:Int):=by
  unfold Builtin.Range.rangeSize;simp;omega
 have fl:∀m:Nat,m≤100000→Builtin.Range.rangeFitsLong (m:Int)=true:=fun m hm=>by
  have e63:(2:Int) ^ 63=9223372036854775808:=by decide
  unfold Builtin.Range.rangeFitsLong;simp [e63];omega
 have hsm:Builtin.Range.small 0 (n:Int) 1=true:=by
  unfold Builtin.Range.small;rw [hsz];have f0:=fl 0 (by omega);have f1:=fl 1 (by omega);have fn:=fl n hn;simp at f0 f1;simp [f0,f1,fn]
 refine call_list_range (I.ok.hd hc) hr hsm hsz (by omega) fun h' tk acc' c' kk e it=>?_;have hv:IntsAre acc'.toList ((List.range n).map fun (i:Nat)=>(i:Int)):=by
  refine ints_of_get (by rw [Array.length_toList,it.1];simp) fun j v hv=>?_;obtain ⟨t,rfl⟩:=it.2 j v (by rw [←Array.getElem?_toList];exact hv);have hj:j < n:=by
   have:=(Zg.mp hv).1;rw [Array.length_toList,it.1] at this;exact this
  refine ⟨(j:Int),t,by rw [Zj,List.getElem?_range hj];rfl,?_⟩;rw [Int.zero_add,Int.mul_one]
 exact ⟨.ref s.heap.objs.size,_,I.laid (a:=s.heap.objs.size) (o:=.lst (((List.range n).map fun (i:Nat)=>(i:Int)).map V.int)) (t':=tk) kk (Nat.le_refl _) ⟨by simp;rw [sizeLine_eq];omega,acc'.toList,c',vals_are hv,by simpa using e⟩,rfl,q _ (I.hok.fresh (Nat.le_refl _))⟩
def pLstR:List PV→Option PV
 | [.int i]=>if decide (0≤i)&&decide (i≤100000) then some (.lst (((List.range i.toNat).map fun (i:Nat)=>(i:Int)).map PV.int)) else none
 | _=>none
theorem ve_lrng {t:TA}{fa:VL}(ha:VA true t fa):VE .fr (tCB rLstR (tCons (tCB rRngO t) tNil)) (xL pLstR fa):=by
 intro U O H σ ρ Q z s e k;obtain ⟨ps,hp,e⟩:=Za.mp e
 match ps,e with
 | [.int i],e =>
  obtain ⟨h,rfl⟩:=some_if e;simp only [Zc1,decide_eq_true_eq] at h;refine ha U O H σ ρ _ _ s hp fun vs H1 U1 ex1 r1=>?_;have r1':Bors U1 H1 [PV.int i] vs:=r1;obtain ⟨v,rfl,hv⟩:=r1'.one;have hvi:=bor_int (U:=U1) (H:=H1) hv;subst hvi;refine ⟨i.toNat,by rw [Int.toNat_of_nonneg h.1],by omega,fun l hl=>?_⟩;show rLstR [.ref l] (upd H1 l (.rng 0 i.toNat)) Q;refine ⟨l,i.toNat,rfl,upd_same,by omega,fun l2 hl2=>?_⟩;have ex2:Ext U1 H1 U1 (upd H1 l (.rng 0 i.toNat)):=.laid ex1.dU hl;obtain ⟨e3,r3⟩:=new_lst ex2.dU hl2 (Reps.of_ints ((List.range i.toNat).map fun (i:Nat)=>(i:Int)));exact k _ _ U1 (ex1.trans (ex2.trans e3)) (Res.pre (U1:=U1) (ex1.trans ex2).same r3)
def KpB (B:Heap) (l:List Env) (H':Hp) (h:Heap):Prop:=∀b,(H' b≠none∨h.get? b≠none)→b∉frs l→∃o,B.get? b=some o
def CX1 (P:Program) (w:World):CXT:=fun outer H s E e s'=>∃(a C:Addr) (H':Hp) (B:Heap) (t0:Value),e=.ref a∧s'.os=s.os∧AllBare s'.gens∧Un (frs outer) [] H H' s.heap s'.heap ∧
 HOk P w H' s'.heap∧Heap.FlyingW B outer a (.ref C) t0 s'.heap∧KpB B outer H' s.heap∧E (.ref C) none H'
def KpX (X:Cx) (pins:List (Addr×Obj)) (B:Heap) (H':Hp):Prop:=∀b,(H' b≠none∨X.s₀.heap.get? b≠none∨∃p∈X.pn++pins,p.1=b)→b∉frs X.stack→∃o,B.get? b=some o
theorem ObjOk.has {P:Program}{w:World}{H:Hp}{h:Heap}{a:Addr}{o:HO}(x:ObjOk P w H h a o):∃u,h.get? a=some u:=by
 cases o with
 | lst xs=>obtain ⟨_,_,_,_,e⟩:=x;exact ⟨_,e⟩
 | tup xs=>obtain ⟨_,_,_,_,e,_⟩:=x;exact ⟨_,e⟩
 | dK kvs=>obtain ⟨_,_,_,_,_,_,_,e,_⟩:=x;exact ⟨_,e⟩
 | dT kvs=>obtain ⟨_,_,_,_,_,_,_,e,_⟩:=x;exact ⟨_,e⟩
 | set S n=>obtain ⟨_,_,_,_,e,_⟩:=x;exact ⟨_,e⟩
 | ins C dx fs=>obtain ⟨_,_,_,e,_⟩:=x;exact ⟨_,e⟩
 | own y=>exact x
 | xd fs=>obtain ⟨_,⟨_,_,_,e,_⟩,_⟩:=x;exact ⟨_,e⟩
 | rng lo hi=>obtain ⟨_,_,_,e⟩:=x;exact ⟨_,e⟩
 | frz ob u=>obtain ⟨e,_⟩:=x;exact ⟨_,e⟩
 | tbl ps=>exact ⟨_,(show h.get? a=some _ from x)⟩
 | met f y=>exact ⟨_,(show h.get? a=some _ from x)⟩
 | ext φ=>obtain ⟨_,e,_⟩:=x;exact e
section
variable {X:Cx}{pins:List (Addr×Obj)}{σ:St}{H:Hp}{s:Shared}{B h':Heap}
theorem Inv.notStk (I:Inv X pins σ H s) {b:Addr}(h:b∉X.fs) (n:b≠X.env.locals):b∉frs X.stack:=fun z=>(Zk.mp (I.stkSub b z)).elim n h
theorem Inv.old_ne (I:Inv X pins σ H s) {b:Addr}(h:X.s₀.heap.get? b≠none):b≠X.env.locals:=by
 cases q:X.s₀.heap.get? b with
 | none=>exact absurd q h
 | some o=>exact Nat.ne_of_lt (Nat.lt_of_lt_of_le (Heap.lt_size q) I.ok.above)
theorem Inv.fly (I:Inv X pins σ H s) (hex:X.ex = []) (sB:B.StaysIn s.heap) (k:KpX X pins B H) (sB':B.StaysIn h') (up:s.heap.UpToSlots h'):Inv X pins σ H { s with heap:=h' }:=by
 have at1:∀b o,(H b≠none∨X.s₀.heap.get? b≠none∨∃p∈X.pn++pins,p.1=b)→b∉frs X.stack→s.heap.get? b=some o→h'.get? b=some o:=fun b o c n e=>by
  obtain ⟨o',e'⟩:=k b c n;have:=sB b o' e';rw [e] at this;cases this;exact sB' b o e'
 have fr1:∀b o,b∈frs X.stack→s.heap.get? b=some o→∃sl,h'.get? b=some { o with slots:=sl }:=fun b o hb e=>by
  obtain ⟨_,o',ho',hd⟩:=I.stack.mem hb;rw [e] at ho';cases ho';exact up b o e hd
 have cel:∀c v,s.heap.IsCell c v→h'.IsCell c v:=fun c v ⟨o,ho,hd⟩=>by
  obtain ⟨sl,e⟩:=up c o ho fun vs q=>by rw [hd] at q;cases q
  exact ⟨_,e,hd⟩
 have old:∀b o,X.s₀.heap.get? b=some o→X.s₀.heap.get? b≠none:=fun b o e=>by rw [e];intro z;cases z
 have nx:∀b:Addr,b∉X.ex:=fun b=>by rw [hex];simp
 refine ⟨I.ok,I.os,I.bare,⟨fun b o e n hb hx=>?_,fun b o e n hb hx=>?_,I.base.free,fun b o e hx=>?_,I.base.tups,I.base.frzs,I.base.tbls⟩,?_,fun x c e=>?_,I.free,I.freeC,fun p hp=>?_,fun a o e=>?_,I.len⟩
 ·exact at1 b o (.inr (.inl (old b o e))) (I.notStk hb (I.old_ne (old b o e))) (I.base.keep b o e n hb hx)
 ·obtain ⟨sl,e1⟩:=I.base.slot b o e n hb hx
  obtain ⟨_,o',ho',hd⟩:=I.ok.funs.mem hb;rw [e] at ho';cases ho';obtain ⟨sl',e2⟩:=up b _ e1 hd;exact ⟨sl',e2⟩
 ·obtain ⟨o',e1⟩:=I.base.there b o e hx
  by_cases hb:b∈frs X.stack
  ·obtain ⟨sl,e2⟩:=fr1 b o' hb e1
   exact ⟨_,e2⟩
  ·exact ⟨o',at1 b o' (.inr (.inl (old b o e))) hb e1⟩
 ·obtain ⟨m,hn,hl⟩:=I.loc
  refine ⟨m,up.ns hn,fun i x v e1 e2 e3=>?_⟩;obtain ⟨u,r,l⟩:=hl i x v e1 e2 e3;refine ⟨u,r,?_⟩;rcases l with l|⟨kd,c,e,z⟩
  ·exact .inl l
  ·exact .inr ⟨kd,c,e,cel c _ z⟩
 ·obtain ⟨v,z⟩:=I.cell x c e
  exact ⟨v,cel c v z⟩
 ·obtain ⟨e,n,ne,nf,d⟩:=I.pin p hp
  exact ⟨at1 p.1 p.2 (.inr (.inr ⟨p,hp,rfl⟩)) (I.notStk nf ne) e,n,ne,nf,d⟩
 ·refine (I.hok a o e).stay (fun b u hb q=>?_) (fun _ q=>q) fun _ _ q=>q
  have hne:H b≠none:=by
   rcases hb with rfl|hb
   ·rw [e];intro z;cases z
   ·rw [hb];intro z;cases z
  exact at1 b u (.inl hne) (fun z=>hne (I.stkFree b z)) q
theorem Inv.raised {P:Program}{w:World}{E:XK}{e:Value}{s':Shared}(I:Inv X pins σ H s) (hex:X.ex = []) (h:CX1 X.prog X.w X.stack H s E e s') :
  ∃(a C:Addr) (H':Hp) (B:Heap) (t0:Value),e=.ref a∧Inv X pins σ H' s'∧Heap.FlyingW B X.stack a (.ref C) t0 s'.heap∧KpX X pins B H'∧E (.ref C) none H':=by
 obtain ⟨a,C,H',B,t0,rfl,os,bare,un,hok,fl,kp,q⟩:=h;refine ⟨a,C,H',B,t0,rfl,I.call' os un hok bare (fun b z=>absurd z (by simp)),fl,fun b c n=>kp b ?_ n,q⟩;rcases c with c|c|⟨p,hp,rfl⟩
 ·exact .inl c
 ·refine .inr ?_
  cases z:X.s₀.heap.get? b with
  | none=>exact absurd z c
  | some o =>
   obtain ⟨o',e⟩:=I.base.there b o z (by rw [hex];simp);rw [e];intro z;cases z
 ·refine .inr ?_
  rw [(I.pin p hp).1];intro z;cases z
end
def Fly (X:Cx) (pins:List (Addr×Obj)) (σ:St) (H:Hp) (C:Addr) (e:Value) (s':Shared):Prop:=∃(a:Addr) (B:Heap) (t0:Value),e=.ref a∧Inv X pins σ H s'∧Heap.FlyingW B X.stack a (.ref C) t0 s'.heap∧KpX X pins B H
def Made (X:Cx) (pins:List (Addr×Obj)) (σ:St) (H:Hp) (C:Addr) (e:Value) (s':Shared):Prop:=∃(a:Addr) (args:List Value) (s₂:Shared) (h':Heap),e=.ref a∧Inv X pins σ H s₂∧s' = { s₂ with heap:=h' }∧Heap.MadeExcOf s₂.heap h' a (.ref C) args
def XPost (k:Bool) (X:Cx) (pins:List (Addr×Obj)) (U O:AS) (H:Hp) (C:Addr) (ρ':PEnv) (e:Value) (s':Shared):Prop:=∃(U' O':AS) (H':Hp) (σ':St),SR U' O' H' σ' ρ'∧Tr U O H U' O' H'∧(Fly X pins σ' H' C e s'∨(k=true∧Made X pins σ' H' C e s'))
theorem XPost.pre {k:Bool}{X:Cx}{pins:List (Addr×Obj)}{U O U1 O1:AS}{H H1:Hp}{C:Addr}{ρ':PEnv}{e:Value}{s':Shared}(t:Tr U O H U1 O1 H1) (h:XPost k X pins U1 O1 H1 C ρ' e s'):XPost k X pins U O H C ρ' e s':=by
 obtain ⟨U',O',H',σ',sr,tr,f⟩:=h;exact ⟨U',O',H',σ',sr,t.trans tr,f⟩
theorem XPost.up {k:Bool}{X:Cx}{pins:List (Addr×Obj)}{U O:AS}{H:Hp}{C:Addr}{ρ':PEnv}{e:Value}{s':Shared}(h:XPost false X pins U O H C ρ' e s'):XPost k X pins U O H C ρ' e s':=by
 obtain ⟨U',O',H',σ',sr,tr,f⟩:=h;exact ⟨U',O',H',σ',sr,tr,f.elim .inl fun z=>nomatch z.1⟩
def NoX (X:Cx):Prop:=∀e s',X.xe e s'→False
abbrev VR:=PEnv→Option (Nat×PEnv)
def RXs (k:Bool) (cl:Nat→Addr) (X:Cx) (b:List Stmt) (G:VR):Prop:=∀(pins:List (Addr×Obj)) (s:Shared) (σ:St) (H:Hp) (U O:AS) (ρ:PEnv) (n:Nat) (ρ':PEnv),Inv X pins σ H s→SR U O H σ ρ→G ρ=some (n,ρ') →
 wpAny (model X.prog X.w) X.A (execs b X.env) (fun _ _=>False) (XPost k X pins U O H (cl n) ρ') s
def RX1 (k:Bool) (cl:Nat→Addr) (X:Cx) (b:Stmt) (G:VR):Prop:=∀(pins:List (Addr×Obj)) (s:Shared) (σ:St) (H:Hp) (U O:AS) (ρ:PEnv) (n:Nat) (ρ':PEnv),Inv X pins σ H s→SR U O H σ ρ→G ρ=some (n,ρ') →
 wpAny (model X.prog X.w) X.A (exec b X.env) (fun _ _=>False) (XPost k X pins U O H (cl n) ρ') s
def EX (cl:Nat→Addr) (X:Cx) (e:Expr) (g:PEnv→Option Nat):Prop:=∀(pins:List (Addr×Obj)) (s:Shared) (σ:St) (H:Hp) (U O:AS) (ρ:PEnv) (n:Nat),Inv X pins σ H s→SR U O H σ ρ→g ρ=some n →
 wpAny (model X.prog X.w) X.A (eval e X.env) (fun _ _=>False) (XPost false X pins U O H (cl n) ρ) s
def gNone:VR:=fun _=>none
def gX (g:PEnv→Option Nat):VR:=fun ρ=>(g ρ).map fun n=>(n,ρ)
def gRaise (n:Nat):VR:=fun ρ=>some (n,ρ)
def gSeq (F:VF) (G1 G2:VR):VR:=fun ρ=>match G1 ρ with
 | some x=>some x
 | none=>match F ρ with
  | some (.nx ρ')=>G2 ρ'
  | _=>none
def gIf (c:VB) (G1 G2:VR):VR:=fun ρ=>match c ρ with
 | some true=>G1 ρ
 | some false=>G2 ρ
 | none=>none
def gCall (g:List PV→Option Nat) (fa:VL):PEnv→Option Nat:=fun ρ=>(fa ρ).bind g
def gnM (k n:Nat) (G:VR) (ps:List PV):Option Nat:=if ps.length=k then (G (initR n ps)).map (·.1) else none
section
variable {k:Bool}{cl:Nat→Addr}{X:Cx}{pos:Pos}
theorem rx_none {st:Stmt}:RX1 k cl X st gNone:=fun _ _ _ _ _ _ _ _ _ _ _ e=>nomatch e
theorem rxs_none {st:List Stmt}:RXs k cl X st gNone:=fun _ _ _ _ _ _ _ _ _ _ _ e=>nomatch e
theorem rxs_cons {st:Stmt}{rest:List Stmt}{t:TS}{F:VF}{G1 G2:VR}(hx:NoX X) (hs:PS X st t) (hv:VS t F) (h1:RX1 k cl X st G1) (h2:RXs k cl X rest G2):RXs k cl X (st::rest) (gSeq F G1 G2):=by
 intro pins s σ H U O ρ n ρ' I sr e;unfold gSeq at e;cases z:G1 ρ with
 | some x =>
  rw [z] at e;cases e;exact wpAny_execs_cons (wpAny_mono (h1 pins s σ H U O ρ n ρ' I sr z) (fun _ _ q=>q.elim) fun _ _ q=>q)
 | none =>
  rw [z] at e;cases y:F ρ with
  | none=>rw [y] at e;cases e
  | some o =>
   rw [y] at e;cases o with
   | nx ρ1 =>
    have hq:=hv U O H σ ρ { nx:=fun σ1 H1=>∃U1 O1,SR U1 O1 H1 σ1 ρ1∧Tr U O H U1 O1 H1,rt:=fun _ _=>False } _ sr y fun U1 O1 H1 σ1 s1 t1=>⟨U1,O1,s1,t1⟩
    refine wpAny_execs_cons (wpAny_mono (hs pins s σ H _ I hq) (fun f s1 q=>?_) fun e' s1 q=>(hx e' s1 q).elim);cases f with
    | next =>
     obtain ⟨σ1,H1,I1,U1,O1,sr1,t1⟩:=q;exact wpAny_mono (h2 pins s1 σ1 H1 U1 O1 ρ1 n ρ' I1 sr1 e) (fun _ _ q=>q) fun _ _ q=>q.pre t1
    | brk=>obtain ⟨_,_,_,q⟩:=q;exact False.elim q
    | cont=>obtain ⟨_,_,_,q⟩:=q;exact False.elim q
    | ret u=>obtain ⟨_,_,_,_,_,q⟩:=q;exact False.elim q
   | bk ρ1=>cases e
   | ct ρ1=>cases e
   | rt p fr=>cases e
theorem rxs_one {st:Stmt}{G1:VR}(h1:RX1 k cl X st G1) {rest:List Stmt}:RXs k cl X (st::rest) G1:=fun pins s σ H U O ρ n ρ' I sr e =>
 wpAny_execs_cons (wpAny_mono (h1 pins s σ H U O ρ n ρ' I sr e) (fun _ _ q=>q.elim) fun _ _ q=>q)
theorem rx_if {c:Expr}{a b:List Stmt}{tc:TT}{fc:VB}{G1 G2:VR}(hx:NoX X) (hc:PT X c tc) (hv:VT tc fc) (h1:RXs k cl X a G1) (h2:RXs k cl X b G2):RX1 k cl X (.If c a b pos) (gIf fc G1 G2):=by
 intro pins s σ H U O ρ n ρ' I sr e;unfold gIf at e;cases z:fc ρ with
 | none=>rw [z] at e;cases e
 | some d =>
  rw [z] at e;have hq:=hv U O H σ ρ (fun d' H1=>d'=d∧∃U1,Ext U H U1 H1) d sr z fun H' U' ex=>⟨rfl,U',ex⟩
  refine wpAny_If (wpAny_mono (hc pins s σ H _ I hq) (fun d' s1 ⟨H1,I1,ed,U1,ex⟩=>?_) fun e' s1 q=>(hx e' s1 q).elim);subst ed;cases d' with
  | true=>exact wpAny_mono (h1 pins s1 σ H1 U1 O ρ n ρ' I1 (sr.ext ex) e) (fun _ _ q=>q) fun _ _ q=>q.pre ex.tr
  | false=>exact wpAny_mono (h2 pins s1 σ H1 U1 O ρ n ρ' I1 (sr.ext ex) e) (fun _ _ q=>q) fun _ _ q=>q.pre ex.tr
theorem gX_some {g:PEnv→Option Nat}{ρ ρ':PEnv}{n:Nat}(h:gX g ρ=some (n,ρ')):g ρ=some n∧ρ'=ρ:=by
 unfold gX at h;obtain ⟨m,hm,e⟩:=Zb.mp h;cases e;exact ⟨hm,rfl⟩
theorem rx_expr {e:Expr}{g:PEnv→Option Nat}(he:EX cl X e g) (hs:swapsWith e none pos.line X.env=pure false:=by rfl):RX1 k cl X (.Expr e pos) (gX g):=by
 intro pins s σ H U O ρ n ρ' I sr e;obtain ⟨e,rfl⟩:=gX_some e;exact wpAny_Expr_any (wpAny_mono (he pins s σ H U O _ n I sr e) (fun _ _ q=>q.elim) fun _ _ q=>q.up) I.quiet hs
theorem rx_ret {e:Expr}{g:PEnv→Option Nat}(he:EX cl X e g):RX1 k cl X (.Return (some e) pos) (gX g):=by
 intro pins s σ H U O ρ n ρ' I sr e;obtain ⟨e,rfl⟩:=gX_some e;exact wpAny_Return_some (wpAny_mono (he pins s σ H U O _ n I sr e) (fun _ _ q=>q.elim) fun _ _ q=>q.up)
theorem rx_set {x:Str}{e:Expr}{g:PEnv→Option Nat}{pos':Pos}(he:EX cl X e g) (hs:swapsWith e (some (.Name x pos')) pos.line X.env=pure false:=by rfl):RX1 k cl X (.Assign [.Name x pos'] e pos) (gX g):=by
 intro pins s σ H U O ρ n ρ' I sr e;obtain ⟨e,rfl⟩:=gX_some e;exact wpAny_Assign_Name (wpAny_mono (he pins s σ H U O _ n I sr e) (fun _ _ q=>q.elim) fun _ _ q=>q.up) hs
theorem ex_ix {a b:Expr}{g:PEnv→Option Nat}(ha:EX cl X a g):EX cl X (.Subscript a b pos) g:=by
 intro pins s σ H U O ρ n I sr e;exact Subscript_ (wpAny_mono (ha pins s σ H U O ρ n I sr e) (fun _ _ q=>q.elim) fun _ _ q=>q)
theorem ex_comp {elt target iter:Expr}{ifs:List Expr}{scope:Scope}{N':List Str}{src:List (Option Nat)}{g:PEnv→Option Nat}(S:CompScope X scope N' src) (hi:EX cl X iter g) (hs:∀x,foldedSetIterable iter X.env x=pure x:=by intro _;rfl):EX cl X (.ListComp elt [⟨target,iter,ifs,0⟩] scope pos) g:=by
 intro pins s σ H U O ρ n I sr e;rw [eval_ListComp];exact wpAny_comprehension_free (use:=none) rfl hs (closure_drawn (S.isFree I.ok)) S.kind S.names (wpAny_mono (hi pins s σ H U O ρ n I sr e) (fun _ _ q=>q.elim) fun _ _ q=>q)
end
def spX (cl:Nat→Addr) (g:List PV→Option Nat):Sp:=fun vs H Q E=>∃U ps n,(∀a,U a→H a≠none)∧Reps U H ps vs∧g ps=some n∧∀H' U',Ext U H U' H'→E (.ref (cl n)) none H'
theorem ex_call {cl:Nat→Addr}{X:Cx}{k:Nat}{f:Addr}{fd:FuncData}{ps:List Str}{g:List PV→Option Nat}{x:Str}{p pos:Pos}{e:Expr}{es:List Expr}{t:TA}{fa:VL}(hx:NoX X) (hex:X.ex = [])
  (F:FnOk X.prog X.w X.K X.mg X.base (CX1 X.prog X.w) k f fd ps (spX cl g)) (hr:Room k X.A) (hg:Gl X x) (hm:X.mg x=some (.ref f)) (hk:PySem.W.keepIn X.K (.ref f)=true) (hb:Binds X.K fd ps [])
  (ha:PA X (e::es) t) (hv:VA false t fa) (hdb:(x==("__debug__" : Str))=false:=by decide) (he:starEach (e::es) X.env=(false,eval e X.env)::starEach es X.env:=by rfl) (hpl:(backTo pos (starEach es X.env)).any (·.1)=false:=by rfl) :
  EX cl X (.Call (.Name x p) (e::es) [] pos) (gCall g fa):=by
 intro pins s σ H U O ρ n I sr eg;obtain ⟨qs,hq,eg⟩:=Za.mp eg;refine wpAny_Call_Name_kw (ld_glob I hg hm ?_ hdb);have h:=hv U O H σ ρ (fun vs H1=>∃U1,Ext U H U1 H1∧Reps U1 H1 qs vs) qs sr hq fun vs H' U' ex r=>⟨U',ex,r⟩
 refine PySem.W.callWith_K (h₀:=X.base) I.ok.mod.kin hk (wpAny_mono (ha pos pins s σ H _ I h) (fun us s1 ⟨vs,H1,I1,r,U1,ex,rp⟩=>⟨I1.kIn,?_⟩) fun e' s' q=>(hx e' s' q).elim) he hpl;have hsp:spX cl g vs H1 (fun _ _=>False) (fun c _ H'=>c=.ref (cl n)∧∃U',Ext U1 H1 U' H'):=⟨U1,qs,n,ex.dU,rp,eg,fun H' U' ex'=>⟨rfl,U',ex'⟩⟩
 have hl:us.length=ps.length:=by rw [←r.length];exact F.len _ _ _ _ hsp
 have hbb:=hb s1 us I1.kIn (by rw [List.append_nil];exact hl);rw [List.append_nil] at hbb;refine wpAny_call (codeAny_mono (F.run X.A X.stack s1 H1 ⟨us,[]⟩ us vs _ _ hr I1.env0 hbb r hsp) fun rr s' hq'=>?_);cases rr with
 | error e' =>
  have hq2:CX1 X.prog X.w X.stack H1 s1 (fun c _ H'=>c=.ref (cl n)∧∃U',Ext U1 H1 U' H') e' s':=hq';obtain ⟨a,C,H',B,t0,rfl,I',fl,kp,ec,U',ex'⟩:=I1.raised (P:=X.prog) (w:=X.w) hex hq2;cases ec;have exx:=ex.trans ex';exact ⟨U',O,H',σ,sr.ext exx,exx.tr,.inl ⟨a,B,t0,rfl,I',fl,kp⟩⟩
 | ok fl =>
  cases fl with
  | ret u=>obtain ⟨_,_,_,_,_,_,_,q⟩:=hq';exact False.elim q
  | next=>exact False.elim hq'
  | brk=>exact False.elim hq'
  | cont=>exact False.elim hq'
theorem rx_raise {cl:Nat→Addr}{X:Cx}{n:Nat}{x:Str}{np cpos pos:Pos}{e₀:Expr}{rest:List Expr}{t:TA}{fa:VL}{B newId initId:String}{bmB:List Value}(hx:NoX X) (hc:X.calm=true) (FB:ExcBaseFacts B newId initId bmB) (hg:Gl X x) (hm:X.mg x=some (.ref (cl n)))
  (hq:PySem.W.excIn X.K (cl n) bmB newId=true) (ha:PA X (e₀::rest) t) (hv:VA false t fa) (hn:∃ps,∀ρ,fa ρ=some ps∧ps.length≤10) (hdb:(x==("__debug__" : Str))=false:=by decide)
  (he:starEach (e₀::rest) X.env=(false,eval e₀ X.env)::starEach rest X.env:=by rfl) (hpl:(backTo cpos (starEach rest X.env)).any (·.1)=false:=by rfl) :
  RX1 true cl X (.Raise (some (.Call (.Name x np) (e₀::rest) [] cpos)) none pos) (gRaise n):=by
 intro pins s σ H U O ρ m ρ' I sr eg;cases eg;obtain ⟨qs,hqs⟩:=hn;unfold PySem.W.excIn at hq;split at hq
 ·rename_i dd cd sl ho
  split at hq
  ·rename_i C' bm k0 k1 k2 k3 nn k5 hmro hsl
   simp only [Zc1,beq_iff_eq,Bool.not_eq_true'] at hq;obtain ⟨⟨⟨⟨⟨e1,e2⟩,hdel⟩,ht⟩,hok⟩,hni⟩:=hq;obtain ⟨nm,bs,mro,ns,qn,hd,sn,sub,ab,col,del⟩:=cd;dsimp only at hmro hdel hok hni;subst hmro hdel e1 e2;have hsl':sl = #[k0,k1,k2,k3,some (.builtin nn),k5]:=by
    obtain ⟨l⟩:=sl;simp only at hsl;rw [hsl]
   subst hsl';have hbase:bm.contains (.type "BaseException")=true:=(PySem.W.tail_of_in I.kIn ht).hasType FB.hasBase;refine wpAny_Raise_call_subT (bm:=bm) (nm:=nm) (q:=qn) (N:=ns) (bs:=bs) (hdct:=hd) (sn:=sn) (sub:=sub) (ab:=ab) (col:=col) (dd:=dd) (k0:=k0) (k1:=k1) (k2:=k2) (k3:=k3) (k5:=k5) (mN:=X.base.nsMap ns) FB hbase (I.ok.hd hc) (by rw [he];show (false || (backTo cpos (starEach rest X.env)).any (·.1))=false;rw [hpl];rfl) (PySem.W.nsMap_none_of_in I.mod.kin hok hni) (ld_glob I hg hm ⟨rfl,?_⟩ hdb);have h:=hv U O H σ ρ (fun vs H1=>∃U1,Ext U H U1 H1∧Reps U1 H1 qs vs) qs sr (hqs ρ).1 fun vs H' U' ex r=>⟨U',ex,r⟩
   have hp:=ha cpos pins s σ H _ I h;rw [he] at hp ⊢;refine Calls.evalArgs_plain (wpAny_mono hp (fun us s1 ⟨vs,H1,I1,r,U1,ex,rp⟩=>?_) fun e' s' q=>(hx e' s' q).elim);exact ⟨rfl,by rw [←r.length,rp.length];exact Nat.le_trans (hqs ρ).2 (by decide),I1.kIn _ _ ho,(Heap.Ns.of_isNs (PySem.W.isNs_of_in I.mod.kin hok)).keeps I1.bk,PySem.W.tail_of_in I1.kIn ht,fun h' e hm=>⟨U1,O,H1,σ,sr.ext ex,ex.tr,.inr ⟨rfl,e,us,s1,h',rfl,I1,rfl,hm⟩⟩⟩
  ·cases hq
 ·cases hq
section
variable {X:Cx}{pins:List (Addr×Obj)}{σ:St}{H':Hp}{s':Shared}{a C:Addr}{E:XK}{M:Model}{Ex:Value→Shared→Prop}
theorem Inv.kpB {s:Shared}{B:Heap}(I:Inv X pins σ H' s) (kp:KpX X pins B H'):KpB B X.outer H' X.s₀.heap:=fun b c n=>by
 refine kp b (c.elim .inl fun z=>.inr (.inl z)) (I.notStk n fun z=>?_);rcases c with c|c
 ·exact c (by rw [z];exact I.free)
 ·exact I.old_ne c z
theorem leave_fly {B:Heap}{t0:Value}(I:Inv X pins σ H' s') (hex:X.ex = []) (hst:X.stack=X.env::X.outer) (hf:X.env.frame=some X.env.locals) (fl:Heap.FlyingW B X.stack a (.ref C) t0 s'.heap) (kp:KpX X pins B H') (q:E (.ref C) none H') :
  wpAny M X.A (leaving X.env (.ref a)) (fun _ s''=>CX1 X.prog X.w X.outer X.H₀ X.s₀ E (.ref a) s'') Ex s':=by
 rw [hst] at fl;refine wpAny_leaves_onW (by rw [I.ok.frames,hst]) hf fl fun h'' fl2 up=>?_;have I2:=I.fly hex fl.1 kp fl2.1 up;have un:=I2.base;rw [hex] at un;exact ⟨a,C,H',B,t0,rfl,I2.os,I2.bare,un,I2.hok,fl2,I2.kpB kp,q⟩
theorem leave_made {args:List Value}{h1:Heap}(I:Inv X pins σ H' s') (hex:X.ex = []) (hst:X.stack=X.env::X.outer) (hf:X.env.frame=some X.env.locals) (hx:Heap.MadeExcOf s'.heap h1 a (.ref C) args) (q:E (.ref C) none H') :
  wpAny M X.A (leaving X.env (.ref a)) (fun _ s''=>CX1 X.prog X.w X.outer X.H₀ X.s₀ E (.ref a) s'') Ex { s' with heap:=h1 }:=by
 have hl:=PySem.W.funFrames_hide (as:=frs X.stack) I.stack fun env he b hb=>List.mem_filterMap.mpr ⟨env,he,hb⟩;have kp:KpX X pins (PySem.W.hideAll s'.heap (frs X.stack)) H':=fun b c n=>by
  have:∃o,s'.heap.get? b=some o:=by
   rcases c with c|c|⟨p,hp,rfl⟩
   ·cases z:H' b with
    | none=>exact absurd z c
    | some o=>exact (I.hok b o z).has
   ·cases z:X.s₀.heap.get? b with
    | none=>exact absurd z c
    | some o=>exact I.base.there b o z (by rw [hex];simp)
   ·exact ⟨_,(I.pin p hp).1⟩
  obtain ⟨o,e⟩:=this;exact ⟨o,PySem.W.hideAll_get _ e n⟩
 have I1:Inv X pins σ H' { s' with heap:=h1 }:=I.kept (t':=s'.toks) hx.keeps;have hl':=hl;rw [show X.stack=X.env::X.outer from hst] at hl';refine wpAny_leaves_madeW (s:={ s' with heap:=h1 }) (base:=PySem.W.hideAll s'.heap (frs X.stack)) (by rw [I.ok.frames,hst]) hf (fun b o z=>PySem.W.of_hideAll _ z) (by rw [hst] at hl ⊢;exact hl) hx fun h'' t fl2 _ _ up=>?_;have I2:=I1.fly hex (fun b o z=>hx.keeps b o (PySem.W.of_hideAll _ z)) kp fl2.1 up;have un:=I2.base;rw [hex] at un;exact ⟨a,C,H',_,_,rfl,I2.os,I2.bare,un,I2.hok,fl2,I2.kpB kp,q⟩
end
def tSem (X:Cx) (st:Stmt):TS:=fun D σ H=>∀pins s,Inv X pins σ H s→wpAny (model X.prog X.w) X.A (exec st X.env) (SP X pins D) X.xe s
theorem ps_sem {X:Cx}{st:Stmt}:PS X st (tSem X st):=fun pins s σ H D I h=>h pins s I
def Land (X:Cx) (pins:List (Addr×Obj)) (σ:St) (H:Hp) (a C:Addr) (s:Shared):Prop:=∃(B:Heap) (t0:Value),Inv X pins σ H s∧Heap.FlyingW B X.stack a (.ref C) t0 s.heap∧KpX X pins B H
section
variable {cl:Nat→Addr}{X:Cx}{n:Nat}{p:PV}{fr:Bool}{x:Str}{np pos:Pos}{Cj:Addr}
theorem look_at {M:Model}{h:Heap}{a C:Addr}(e:∃o,h.get? a=some o∧o.cls=.ref C):PySem.W.Looks M h (typeOf (.ref a)) (.ref C):=by
 obtain ⟨o,h1,h2⟩:=e;exact h2 ▸ (PySem.W.Looks.ld h1).andThen .now
theorem ld_globA {A:Around}{E:Value→Shared→Prop}{pins:List (Addr×Obj)}{s:Shared}{σ:St}{H:Hp}{x:Str}{u:Value}{pos:Pos}{Q:Value→Shared→Prop}(I:Inv X pins σ H s) (hg:Gl X x) (hm:X.mg x=some u) (h:Q u s)
  (hd:(x==("__debug__" : Str))=false:=by decide):wpAny (model X.prog X.w) A (eval (.Name x pos) X.env) Q E s :=
 Calls.Name_function_global I.ok.kind hg (Calls.loadGlobal_global (by rw [I.ok.glob];exact I.mod.glob.keeps I.bk) hm h) hd
def Cx.held (X:Cx) (a:Addr) (oe:Obj):Cx:={ X with A:=X.A.mark (some (.ref a)),calm:=false,pn:=(a,oe)::X.pn,xe:=fun _ _=>False }
theorem Inv.held {pins:List (Addr×Obj)}{σ:St}{H:Hp}{s:Shared}{a:Addr}{oe:Obj}(I:Inv X pins σ H s) (h:s.heap.get? a=some oe∧H a=none∧a≠X.env.locals∧a∉X.fs∧∀v,oe.data≠.cell v):Inv (X.held a oe) pins σ H s :=
 ⟨⟨I.ok.mod,I.ok.kind,I.ok.glob,I.ok.blt,I.ok.above,I.ok.inj,I.ok.has,I.ok.cab,(fun z=>nomatch z),I.ok.frames,I.ok.stk,I.ok.exf,I.ok.bs,I.ok.bsz,I.ok.noex,I.ok.exfs,I.ok.funs,I.ok.frf⟩,
  I.os,I.bare,I.base,I.loc,I.cell,I.free,I.freeC,fun p hp=>by
   rcases Zd1.mp hp with z|z
   ·rcases Zk.mp z with rfl|z
    ·exact h
    ·exact I.pin p (List.mem_append_left _ z)
   ·exact I.pin p (List.mem_append_right _ z),I.hok,I.len⟩
theorem Inv.unheld {pins:List (Addr×Obj)}{σ:St}{H:Hp}{s:Shared}{a:Addr}{oe:Obj}(ok:X.Ok) (I:Inv (X.held a oe) pins σ H s):Inv X pins σ H s :=
 ⟨ok,I.os,I.bare,I.base,I.loc,I.cell,I.free,I.freeC,fun p hp=>I.pin p (by
  rcases Zd1.mp hp with z|z
  ·exact List.mem_append_left _ (Ze _ z)
  ·exact List.mem_append_right _ z),I.hok,I.len⟩
theorem gone_ok {M:Model}{A:Around}{E:Value→Shared→Prop}{pins:List (Addr×Obj)}{σ:St}{H:Hp}{s:Shared}{i:Nat}{y:Str}{Q:Unit→Shared→Prop}(I:Inv X pins σ H s) (hN:X.N.Nodup) (hi:X.N[i]?=some y) (hk:X.env.kindOf y=some .local)
  (h:∀s',Inv X pins (σ.set i none) H s'→Q () s'):wpAny M A (do bindName X.env y .none;unbindBehindTheSuite X.env y pos) Q E s:=by
 obtain ⟨m,hn,hl⟩:=id I.loc;refine wpAny_nameGoes_keeps hk hn (by rw [I.ok.kind];rfl) fun h' v hn' hs=>h _ ?_;obtain ⟨oL,_,_,hoL,_⟩:=id hn;have old:∀b o,X.s₀.heap.get? b=some o→b≠X.env.locals:=fun b o e=>Nat.ne_of_lt (Nat.lt_of_lt_of_le (Heap.lt_size e) I.ok.above);refine ⟨I.ok,I.os,I.bare,⟨fun b o e n hb hx=>?_,fun b o e n hb hx=>?_,I.base.free,fun b o e hx=>?_,I.base.tups,I.base.frzs,I.base.tbls⟩,⟨_,hn',fun j z w e1 e2 e3=>?_⟩,fun z c e=>?_,I.free,I.freeC,fun p hp=>?_,fun b ob e=>?_,by rw [List.length_set];exact I.len⟩
 ·exact (hs.2 b (old b o e)).trans (I.base.keep b o e n hb hx)
 ·obtain ⟨sl,e1⟩:=I.base.slot b o e n hb hx
  exact ⟨sl,(hs.2 b (old b o e)).trans e1⟩
 ·obtain ⟨o',e1⟩:=I.base.there b o e hx
  exact ⟨o',(hs.2 b (old b o e)).trans e1⟩
 ·rcases get_set_some e2 with ⟨_,e,_⟩|⟨nj,e2⟩
  ·cases e
  ·obtain ⟨u',r',q⟩:=hl j z w e1 e2 e3
   refine ⟨u',r',?_⟩;rcases q with ⟨k,e⟩|⟨k,c,e,zc⟩
   ·refine .inl ⟨k,?_⟩
    have ne:z≠y:=fun e=>nj (nodup_ix hN (e ▸ hi) e1);show (if z=y then v else m z)=some u';rw [if_neg ne];exact e
   ·exact .inr ⟨k,c,e,zc.sameBut hs (I.cne z c e)⟩
 ·obtain ⟨w',z'⟩:=I.cell z c e
  exact ⟨w',z'.sameBut hs (I.cne z c e)⟩
 ·obtain ⟨e,n,ne,nf,d⟩:=I.pin p hp
  exact ⟨(hs.2 p.1 ne).trans e,n,ne,nf,d⟩
 ·refine (I.hok b ob e).stay (fun c w' hc q=>(hs.2 c ?_).trans q) (fun _ q=>q) fun _ _ q=>q
  rintro rfl;rcases hc with rfl|hc
  ·rw [I.free] at e;cases e
  ·rw [I.free] at hc;cases hc
theorem SR.unset {U O:AS}{H:Hp}{σ:St}{ρ:PEnv}{i:Nat}{v:Option V}(s:SR U O H σ ρ):SR U O H (σ.set i v) (ρ.set i none):=by
 refine ⟨by simp [s.len],s.dU,s.dO,s.dis,fun j q fl h=>?_,fun j k q q' a ne h1 h2 h3 h4=>?_⟩
 ·rcases get_set_some h with ⟨_,e,_⟩|⟨ne,h⟩
  ·cases e
  ·obtain ⟨w,hw,ok⟩:=s.slot j q fl h
   exact ⟨w,by rw [set_other ne];exact hw,ok⟩
 ·rcases get_set_some h1 with ⟨_,e,_⟩|⟨n1,h1⟩
  ·cases e
  rcases get_set_some h2 with ⟨_,e,_⟩|⟨n2,h2⟩
  ·cases e
  rw [set_other n1] at h3;rw [set_other n2] at h4;exact s.inj j k q q' a ne h1 h2 h3 h4
end
def cPow (i j:Int):Bool:=decide (0≤j)&&decide (j≤1000000)&&decide (i.natAbs < 2 ^ 64)
def pPow:=pIIc cPow fun i j=>i ^ j.toNat
theorem r2_pow:R2V .shr (rI CPow fun i j=>.int (i ^ j.toNat)) pPow:=r2_iic fun i j h=>by
 unfold cPow at h;unfold CPow;simp only [Zc1,decide_eq_true_eq] at h;exact ⟨h.1.1,h.1.2,h.2⟩
def isL:PV→Bool
 | .lst _=>true
 | .dct _=>true
 | _=>false
def vSetW (i:Nat) (f:VX):VF:=fun ρ=>(f ρ).map fun p=>.nx (ρ.set i (some (p,if isL p=true then .own else .shr)))
open PySem.SeqAt
def rIntB:List V→Hp→VK→Prop:=fun xs H Q=>∃b,xs = [.bl b]∧Q (.int (if b=true then 1 else 0)) H
theorem call_intB {X:Cx}:CallR X (.type "int") rIntB:=by
 intro pins s σ H xs us Q I r h;obtain ⟨b,rfl,q⟩:=h;obtain ⟨u,rfl,rx⟩:=vals1 r;cases rx;exact call_int_bool ⟨.int _,H,I.tok _,⟨_,rfl⟩,q⟩
def pIntB:List PV→Option PV
 | [.bl b]=>some (.int (if b=true then 1 else 0))
 | _=>none
theorem rl_intB:RLV .shr rIntB pIntB:=by
 intro U H ps z vs Q d hb e k
 match ps,e with
 | [.bl b],e =>
  cases e;obtain ⟨v,rfl,hv⟩:=hb.one;have:=bor_bl hv;subst this;exact ⟨b,rfl,k _ H U (.refl d) (repI U H _)⟩
def xBM (g:PV→List PV→Option PV) (f:VX) (fa:VL):VX:=fun ρ=>(f ρ).bind fun p=>(fa ρ).bind fun qs=>g p qs
end L2
namespace PySem
open PyProof.Rows PySem.W
end PySem
namespace L2
open PySem PySem.Spec PyProof.Rows PySem.SeqAt
def maxZD (d:Int):List Int→Int
 | []=>d
 | [x]=>x
 | x::y::r=>let m:=maxZD d (y::r);if m≤x then x else m
def xMaxD (fa fk:VL):VX:=fun ρ=>(fa ρ).bind fun ps=>(fk ρ).bind fun qs=>match ps,qs with
 | [.lst ps],[.int d]=>(intsP ps).map fun ns=>.int (maxZD d ns)
 | _,_=>none
end L2
namespace HT
open PySem PyProof.Rows
end HT
namespace L2
open PySem PySem.Spec PyProof.Rows
end L2
namespace PySem.W
open PySem PySem.Spec PySem.Calls PyProof.Rows Builtin Builtin.ObjectAttr Builtin.Getset_descriptor
def ExAt (x D:Addr) (h:Heap):Prop:=∃o,h.get? x=some o∧o.cls=.ref D
theorem ExAt.look {M:Model}{h:Heap}{x D:Addr}(e:ExAt x D h):Looks M h (typeOf (.ref x)) (.ref D):=by
 obtain ⟨o,h1,h2⟩:=e;exact h2 ▸ (Looks.ld h1).andThen .now
theorem ex_find {K:Frag}{M:Model}{h:Heap}{x D:Addr}{name:Str}{a g:Value}(X:K.In h) (ha:findIn K (.ref D) name=some (some a)) (hg:specialIn K a "__get__" = some (some g)) (ht:takesIn K a=some true):Looks M h (find (.ref x) (.ref D) name) (.bind g a):=by
 have l1:=looks_findIn (M:=M) X ha;have l2:Looks M h (getOf (some a)) (some g):=looks_specialIn X hg;have l3:Looks M h (dataDescriptor? (some a) (some g)) (some (g,a)):=(looks_takesIn (M:=M) X ht).andThen .now;exact l1.andThen (l2.andThen (l3.andThen (Looks.tag .now)))
section
variable {prog:Program}{w:World}{A:Around}{E:Value→Shared→Prop}{s:Shared}{K:Frag}{x D:Addr}
theorem ex_hook {name:Str}{a g:Value}{tk:Tok}{Q:Fin→Shared→Prop}(X:K.In s.heap) (T:ExAt x D s.heap) (ha:findIn K (.ref D) name=some (some a)) (hg:specialIn K a "__get__" = some (some g)) (ht:takesIn K a=some true)
  (h:wpAny (model prog w) A (call g [a,.ref x,.ref D]) (fun v z=>Q (.done (.ret v)) z) E s) :
  wpAny (model prog w) A (Builtin.«object.__getattribute__» ⟨[.ref x,.str name tk],[]⟩) Q E s:=by
 obtain ⟨h0,gg,d,t,os⟩:=s;have t0:=T.look (M:=model prog w);have t1:=ex_find (M:=model prog w) (x:=x) X ha hg ht;unfold Builtin.«object.__getattribute__»;refine wpAny_bind (m:=slotArgs _ _ _) (wpAny_pure ?_);refine wpAny_bind (m:=attrName _) (wpAny_pure ?_);refine wpAny_bind (t0.at (wpAny_bind (t1.at ?_)));show wpAny (model prog w) _ (bindTo g a (.ref x) (.ref D)) _ _ _;unfold bindTo;show wpAny (model prog w) _ (holding [a] (call g [a,.ref x,.ref D]) >>= ret) _ _ _;exact wpAny_bind (wpAny_holding (wpAny_mono h (fun v z q=>wpAny_pure q) fun _ _ q=>q))
theorem ex_check {nm:Value}{Q:Unit→Shared→Prop}{h0:Heap}{g:Array GenState}{d:Drawn}{t:Nat}{os:OsState}(t0:Looks (model prog w) h0 (typeOf (.ref x)) (.ref D)) (t3:Looks (model prog w) h0 (isSubtype (.ref D) (.type "BaseException")) true) (hq:Q () ⟨h0,g,d,t,os⟩) :
  wpAny (model prog w) A (checkBuiltinCall "BaseException.__getattribute__" ⟨[.ref x,nm],[]⟩) Q E ⟨h0,g,d,t,os⟩:=by
 have hk:builtinKind "BaseException.__getattribute__" = some .slot:=by decide +kernel
 have hsp:splitId "BaseException.__getattribute__" = some ("BaseException","__getattribute__"):=by decide +kernel
 have har:=F.args_bexc_ga (.ref x) nm;simp only [checkBuiltinCall,hk,hsp];have t4:Looks (model prog w) h0 (isInstance (.ref x) (.type "BaseException")) true:=t0.andThen t3;refine wpAny_bind (t4.at ?_)
 repeat (first|assumption|wp_step)
theorem ex_open {name:Str}{Q:Option Value→Shared→Prop}(X:K.In s.heap) (T:ExAt x D s.heap) (hga:findIn K (.ref D) "__getattribute__" = some (some (.builtin "BaseException.__getattribute__"))) (hk:findIn K (.ref D) "__getattr__" = some none) (hb:mroIn K D (.type "BaseException")=some true)
  (h:wpAny (model prog w) A.in1 (Builtin.«object.__getattribute__» ⟨[.ref x,.str name s.toks],[]⟩)
   (fun fin z=>∃v,fin=.done (.ret v)∧wpAny (model prog w) A (handedOut v) (fun v z'=>Q (some v) z') (fun _ _=>False) z) (fun _ _=>False) { s with toks:=s.toks+1 }) :
  wpAny (model prog w) A (getAttr? (.ref x) name) Q E s:=by
 obtain ⟨h0,g,d,t,os⟩:=s;have t0:=T.look (M:=model prog w);have t1:=looks_findIn (M:=model prog w) X hga;have t2:=looks_findIn (M:=model prog w) X hk;have t3:=looks_mroIn (M:=model prog w) X hb;unfold getAttr? getAttrBy? getAttrBy;refine wpAny_bind (wpAny_mkText (wpAny_bind (wpAny_attempt (wpAny_holding (wpAny_bind (t0.at (wpAny_bind (t1.at ?_))))))));show wpAny (model prog w) _ (getAttrByItsOwn (.ref x) (.str name t) (.ref D) (.builtin "BaseException.__getattribute__") false false) _ _ _;unfold getAttrByItsOwn hookBefore callGetattribute boundAndCalled;refine wpAny_bind (t2.at ?_);refine wpAny_bind (wpAny_attempt (wpAny_holding ?_));show wpAny (model prog w) _ (bindSpecial (.builtin "BaseException.__getattribute__") (.ref x) >>= _) _ _ _;refine wpAny_bind (wpAny_of_eq (F.attr_ValueError.ga.bind _) ?_);show wpAny (model prog w) _ (call (.builtin "BaseException.__getattribute__") [.ref x,.str name t]) _ _ _;refine wpAny_mono (E:=fun _ _=>False) (wpAny_call (codeAny_call_builtin F.attr_ValueError.ga.plain F.entry_bexc_ga (ex_check (ExAt.look T) t3 (wpAny_mono h (fun fin z q=>?_) fun _ _ q=>q.elim)))) (fun v z q=>q) fun _ _ q=>q.elim
 ·obtain ⟨v,rfl,q⟩:=q
  exact wpAny_mono q (fun v z' hv=>wpAny_pure hv) fun _ _ q=>q.elim
theorem ex_get {R:Result→Shared→Prop}{tp:Value}(X:K.In s.heap) (T:ExAt x D s.heap) (hm:mroIn K D (.type "object")=some true)
  (h:R (.ok (.ret (.ref D))) s):codeAny (model prog w) A (.call (.builtin "getset_descriptor.__get__") ⟨[.builtin "object.__class__",.ref x,tp],[]⟩) R s:=by
 obtain ⟨h0,g,dr,t,os⟩:=s;have t0:=T.look (M:=model prog w);have t1:=looks_mroIn (M:=model prog w) X hm;refine codeAny_call_builtin KF.slot_gs.plain KF.entry_gs (KF.slot_gs.check _ _ _ _ _ _ _ _ KF.type_class (KF.args_gs _ _ _) ?_);unfold Builtin.«getset_descriptor.__get__» descrGet;rw [dga_obj];refine wpAny_bind (wpAny_pure ?_);unfold descrGetter descrCheckInstance descrNameAndClass isInstance;simp only [KF.owner_class]
 repeat lk
 refine ⟨Code.quiet_builtin _ (by decide +kernel),codeAny_builtin KF.entry_class ?_⟩;unfold Builtin.«object.__class__» shownTypeOf
 repeat lk
 exact h
structure ExCls (K:Frag) (D:Addr):Prop where
 ga:findIn K (.ref D) "__getattribute__" = some (some (.builtin "BaseException.__getattribute__"))
 gn:findIn K (.ref D) "__getattr__" = some none
 hb:mroIn K D (.type "BaseException")=some true
 hd:hasDictIn K D=true
 ha:findIn K (.ref D) "__class__" = some (some (.builtin "object.__class__"))
 hn:specialIn K (.builtin "object.__class__") "__get__" = some (some (.builtin "getset_descriptor.__get__"))
 ht:takesIn K (.builtin "object.__class__")=some true
 hm:mroIn K D (.type "object")=some true
theorem kitx_ex (c:ExCls K D):KitX K (.ref x) (.ref D) (ExAt x D) where
 ty:=fun _ _ _ T=>T.look
 it:=fun _ _ X _=>by
  obtain ⟨cd,hc,_⟩:=any_some c.hd;unfold clsIn at hc;split at hc
  ·rename_i ho
   intro A' Q' E' s' k q;unfold isType loadHead;exact wpAny_bind (wpAny_loadPart (k _ _ (X _ _ ho)) (wpAny_pure q))
  ·cases hc
 ne:=fun h tp dd its n sl X htp=>by
  obtain ⟨cd,hc,_⟩:=any_some c.hd;refine Bool.eq_false_iff.mpr fun q=>?_;have e:D=tp:=Value.ref.inj (beq_iff_eq.mp q);subst e;unfold clsIn at hc;split at hc
  ·rename_i ho
   cases (X _ _ ho).symm.trans htp
  ·cases hc
 ca:=fun {prog w A E Q s} X T k=>ex_open X T c.ga c.gn c.hb (ex_hook (s:={ s with toks:=s.toks+1 }) X T c.ha c.hn c.ht
  (wpAny_call (ex_get (s:={ s with toks:=s.toks+1 }) X T c.hm ⟨_,rfl,handed_on rfl k⟩)))
end
end PySem.W
namespace L2
open PySem PySem.Spec PyProof.Rows
def rIsX (a:Addr) (c:V) (b:Bool):List V→Hp→VK→Prop:=fun xs H Q=>xs = [.ref a,c]∧Q (.bl b) H
theorem call_isX {X:Cx}{a:Addr}{oe:Obj}{C:Addr}{c:V}{u:Value}{b:Bool}(hp:(a,oe)∈X.pn) (hoe:oe.cls=.ref C) (hc:PySem.W.ExCls X.K C) (hu:∀u',RelV c u'→u'=u) (he:PySem.W.kitOne X.K (.ref C) u=some b):CallR X (.builtin "isinstance") (rIsX a c b):=by
 intro pins s σ H xs us Q I r h;obtain ⟨rfl,q⟩:=h;obtain ⟨v1,v2,rfl,r1,r2⟩:=vals2 r;obtain rfl:v1=Value.ref a:=r1;cases hu v2 r2;have hat:=(I.pin (a,oe) (List.mem_append_left _ hp)).1;exact PySem.W.kia_one (PySem.W.kitx_ex hc) I.kIn ⟨oe,hat,hoe⟩ he (fun z=>nomatch z) fun tk=>⟨.bl b,H,I.tok tk,rfl,q⟩
def pIsX (a:Addr) (b:Bool) (p:PV):Option PV:=match p with
 | .adr c=>if c=a then some (.bl b) else none
 | _=>none
theorem E_isX (a:Addr) (b:Bool):pIsX a b (.adr a)=some (.bl b):=by unfold pIsX;simp
theorem ve_isX {a:Addr}{c:V}{b:Bool}{m:Md}{te:TE}{f:VX}(h:VE m te f):VE .shr (tCB (rIsX a c b) (tCons te (tCons (tC c) tNil))) (x1 (pIsX a b) f):=by
 intro U O H σ ρ Q z s e k;obtain ⟨p,hp,e2⟩:=Za.mp e;refine h.bor U O H σ ρ _ p s hp fun v H1 U1 ex1 r1=>?_;cases p with
 | adr d =>
  by_cases hd:d=a
  ·subst hd
   rw [E_isX] at e2;cases e2;have hv:v=.ref d:=(rep_adr (U:=U1) (H:=H1)).mp r1;subst hv;exact ⟨rfl,k _ H1 U1 ex1 (repB U1 H1 _)⟩
  ·simp only [pIsX,if_neg hd] at e2
   cases e2
 | _=>simp only [pIsX] at e2;cases e2
structure RoomH (k:Nat) (A:Around):Prop where
 dp:A.depth+3 * k+5 < recursionLimit
 un:A.units+16 * k+200 < cLine
theorem RoomH.deeper {k:Nat}{A:Around}(r:RoomH (k+1) A) (env:Env):RoomH k (A.deeper env) :=
 ⟨by have:=r.dp;show A.depth+1+3 * k+5 < _;omega,by have:=r.un;show A.units+3+16 * k+200 < _;omega⟩
def PinAt (a:Addr) (oe:Obj) (C:Addr) (outer:List Env) (H:Hp) (h:Heap):Prop:=h.get? a=some oe∧H a=none∧a∉frs outer∧(∀v,oe.data≠.cell v)∧oe.cls=.ref C
structure FnOkH (P:Program) (w:World) (K:PySem.W.Frag) (mg:Str→Option Value) (base:Heap) (k:Nat) (f:Addr) (fd:FuncData) (ps:List Str) (C:Addr) (sp:Addr→Sp):Prop where
 len:∀a vs H Q E,sp a vs H Q E→vs.length=ps.length
 run:∀(A:Around) (outer:List Env) (s:Shared) (H:Hp) (args:Args) (us:List Value) (vs:List V) (Q:VK) (E:XK) (a:Addr) (oe:Obj),RoomH k A→Env0 P w K mg base A outer s H→PinAt a oe C outer H s.heap→BindsTo s fd args (ps.zip us)→Vals vs us→sp a vs H Q E →
  codeAny (model P w) A (.call (.ref f) args) (CR CX0 outer P w H s Q E) s
def cxH (P:Program) (w:World) (K:PySem.W.Frag) (mg:Str→Option Value) (base:Heap) (N:List Str) (qual:Str) (scope:Scope) (f:Addr) (cd:Value) (A:Around) (outer:List Env) (s:Shared) (H:Hp) (E:XK) (a:Addr) (oe:Obj):Cx :=
 { cxOf CX0 P w K mg base N qual scope f cd A outer s H E with calm:=false,pn:=[(a,oe)],xe:=fun _ _=>False }
theorem inv_startH {P:Program}{w:World}{K:PySem.W.Frag}{mg:Str→Option Value}{base:Heap}{N ps:List Str}{qual:Str}{scope:Scope}{f:Addr}{cd:Value}{A:Around}{outer:List Env}{s s1:Shared}{H:Hp}{E:XK}{us:List Value}{vs:List V}{a C:Addr}{oe:Obj}
  (S:FnScope N ps scope) (e0:Env0 P w K mg base A outer s H) (hp:PinAt a oe C outer H s.heap) (hl:vs.length=ps.length) (r:Vals vs us)
  (x:InCallC s s.heap.objs.size (bindL (envOfC qual scope s.heap.objs.size f cd).kindOf (ps.zip us) fun _=>none) (cellsFrom (s.heap.objs.size+1) scope.names []) (bindC (envOfC qual scope s.heap.objs.size f cd).kindOf (ps.zip us) fun _=>none) s1) :
  Inv (cxH P w K mg base N qual scope f cd A outer s H E a oe) [] (start N vs) H s1:=by
 have J:=inv_start (CX:=CX0) (E:=E) (A:={ A with handled:=none }) S rfl ⟨e0.frames,e0.mod,e0.bs,e0.bsz,e0.funs,e0.frf,e0.hok,e0.bare⟩ hl r x;obtain ⟨h1,tk,rfl,hk⟩:=x.done;refine ⟨⟨J.ok.mod,J.ok.kind,J.ok.glob,J.ok.blt,J.ok.above,J.ok.inj,J.ok.has,J.ok.cab,(fun z=>nomatch z),Around.frames_deeper e0.frames,J.ok.stk,J.ok.exf,J.ok.bs,J.ok.bsz,J.ok.noex,J.ok.exfs,J.ok.funs,J.ok.frf⟩,
  J.os,J.bare,J.base,J.loc,J.cell,J.free,J.freeC,fun p h=>?_,J.hok,J.len⟩
 have e:p=(a,oe):=by simpa [cxH] using h
 subst e;exact ⟨hk _ _ hp.1,hp.2.1,Nat.ne_of_lt (Heap.lt_size hp.1),hp.2.2.1,hp.2.2.2.1⟩
theorem fn_ofH {P:Program}{w:World}{K:PySem.W.Frag}{mg:Str→Option Value}{base:Heap}{k:Nat}{x qual:Str}{st:Stmt}{f C:Addr}{fd:FuncData}{N ps:List Str}{sp:Addr→Sp}(F:Fun K x qual st f fd) (S:FnScope N ps (defScope st))
  (len:∀a vs H Q E,sp a vs H Q E→vs.length=ps.length)
  (hbody:∀(cdv:Value) (A:Around) (outer:List Env) (s:Shared) (H:Hp) (vs:List V) (Q:VK) (E:XK) (a:Addr) (oe:Obj),oe.cls=.ref C→RoomH k (A.deeper (envOfC qual (defScope st) s.heap.objs.size f cdv))→sp a vs H Q E →
   ∃t,PSs (cxH P w K mg base N qual (defScope st) f cdv A outer s H E a oe) (defBody st) t∧t { nx:=fun _ H'=>Q .non H',rt:=Q } (start N vs) H):FnOkH P w K mg base (k+1) f fd ps C sp:=by
 obtain ⟨oc,od,kV,doc,pm,an,cdv,ct,osl,rfl,lk,hcd⟩:=F.ex;refine ⟨len,fun A outer s H args us vs Q E a oe hr e0 hp hb r hsp=>?_⟩;have hl:=len _ _ _ _ _ hsp;have KX:K.In s.heap:=e0.mod.kin.keeps fun b o e=>(e0.bs b o e).1;have lim:s.heap.NoLimit:=e0.mod.nolimit.keeps fun b o e=>(e0.bs b o e).1;have hkind:∀y∈ps.zip us,(defScope st).names.lookup y.1=some .local∨((defScope st).names.lookup y.1=some .cell∧((cellsFrom (s.heap.objs.size+1) (defScope st).names []).lookup y.1).isSome=true):=fun ⟨n,v⟩ hy=>by
  rcases S.par n (List.of_mem_zip hy).1 with q|q
  ·exact .inl q
  ·exact .inr ⟨q,PySem.W.cellsFrom_some _ _ _ (.inl q)⟩
 have hdep:A.depth < recursionLimit:=by have:=hr.dp;omega
 refine codeAny_call_function hdep (KX _ _ lk) rfl S.co S.gen rfl (PySem.W.codeRec_of KX hcd) (hb _ _ _ _ ?_);refine wpAny_newFunctionEnv_cells S.kind hkind fun env he s1 x=>?_;subst he;refine ⟨lim.keeps x.toInCall.keep,codeAny_func ?_⟩;obtain ⟨t,ht,hq⟩:=hbody cdv A outer s H vs Q E a oe hp.2.2.2.2 (hr.deeper _) hsp;have I:Inv (cxH P w K mg base N qual (defScope st) f cdv A outer s H E a oe) [] (start N vs) H s1:=inv_startH S e0 hp hl r x;refine wpAny_mono (ht [] s1 (start N vs) H _ I hq) (fun fl s' hs=>?_) fun e s' hs=>False.elim hs;have fin:∀{σ':St}{H':Hp}{v:V}{u:Value},Inv (cxH P w K mg base N qual (defScope st) f cdv A outer s H E a oe) [] σ' H' s'→RelV v u→Q v H'→CE outer P w H s Q u s' :=
  fun {σ' H' v u} J rv q=>⟨v,H',J.os,J.bare,J.base,J.hok,rv,q⟩
 cases fl with
 | ret u =>
  obtain ⟨v,σ',H',J,rv,q⟩:=hs;exact fin J rv q
 | next =>
  obtain ⟨σ',H',J,q⟩:=hs;exact fin (v:=V.non) (u:=Value.none) J rfl q
 | brk =>
  obtain ⟨_,_,_,q⟩:=hs;exact False.elim q
 | cont =>
  obtain ⟨_,_,_,q⟩:=hs;exact False.elim q
def unsetO (i:Nat):Out→Out
 | .nx ρ=>.nx (ρ.set i none)
 | .bk ρ=>.bk (ρ.set i none)
 | .ct ρ=>.ct (ρ.set i none)
 | .rt p b=>.rt p b
def vTry2 (Fb:VF) (Gb:VR) (hn:Nat→VF):VF:=fun ρ=>match Gb ρ with
 | some (n,ρ')=>hn n ρ'
 | none=>Fb ρ
def HB2 (cl:Nat→Addr) (X:Cx) (hs:List ExceptHandler) (n:Nat) (F:VF):Prop:=∀(pins:List (Addr×Obj)) (s:Shared) (σ:St) (H:Hp) (U O:AS) (ρ:PEnv) (D:Ends) (a:Addr) (o:Out),Land X pins σ H a (cl n) s→SR U O H σ ρ→F ρ=some o→Post U O H D o →
 wpAny (model X.prog X.w) X.A (handleBy (.ref a) X.env hs) (SP X pins D) X.xe s
theorem vs_try2 {cl:Nat→Addr}{X:Cx}{body:List Stmt}{h0:ExceptHandler}{hs:List ExceptHandler}{pos:Pos}{t:TS}{Fb:VF}{Gb:VR}{hn:Nat→VF}(hx:NoX X) (hex:X.ex = []) (hst:X.stack=X.env::X.outer) (hf:X.env.frame=some X.env.locals)
  (hb:PSs X body t) (hv:VS t Fb) (hg:RXs false cl X body Gb) (hh:∀n,HB2 cl X (h0::hs) n (hn n)):VS (tSem X (.Try body (h0::hs) [] [] pos)) (vTry2 Fb Gb hn):=by
 intro U O H σ ρ D o sr e q pins s I;unfold vTry2 at e;cases y:Gb ρ with
 | none =>
  rw [y] at e;refine wpAny_Try_except (wpAny_mono (hb pins s σ H D I (hv U O H σ ρ D _ sr e q)) (fun f s1 sp=>?_) fun e' s1 zz=>(hx e' s1 zz).elim);cases f with
  | next=>exact wpAny_execs_nil sp
  | brk=>exact sp
  | cont=>exact sp
  | ret u=>exact sp
 | some x =>
  obtain ⟨n,ρ'⟩:=x;rw [y] at e;refine wpAny_Try_except (wpAny_mono (hg pins s σ H U O ρ n ρ' I sr y) (fun _ _ f=>f.elim) fun e' s1 xp=>?_);obtain ⟨U',O',H',σ',sr',tr,fl⟩:=xp;rcases fl with ⟨a,B,t0,rfl,I',fl,kp⟩|⟨z,_⟩
  ·rw [hst] at fl
   refine wpAny_looks_onW (by rw [I.ok.frames,hst]) hf fl fun h4 held4 up4=>?_;have I4:=I'.fly hex fl.1 kp held4.1 up4;refine wpAny_landsW (s:={ s1 with heap:=h4 }) held4 fun h5 fl5 up5=>?_;have I5:=I4.fly hex held4.1 kp fl5.1 up5;exact hh n pins _ σ' H' U' O' ρ' D a o ⟨B,t0,I5,by rw [hst];exact fl5,kp⟩ sr' e (q.pre tr)
  ·cases z
section
variable {cl:Nat→Addr}{X:Cx}{n:Nat}{F:VF}{x:Str}{np pos:Pos}{Cj:Addr}
theorem hb2_none {hs:List ExceptHandler}:HB2 cl X hs n vNone:=fun _ _ _ _ _ _ _ _ _ _ _ _ e=>nomatch e
theorem hb2_hit {i:Nat}{y:Str}{b₀:Stmt}{suite:List Stmt}{rest:List ExceptHandler}{Fs:Addr→VF}(hex:X.ex = []) (hN:X.N.Nodup) (hi:X.N[i]?=some y) (hk:X.env.kindOf y=some .local) (hg:Gl X x) (hm:X.mg x=some (.ref Cj)) (he:PySem.W.exmOne X.K (.ref (cl n)) (.ref Cj)=some true)
  (hs:∀(a:Addr) (oe:Obj),oe.cls=.ref (cl n)→∃t,PSs (X.held a oe) (b₀::suite) t∧VS t (Fs a)) (hF:∀(a:Addr) (ρ:PEnv) (o:Out),i < ρ.length→F ρ=some o→∃o',Fs a (ρ.set i (some (.adr a,.shr)))=some o'∧o=unsetO i o')
  (hfn:X.fn y=true∨X.env.scope.names.lookup y=some .local:=by first|exact .inl rfl|exact .inr rfl) (hd:(x==("__debug__" : Str))=false:=by decide):HB2 cl X (.ExceptHandler (some (.Name x np)) (some y) (b₀::suite) pos::rest) n F:=by
 intro pins s σ H U O ρ D a o L sr e q;obtain ⟨B,t0,I,fl,kp⟩:=id L;refine wpAny_handleBy_cons (codeAny_handlers_test (ld_globA I hg hm ?_ hd)) (by intro z;cases z);refine (PySem.W.exm_one I.kIn (look_at fl.there) he).at ?_;refine codeAny_handlers_suite_as ?_;refine lands_againW fl fun h6 fl6 up6=>?_;have I6:=I.fly hex fl.1 kp fl6.1 up6;obtain ⟨oe,vs,hoe,hoc,hod,_⟩:=fl6.first;have nst:a∉frs X.stack:=fun z=>by
  obtain ⟨_,o',ho',hnf⟩:=I6.stack.mem z;have e:=hoe.symm.trans ho';cases e;exact hnf vs hod
 have nB:∀c,(c→∃o,B.get? a=some o)→¬c:=fun c h z=>by
  obtain ⟨o,e⟩:=h z;rw [fl6.2.1] at e;cases e
 have hHa:H a=none:=by
  cases z:H a with
  | none=>rfl
  | some u=>exact (nB (H a≠none) (fun z=>kp a (.inl z) nst) (by rw [z];intro y;cases y)).elim
 have hla:a≠X.env.locals:=fun z=>by
  obtain ⟨m,⟨o',es,ep,ho',hd',_⟩,_⟩:=I6.loc;rw [←z,hoe] at ho';cases ho';rw [hod] at hd';cases hd'
 have hfa:a∉X.fs:=fun z=>by
  obtain ⟨_,o0,ho0,_⟩:=I.ok.funs.mem z;exact nB (X.s₀.heap.get? a≠none) (fun z=>kp a (.inr (.inl z)) nst) (by rw [ho0];intro y;cases y)
 have I7:Inv (X.held a oe) pins σ H { s with heap:=h6 }:=I6.held ⟨hoe,hHa,hla,hfa,fun v z=>by rw [hod] at z;cases z⟩;refine store_ok (X:=X.held a oe) (i:=i) (v:=.ref a) I7 hN hi (.inl hk) rfl (fun s8 I8=>?_) hfn;obtain ⟨t,ht,hv⟩:=hs a oe hoc;have hiσ:i < σ.length:=by rw [I.len];exact (Zg.mp hi).1
 obtain ⟨o',ho',rfl⟩:=hF a ρ o (by rw [←sr.len];exact hiσ) e;have sr8:SR U O H (σ.set i (some (.ref a))) (ρ.set i (some (.adr a,.shr))):=sr.setS (rep_adr.mpr rfl);have hq:=hv U O H _ _ { nx:=fun σ' H'=>D.nx (σ'.set i none) H',bk:=fun σ' H'=>D.bk (σ'.set i none) H',ct:=fun σ' H'=>D.ct (σ'.set i none) H',rt:=D.rt } o' sr8 ho' (by
  cases o' with
  | nx ρ'=>exact fun U' O' H' σ' s' t'=>q U' O' H' _ s'.unset t'
  | bk ρ'=>exact fun U' O' H' σ' s' t'=>q U' O' H' _ s'.unset t'
  | ct ρ'=>exact fun U' O' H' σ' s' t'=>q U' O' H' _ s'.unset t'
  | rt p b=>exact q)
 refine wpAny_mono (ht pins s8 _ H _ I8 hq) (fun f s9 sp=>?_) fun _ _ z=>z.elim;cases f with
 | next =>
  obtain ⟨σ',H',I9,z⟩:=sp;exact gone_ok (I9.unheld I.ok) hN hi hk fun s' J=>⟨_,H',J,z⟩
 | brk =>
  obtain ⟨σ',H',I9,z⟩:=sp;exact gone_ok (I9.unheld I.ok) hN hi hk fun s' J=>⟨_,H',J,z⟩
 | cont =>
  obtain ⟨σ',H',I9,z⟩:=sp;exact gone_ok (I9.unheld I.ok) hN hi hk fun s' J=>⟨_,H',J,z⟩
 | ret u =>
  obtain ⟨v,σ',H',I9,r,z⟩:=sp;exact gone_ok (I9.unheld I.ok) hN hi hk fun s' J=>⟨v,_,H',J,r,z⟩
end
def hLk2:List (Nat×VF)→Nat→VF
 | [],_=>vNone
 | x::r,n=>if x.1=n then x.2 else hLk2 r n
theorem hh2_nil {cl:Nat→Addr}{X:Cx}{hs:List ExceptHandler}:∀n,HB2 cl X hs n (hLk2 [] n):=fun _=>hb2_none
theorem hh2_cons {cl:Nat→Addr}{X:Cx}{hs:List ExceptHandler}{n:Nat}{F:VF}{l:List (Nat×VF)}(h:HB2 cl X hs n F) (r:∀m,HB2 cl X hs m (hLk2 l m)):∀m,HB2 cl X hs m (hLk2 ((n,F)::l) m):=by
 intro m;unfold hLk2;split
 ·rename_i z
  have z:n=m:=z;subst z;exact h
 ·exact r m
end L2
namespace WB
open PySem L2
def m_are_elders:VF:=(vSeq (vSetS 2 (x1 pNeg (xC (.int (1)))))
 (vSeq (vFor (itT (xVarS 0)) (gN 3)
 (vSeq (vIf (bOr (bOf (x2 pLe (xVarS 3) (xVarS 2))) (bOf (x2 pGe (xVarS 3) (xVarS 1))))
 (vRet (xC (.bl false)) false)
 vSkip)
 (vSetS 2 (xVarS 3))))
 (vRet (x2 pLe (xL pLen (lCons (xVarS 0) lNil)) (xC (.int (3)))) false)))
def f_are_elders:List PV→Option PV:=fnM 2 4 false m_are_elders
def m_is_web:VF:=(vSeq (vIf (bOr (bOf (x2 (pEqL 3 false) (xVarS 0) (xL mkLst lNil))) (bOf (x2 pGt (xL pLen (lCons (xVarS 0) lNil)) (xC (.int (40))))))
 (vRet (xC (.bl false)) false)
 vSkip)
 (vRet (xL pAll (lCons (xComp [none,none] (itE (lCons (xVarS 0) lNil)) (gT [0,1]) bTrue (xL f_are_elders (lCons (xVarS 1) (lCons (xVarS 0) lNil)))) lNil)) false))
def f_is_web:List PV→Option PV:=fnM 1 1 false m_is_web
def m_check_web:VF:=(vIf (bNot (bOf (xL f_is_web (lCons (xVarS 0) lNil))))
 vNone
 vSkip)
def f_check_web:List PV→Option PV:=fnM 1 1 false m_check_web
def m_is_version:VF:=(vRet (xChain pLe pLt (xC (.int (0))) (xVarS 1) (xL pLen (lCons (xVarS 0) lNil))) false)
def f_is_version:List PV→Option PV:=fnM 2 2 false m_is_version
def m_check_versions:VF:=(vSeq (vDrop (xL f_check_web (lCons (xVarS 0) lNil)))
 (vIf (bNot (bOf (xL pAll (lCons (xComp [none,some 0] (itL (xVarS 1)) (gN 0) bTrue (xL f_is_version (lCons (xVarS 1) (lCons (xVarS 0) lNil)))) lNil))))
 vNone
 vSkip))
def f_check_versions:List PV→Option PV:=fnM 2 2 false m_check_versions
def m_elders_of:VF:=(vSeq (vSetO 2 (fun _=>some (.dct [])))
 (vSeq (vFor (itL (xVarS 1)) (gN 3)
 (vFor (itT (x2 pIxL (xVarS 0) (xVarS 3))) (gN 4)
 (vDPut 2 (xVarS 4) (xC (.bl true)))))
 (vRetO 2)))
def f_elders_of:List PV→Option PV:=fnM 2 5 true m_elders_of
def m_above:VF:=(vSeq (vDrop (xL f_check_versions (lCons (xVarS 0) (lCons (xL mkLst (lCons (xVarS 1) lNil)) lNil))))
 (vSeq (vSetO 2 (xDisp1 (xVarS 1) (xC (.bl true))))
 (vSeq (vFor (itRD (lCons (xVarS 1) (lCons (x1 pNeg (xC (.int (1)))) (lCons (x1 pNeg (xC (.int (1)))) lNil)))) (gN 3)
 (vIf (bOf (xDIn false (xVarS 3) (xVar 2)))
 (vDUpd 2 (xL f_elders_of (lCons (xVarS 0) (lCons (xL mkLst (lCons (xVarS 3) lNil)) lNil))))
 vSkip))
 (vRet (xL pSrtDz (lCons (xVar 2) lNil)) true))))
def f_above:List PV→Option PV:=fnM 2 4 true m_above
abbrev Web:=List (List Int)
def webP (w:Web):PV:=.lst (w.map tupZ)
def GoodE (k:Int) (e:List Int):Prop:=e.Pairwise (· < ·)∧(∀x∈e,0≤x∧x < k)∧e.length≤3
def Good (w:Web):Prop:=w≠[]∧w.length≤40∧∀(i:Nat) (e:List Int),w[i]?=some e→GoodE i e
def aeB:VF:=(vSeq (vIf (bOr (bOf (x2 pLe (xVarS 3) (xVarS 2))) (bOf (x2 pGe (xVarS 3) (xVarS 1))))
 (vRet (xC (.bl false)) false)
 vSkip)
 (vSetS 2 (xVarS 3)))
theorem ae_loop (t:PV) (k:Int):∀(e:List Int) (last:Int) (s3:Option (PV×Fl)),e.Pairwise (· < ·)→(∀x∈e,last < x∧x < k) →
  ∃l s,vLoop (gN 3) aeB (e.map PV.int) [some (t,.shr),some (.int k,.shr),some (.int last,.shr),s3]=some (.nx [some (t,.shr),some (.int k,.shr),some (.int l,.shr),s])
 | [],last,s3,_,_=>⟨last,s3,rfl⟩
 | x::e,last,s3,hp,h=>by
  have hp':=Zm1.mp hp;have hx:=h x Zf;obtain ⟨l,s,hl⟩:=ae_loop t k e x (some (.int x,.shr)) hp'.2 fun y hy=>⟨hp'.1 y hy,(h y (Ze _ hy)).2⟩
  refine ⟨l,s,?_⟩;rw [←hl,Zh];refine q_cons (ρ1:=[some (t,.shr),some (.int k,.shr),some (.int last,.shr),some (.int x,.shr)]) rfl ?_;have c1:bOf (x2 pLe (xVarS 3) (xVarS 2)) [some (t,.shr),some (.int k,.shr),some (.int last,.shr),some (.int x,.shr)]=some false:=q_b ((q_x2 rfl rfl).trans ((q_le x last).trans (by rw [Zo (by omega)])));have c2:bOf (x2 pGe (xVarS 3) (xVarS 1)) [some (t,.shr),some (.int k,.shr),some (.int last,.shr),some (.int x,.shr)]=some false:=q_b ((q_x2 rfl rfl).trans ((q_ge x k).trans (by rw [Zo (by omega)])));refine (q_nx ((q_iff ((q_orf c1).trans c2)).trans rfl)).trans rfl
theorem ae {k:Int}{e:List Int}(h:GoodE k e):f_are_elders [tupZ e,.int k]=some (.bl true):=by
 obtain ⟨h1,h2,h3⟩:=h;obtain ⟨l,s,hl⟩:=ae_loop (tupZ e) k e (-1) none h1 fun x hx=>by have:=h2 x hx;omega
 refine q_fnrt (b:=false) rfl ?_ rfl;refine (q_nx (ρ':=[some (tupZ e,.shr),some (.int k,.shr),some (.int (-1),.shr),none]) rfl).trans ?_;refine (q_nx ((q_for (xs:=e.map PV.int) rfl).trans hl)).trans ?_;refine q_ret ?_;refine (q_x2 ((q_xL (ps:=[tupZ e]) rfl).trans (q_lent _)) rfl).trans ?_;rw [q_le,Zd,Zn (by omega)]
theorem enum_map {α:Type}(g:α→PV):∀(l:List α) (k:Nat),(l.map g).zipIdx k=(l.zipIdx k).map fun q=>(g q.1,q.2)
 | [],_=>rfl
 | x::l,k=>by simp [List.zipIdx_cons,enum_map g l]
theorem bools_true:∀(n:Nat),bools (List.replicate n (PV.bl true))=some (List.replicate n true)
 | 0=>rfl
 | n+1=>by
  rw [List.replicate_succ,List.replicate_succ];show (bools (List.replicate n (PV.bl true))).map (true::·)=_;rw [bools_true n];rfl
theorem all_true (n:Nat):pAll [.lst (List.replicate n (PV.bl true))]=some (.bl true):=by
 show (bools (List.replicate n (PV.bl true))).map (fun bs=>PV.bl (bs.all id))=_;rw [bools_true];simp
theorem fm_true {α:Type}:∀(l:List α),(l.filterMap fun _=>some (PV.bl true))=List.replicate l.length (PV.bl true)
 | []=>rfl
 | x::l=>by rw [List.filterMap_cons];simp only;rw [fm_true l];rfl
theorem isw {w:Web}(h:Good w):f_is_web [webP w]=some (.bl true):=by
 obtain ⟨h1,h2,h3⟩:=h;refine q_fnrt (b:=false) rfl ?_ rfl;show m_is_web [some (webP w,.shr)]=_;have c1:bOf (x2 (pEqL 3 false) (xVarS 0) (xL mkLst lNil)) [some (webP w,.shr)]=some false:=by
  refine q_b ((q_x2 (p:=webP w) (q:=.lst []) rfl rfl).trans ?_);cases w with
  | nil=>exact absurd rfl h1
  | cons e w =>
   have:peq (.lst ((e::w).map tupZ)) (.lst [])=false:=by
    cases hh:peq (.lst ((e::w).map tupZ)) (.lst []) with
    | false=>rfl
    | true=>have:=peq_iff.mp hh;simp at this
   unfold webP;simp only [pEqL,Zh,simks,if_true];rw [Zh] at this;rw [this];rfl
 have c2:bOf (x2 pGt (xL pLen (lCons (xVarS 0) lNil)) (xC (.int (40)))) [some (webP w,.shr)]=some false:=by
  refine q_b ((q_x2 ((q_xL (ps:=[webP w]) rfl).trans (q_lenl _)) rfl).trans ?_);rw [q_gt,Zd,Zo (by omega)]
 refine (q_nx ((q_iff ((q_orf c1).trans c2)).trans rfl)).trans ?_;refine q_ret ?_;have c3:vCompL (gT [0,1]) bTrue (xL f_are_elders (lCons (xVarS 1) (lCons (xVarS 0) lNil))) (enumP (w.map tupZ)) (startR [none,none] [some (webP w,.shr)])=some (List.replicate w.length (.bl true)):=by
  have e1:enumP (w.map tupZ)=w.zipIdx.map fun q=>.tup [.int (q.2:Nat),tupZ q.1]:=by
   unfold enumP;rw [enum_map,Zi];rfl
  rw [e1];refine (q_filter (α:=List Int×Nat) (fun q=>.tup [.int (q.2:Nat),tupZ q.1]) (fun ρ=>ρ.length=2) (fun q=>some (.bl true)) (xs:=w.zipIdx) rfl ?_).trans ?_
  ·intro q hq ρ hρ
   match ρ,hρ with
   | [a,b],_ =>
    refine ⟨[some (.int (q.2:Nat),.shr),some (tupZ q.1,.shr)],rfl,rfl,.inr ⟨.bl true,rfl,?_,rfl⟩⟩;have hg:w[q.2]?=some q.1:=by
     obtain ⟨x,i⟩:=q;exact (List.mem_zipIdx_iff_getElem?.mp hq)
    exact (q_xL (ps:=[tupZ q.1,.int (q.2:Nat)]) rfl).trans (ae (h3 _ _ hg))
  ·rw [fm_true,List.length_zipIdx]
 refine (q_xL (q_l1 (q_comp (xs:=enumP (w.map tupZ)) rfl ?_ c3))).trans (all_true _);unfold enumP;simp;omega
theorem chw {w:Web}(h:Good w):f_check_web [webP w]=some .non:=by
 refine q_fnnx (ρ:=[some (webP w,.shr)]) rfl ?_;exact (q_iff (q_not (q_b ((q_xL (ps:=[webP w]) rfl).trans (isw h))))).trans rfl
theorem isv (w:Web) (v:Int) (h0:0≤v) (h1:v < w.length):f_is_version [webP w,.int v]=some (.bl true):=by
 refine q_fnrt (b:=false) rfl (q_ret (p:=.bl true) ?_) rfl;show xChain pLe pLt (xC (.int (0))) (xVarS 1) (xL pLen (lCons (xVarS 0) lNil)) [some (webP w,.shr),some (.int v,.shr)]=_;unfold xChain;show (match pLe (.int 0) (.int v) with|some (.bl true)=>_|some (.bl false)=>_|_=>_)=_;rw [q_le,Zn h0];show pLt (.int v) (.int ((w.map tupZ).length:Nat))=_;rw [q_lt,Zd,Zn h1]
theorem chv {w:Web}(h:Good w) (vs:List Int) (hv:∀v∈vs,0≤v∧v < w.length) (hl:vs.length≤1000):f_check_versions [webP w,intsV vs]=some .non:=by
 refine q_fnnx (ρ:=[some (webP w,.shr),some (intsV vs,.shr)]) rfl ?_;show m_check_versions [some (webP w,.shr),some (intsV vs,.shr)]=_;refine (q_nx (q_drop ((q_xL (ps:=[webP w]) rfl).trans (chw h)))).trans ?_;have c3:vCompL (gN 0) bTrue (xL f_is_version (lCons (xVarS 1) (lCons (xVarS 0) lNil))) (vs.map PV.int) (startR [none,some 0] [some (webP w,.shr),some (intsV vs,.shr)])=some (List.replicate vs.length (.bl true)):=by
  refine (q_filter PV.int (fun ρ=>∃s,ρ = [s,some (webP w,.shr)]) (fun q=>some (.bl true)) (xs:=vs) ⟨none,rfl⟩ ?_).trans ?_
  ·rintro x hx ρ ⟨s,rfl⟩
   refine ⟨[some (.int x,.shr),some (webP w,.shr)],rfl,⟨_,rfl⟩,.inr ⟨.bl true,rfl,?_,rfl⟩⟩;exact (q_xL (ps:=[webP w,.int x]) rfl).trans (isv w x (hv x hx).1 (hv x hx).2)
  ·rw [fm_true]
 refine (q_iff ((q_not (q_b ((q_xL (q_l1 (q_comp (xs:=vs.map PV.int) rfl (by simp;omega) c3))).trans (all_true _)))).trans rfl)).trans rfl
theorem web_at {w:Web}{v:Int}(h0:0≤v) (h1:v < w.length):∃e,w[v.toNat]?=some e∧atI (w.map tupZ) v=some (tupZ e):=by
 have hl:v.toNat < w.length:=by omega
 refine ⟨w[v.toNat],Zc hl,?_⟩;have e:=q_at (l:=w.map tupZ) (i:=v.toNat) (x:=tupZ w[v.toNat]) (by rw [Zj,Zc hl];rfl);rw [Int.toNat_of_nonneg h0] at e;exact e
def eld (w:Web) (v:Int):List Int:=(w[v.toNat]?).getD []
theorem eld_good {w:Web}(h:Good w) {v:Int}(h0:0≤v) (h1:v < w.length):GoodE v (eld w v):=by
 have hl:v.toNat < w.length:=by omega
 have e:w[v.toNat]?=some w[v.toNat]:=Zc hl;have:=h.2.2 _ _ e;rw [Int.toNat_of_nonneg h0] at this;unfold eld;rw [e];exact this
theorem ix_eld {w:Web}{v:Int}(h0:0≤v) (h1:v < w.length):pIxL (webP w) (.int v)=some (tupZ (eld w v)):=by
 obtain ⟨e,h2,h3⟩:=web_at (w:=w) h0 h1;unfold eld;rw [h2];exact h3
theorem put_loop {i k:Nat}{ρf:List Int→Option (PV×Fl)→PEnv}(h1:∀ns s,(ρf ns s)[i]?=some (some (.dct (dT ns),.own))) (h2:∀ns s x,gN k (.int x) (ρf ns s)=some (ρf ns (some (.int x,.shr)))) (h3:∀ns x,xVarS k (ρf ns (some (.int x,.shr)))=some (.int x))
  (h4:∀ns s ms,(ρf ns s).set i (some (.dct (dT ms),.own))=ρf ms s):∀(e:List Int) (ns:List Int) (s:Option (PV×Fl)),ns.length+e.length≤1000 →
  ∃s',vLoop (gN k) (vDPut i (xVarS k) (xC (.bl true))) (e.map PV.int) (ρf ns s)=some (.nx (ρf (mrgZ ns e) s'))
 | [],ns,s,_=>⟨s,rfl⟩
 | x::e,ns,s,hl=>by
  have hl':(addZ ns x).length≤ns.length+1:=by unfold addZ;split<;>simp
  simp only [Zq] at hl;obtain ⟨s',ih⟩:=put_loop h1 h2 h3 h4 e (addZ ns x) (some (.int x,.shr)) (by omega);refine ⟨s',?_⟩;rw [Zh];refine (q_cons (h2 ns s x) (ρ':=ρf (addZ ns x) (some (.int x,.shr))) ?_).trans ih;refine (q_dput rfl (h3 ns x) (h1 _ _) (by rw [dT_len];omega)).trans ?_;rw [dT_put,h4]
theorem eo {w:Web}(h:Good w) {v:Int}(h0:0≤v) (h1:v < w.length):f_elders_of [webP w,intsV [v]]=some (.dct (dT (mrgZ [] (eld w v)))):=by
 have hg:=eld_good h h0 h1;refine q_fnrt (b:=true) rfl ?_ rfl;refine (q_nx (ρ':=[some (webP w,.shr),some (intsV [v],.shr),some (.dct (dT []),.own),none,none]) rfl).trans ?_;obtain ⟨s',hs⟩:=put_loop (i:=2) (k:=4) (ρf:=fun ns s=>[some (webP w,.shr),some (intsV [v],.shr),some (.dct (dT ns),.own),some (.int v,.shr),s]) (fun _ _=>rfl) (fun _ _ _=>rfl) (fun _ _=>rfl) (fun _ _ _=>rfl) (eld w v) [] none (by have:=hg.2.2;simp;omega);have l1:vFor (itL (xVarS 1)) (gN 3) (vFor (itT (x2 pIxL (xVarS 0) (xVarS 3))) (gN 4) (vDPut 2 (xVarS 4) (xC (.bl true)))) [some (webP w,.shr),some (intsV [v],.shr),some (.dct (dT []),.own),none,none]=some (.nx [some (webP w,.shr),some (intsV [v],.shr),some (.dct (dT (mrgZ [] (eld w v))),.own),some (.int v,.shr),s']):=by
  refine (q_for (xs:=[.int v]) rfl).trans ?_;refine (q_cons (ρ1:=[some (webP w,.shr),some (intsV [v],.shr),some (.dct (dT []),.own),some (.int v,.shr),none]) rfl ((q_for (q_itT ((q_x2 rfl rfl).trans (ix_eld h0 h1)))).trans hs)).trans rfl
 refine (q_nx l1).trans rfl
def abS (w:Web) (ns:List Int) (k:Int):List Int:=if k∈ns then mrgZ ns (mrgZ [] (eld w k)) else ns
def abR (w:Web) (v:Int):List Int:=((List.range (v+1).toNat).map fun (i:Nat)=>v - (i:Int)).foldl (abS w) [v]
def ab (w:Web) (v:Int):List Int:=srtZ (abR w v)
theorem abS_ok {w:Web}(h:Good w) {ns:List Int}{k:Int}(h0:0≤k) (h1:k < w.length) (hn:ns.Nodup) (hb:∀x∈ns,0≤x∧x < (w.length:Int)):(abS w ns k).Nodup∧(∀x∈abS w ns k,0≤x∧x < (w.length:Int))∧∀x∈ns,x∈abS w ns k:=by
 unfold abS;split
 ·refine ⟨nodup_mrgZ hn,fun x hx=>?_,fun x hx=>mem_mrgZ.mpr (.inl hx)⟩
  rcases mem_mrgZ.mp hx with hx|hx
  ·exact hb x hx
  ·rcases mem_mrgZ.mp hx with hx|hx
   ·cases hx
   ·have:=(eld_good h h0 h1).2.1 x hx;omega
 ·exact ⟨hn,hb,fun x hx=>hx⟩
def abB:VF:=(vIf (bOf (xDIn false (xVarS 3) (xVar 2)))
 (vDUpd 2 (xL f_elders_of (lCons (xVarS 0) (lCons (xL mkLst (lCons (xVarS 3) lNil)) lNil))))
 vSkip)
theorem ab_loop {w:Web}(h:Good w) (v:PV):∀(ks:List Int) (ns:List Int) (s:Option (PV×Fl)),(∀k∈ks,0≤k∧k < (w.length:Int))→ns.Nodup→(∀x∈ns,0≤x∧x < (w.length:Int)) →
  (∃s',vLoop (gN 3) abB (ks.map PV.int) [some (webP w,.shr),some (v,.shr),some (.dct (dT ns),.own),s]=some (.nx [some (webP w,.shr),some (v,.shr),some (.dct (dT (ks.foldl (abS w) ns)),.own),s'])) ∧
  (ks.foldl (abS w) ns).Nodup∧(∀x∈ks.foldl (abS w) ns,0≤x∧x < (w.length:Int))∧∀x∈ns,x∈ks.foldl (abS w) ns
 | [],ns,s,_,hn,hb=>⟨⟨s,rfl⟩,hn,hb,fun x hx=>hx⟩
 | k::ks,ns,s,hk,hn,hb=>by
  have hk0:=hk k Zf;obtain ⟨a1,a2,a3⟩:=abS_ok h hk0.1 hk0.2 hn hb;obtain ⟨⟨s',ih⟩,b1,b2,b3⟩:=ab_loop h v ks (abS w ns k) (some (.int k,.shr)) (fun x hx=>hk x (Ze _ hx)) a1 a2;refine ⟨⟨s',?_⟩,b1,b2,fun x hx=>b3 x (a3 x hx)⟩;rw [Zh,List.foldl_cons,←ih];refine q_cons (ρ1:=[some (webP w,.shr),some (v,.shr),some (.dct (dT ns),.own),some (.int k,.shr)]) rfl ?_;have c1:bOf (xDIn false (xVarS 3) (xVar 2)) [some (webP w,.shr),some (v,.shr),some (.dct (dT ns),.own),some (.int k,.shr)]=some (decide (k∈ns)):=q_b (q_din (neg:=false) rfl rfl);by_cases hm:k∈ns
  ·rw [Zn hm] at c1
   refine (q_ift c1).trans ?_;have hlen:=nodup_len hn hb;have hg:=eld_good h hk0.1 hk0.2;have hl2:(mrgZ [] (eld w k)).length≤w.length:=nodup_len (nodup_mrgZ List.nodup_nil) fun x hx=>by
    rcases mem_mrgZ.mp hx with hx|hx
    ·cases hx
    ·have:=hg.2.1 x hx;omega
   have hw:=h.2.1;refine (q_dupd (ks:=dT ns) ((q_xL (ps:=[webP w,intsV [k]]) rfl).trans (eo h hk0.1 hk0.2)) rfl (by rw [dT_len,dT_len];omega)).trans ?_;rw [dT_merge];unfold abS;rw [if_pos hm];rfl
  ·rw [Zo hm] at c1
   refine (q_iff c1).trans ?_;unfold abS;rw [if_neg hm];rfl
theorem ab_ok {w:Web}(h:Good w) {v:Int}(h0:0≤v) (h1:v < w.length):f_above [webP w,.int v]=some (intsV (ab w v))∧(ab w v).Pairwise (· < ·)∧(∀x∈ab w v,0≤x∧x < (w.length:Int))∧v∈ab w v:=by
 have hks:∀k∈(List.range (v+1).toNat).map (fun (i:Nat)=>v - (i:Int)),0≤k∧k < (w.length:Int):=by
  intro k hk;obtain ⟨i,hi,rfl⟩:=List.mem_map.mp hk;have:=Zt.mp hi;omega
 obtain ⟨⟨s',e1⟩,e2,e3,e4⟩:=ab_loop h (.int v) ((List.range (v+1).toNat).map fun (i:Nat)=>v - (i:Int)) [v] none hks (by simp) (by simp;omega);refine ⟨?_,srtZ_lt e2,fun x hx=>e3 x (mem_srtZ.mp hx),mem_srtZ.mpr (e4 v (by simp))⟩;refine q_fnrt (b:=true) rfl ?_ rfl;show m_above [some (webP w,.shr),some (.int v,.shr),none,none]=_;have hw:=h.2.1;refine (q_nx (q_drop ((q_xL (ps:=[webP w,intsV [v]]) rfl).trans (chv h [v] (by simp;omega) (by simp))))).trans ?_;refine (q_nx (ρ':=[some (webP w,.shr),some (.int v,.shr),some (.dct (dT [v]),.own),none]) rfl).trans ?_;have l1:vFor (itRD (lCons (xVarS 1) (lCons (x1 pNeg (xC (.int (1)))) (lCons (x1 pNeg (xC (.int (1)))) lNil)))) (gN 3) abB [some (webP w,.shr),some (.int v,.shr),some (.dct (dT [v]),.own),none]=some (.nx [some (webP w,.shr),some (.int v,.shr),some (.dct (dT (abR w v)),.own),s']):=by
  refine (q_for (q_itRD (i:=v) (j:=-1) rfl (by omega) (by omega))).trans ?_;have:dwnP v (v - -1).toNat=((List.range (v+1).toNat).map fun (i:Nat)=>v - (i:Int)).map PV.int:=by
   unfold dwnP;rw [Zi];rfl
  rw [this];exact e1
 refine (q_nx l1).trans ?_;refine q_ret ?_;refine (q_xL (q_l1 (p:=.dct (dT (abR w v))) rfl)).trans (q_srtD ?_);have:=nodup_len e2 e3;show (abR w v).length < 64;unfold abR;omega
def m__law_cell_at:VF:=(vSeq (vIf (bOf (x2 pLt (xVarS 1) (xL pLen (lCons (xVarS 0) lNil))))
 (vRet (x2 pIxL (xVarS 0) (xVarS 1)) false)
 vSkip)
 (vRet (xC (.int (0))) false))
def f__law_cell_at:List PV→Option PV:=fnM 2 2 false m__law_cell_at
def cell (ns:List Int) (k:Nat):Int:=ns.getD k 0
theorem ca (ns:List Int) (k:Nat):f__law_cell_at [.scr ns,.int (k:Int)]=some (.int (cell ns k)):=by
 refine q_fnrt (b:=false) rfl ?_ rfl;show m__law_cell_at [some (.scr ns,.shr),some (.int (k:Int),.shr)]=_;have c1:bOf (x2 pLt (xVarS 1) (xL pLen (lCons (xVarS 0) lNil))) [some (.scr ns,.shr),some (.int (k:Int),.shr)]=some (decide ((k:Int) < (ns.length:Nat))):=q_b ((q_x2 rfl ((q_xL (ps:=[.scr ns]) rfl).trans (q_lens ns))).trans (q_lt _ _));by_cases h:k < ns.length
 ·rw [Zn (by omega)] at c1
  refine q_rt ((q_ift c1).trans (q_ret ((q_x2 rfl rfl).trans ?_)));show (atI ns (k:Int)).map PV.int=_;rw [q_at (Zc h)];unfold cell;rw [Zy,Zc h];rfl
 ·rw [Zo (by omega)] at c1
  refine (q_nx ((q_iff c1).trans rfl)).trans ?_;unfold cell;rw [Zy,List.getElem?_eq_none (by omega)];rfl
theorem mod_in (a v:Int) (h:0 < v):0≤a % v∧a % v < v:=⟨Int.emod_nonneg _ (by omega),Int.emod_lt_of_pos _ h⟩
end WB
namespace L2
open PySem
theorem q_inv {tg:VTg}{body:VF}{xs:List PV}{ρ:PEnv}(Inv:Nat→PEnv→Prop) (h0:Inv 0 ρ)
  (step:∀i x ρ,xs[i]?=some x→Inv i ρ→∃ρ1 ρ',tg x ρ=some ρ1∧body ρ1=some (.nx ρ')∧Inv (i+1) ρ'):∃ρ',vLoop tg body xs ρ=some (.nx ρ')∧Inv xs.length ρ':=by
 have go:∀(n i:Nat) (ρ:PEnv),xs.length - i=n→i≤xs.length→Inv i ρ→∃ρ',vLoop tg body (xs.drop i) ρ=some (.nx ρ')∧Inv xs.length ρ':=by
  intro n
  induction n with
  | zero =>
   intro i ρ hn hi iv;have:i=xs.length:=by omega
   subst this;rw [List.drop_length];exact ⟨ρ,rfl,iv⟩
  | succ n ih =>
   intro i ρ hn hi iv;have hl:i < xs.length:=by omega
   obtain ⟨ρ1,ρ',h1,h2,h3⟩:=step i xs[i] ρ (Zc hl) iv;obtain ⟨ρ2,h4,h5⟩:=ih (i+1) ρ' (by omega) hl h3;refine ⟨ρ2,?_,h5⟩;rw [List.drop_eq_getElem_cons hl];exact (q_cons h1 h2).trans h4
 simpa using go xs.length 0 ρ (by simp) (Nat.zero_le _) h0
end L2
namespace WB
open PySem L2
end WB
namespace L2
open PySem
theorem nodef {α:Type}{a b:α}(h:a=b):a=b:=by cases h;exact rfl
def seqO (o:Option Out) (G:VF):Option Out:=match o with
 | some (.nx ρ)=>G ρ
 | o=>o
theorem E_seq (F G:VF) (ρ:PEnv):vSeq F G ρ=seqO (F ρ) G:=nodef rfl
theorem E_seq_nx (ρ:PEnv) (G:VF):seqO (some (.nx ρ)) G=G ρ:=nodef rfl
theorem E_seq_rt (p:PV) (b:Bool) (G:VF):seqO (some (.rt p b)) G=some (.rt p b):=nodef rfl
theorem E_seq_bk (ρ:PEnv) (G:VF):seqO (some (.bk ρ)) G=some (.bk ρ):=nodef rfl
theorem E_seq_ct (ρ:PEnv) (G:VF):seqO (some (.ct ρ)) G=some (.ct ρ):=nodef rfl
def ifO (c:Option Bool) (F G:VF) (ρ:PEnv):Option Out:=match c with
 | some true=>F ρ
 | some false=>G ρ
 | none=>none
theorem E_if (c:VB) (F G:VF) (ρ:PEnv):vIf c F G ρ=ifO (c ρ) F G ρ:=nodef rfl
theorem E_if_t (F G:VF) (ρ:PEnv):ifO (some true) F G ρ=F ρ:=nodef rfl
theorem E_if_f (F G:VF) (ρ:PEnv):ifO (some false) F G ρ=G ρ:=nodef rfl
def ifX (c:Option Bool) (F G:VX) (ρ:PEnv):Option PV:=match c with
 | some true=>F ρ
 | some false=>G ρ
 | none=>none
theorem E_ifX (c:VB) (F G:VX) (ρ:PEnv):xIf c F G ρ=ifX (c ρ) F G ρ:=nodef rfl
theorem E_ifX_t (F G:VX) (ρ:PEnv):ifX (some true) F G ρ=F ρ:=nodef rfl
theorem E_ifX_f (F G:VX) (ρ:PEnv):ifX (some false) F G ρ=G ρ:=nodef rfl
def andO (c:Option Bool) (G:VB) (ρ:PEnv):Option Bool:=match c with
 | some true=>G ρ
 | some false=>some false
 | none=>none
theorem E_and (c G:VB) (ρ:PEnv):bAnd c G ρ=andO (c ρ) G ρ:=nodef rfl
theorem E_and_t (G:VB) (ρ:PEnv):andO (some true) G ρ=G ρ:=nodef rfl
theorem E_and_f (G:VB) (ρ:PEnv):andO (some false) G ρ=some false:=nodef rfl
def orO (c:Option Bool) (G:VB) (ρ:PEnv):Option Bool:=match c with
 | some true=>some true
 | some false=>G ρ
 | none=>none
theorem E_or (c G:VB) (ρ:PEnv):bOr c G ρ=orO (c ρ) G ρ:=nodef rfl
theorem E_or_t (G:VB) (ρ:PEnv):orO (some true) G ρ=some true:=nodef rfl
theorem E_or_f (G:VB) (ρ:PEnv):orO (some false) G ρ=G ρ:=nodef rfl
def bind1 (o:Option PV) (g:PV→Option PV):Option PV:=o.bind g
def bind2 (a b:Option PV) (g:PV→PV→Option PV):Option PV:=a.bind fun p=>b.bind fun q=>g p q
def bindL (o:Option (List PV)) (g:List PV→Option PV):Option PV:=o.bind g
def consO (o:Option PV) (r:Option (List PV)):Option (List PV):=o.bind fun p=>r.bind fun ps=>some (p::ps)
theorem E_x1 (g:PV→Option PV) (f:VX) (ρ:PEnv):x1 g f ρ=bind1 (f ρ) g:=nodef rfl
theorem E_x1s (p:PV) (g:PV→Option PV):bind1 (some p) g=g p:=nodef rfl
theorem E_x2 (g:PV→PV→Option PV) (f h:VX) (ρ:PEnv):x2 g f h ρ=bind2 (f ρ) (h ρ) g:=nodef rfl
theorem E_x2s (p q:PV) (g:PV→PV→Option PV):bind2 (some p) (some q) g=g p q:=nodef rfl
theorem E_xL (g:List PV→Option PV) (f:VL) (ρ:PEnv):xL g f ρ=bindL (f ρ) g:=nodef rfl
theorem E_xLs (p:List PV) (g:List PV→Option PV):bindL (some p) g=g p:=nodef rfl
theorem E_lc (f:VX) (r:VL) (ρ:PEnv):lCons f r ρ=consO (f ρ) (r ρ):=nodef rfl
theorem E_lcs (p:PV) (ps:List PV):consO (some p) (some ps)=some (p::ps):=nodef rfl
theorem E_ln (ρ:PEnv):lNil ρ=some []:=nodef rfl
theorem E_c (p:PV) (ρ:PEnv):xC p ρ=some p:=nodef rfl
def getO (o:Option (Option (PV×Fl))):Option PV:=match o with
 | some (some (p,_))=>some p
 | _=>none
def getS (o:Option (Option (PV×Fl))):Option PV:=match o with
 | some (some (p,.shr))=>some p
 | _=>none
theorem E_var (i:Nat) (ρ:PEnv):xVar i ρ=getO ρ[i]?:=nodef rfl
theorem E_var_s (p:PV) (fl:Fl):getO (some (some (p,fl)))=some p:=nodef rfl
theorem E_varS (i:Nat) (ρ:PEnv):xVarS i ρ=getS ρ[i]?:=nodef rfl
theorem E_varS_s (p:PV):getS (some (some (p,.shr)))=some p:=nodef rfl
def isBO (o:Option PV):Option Bool:=o.bind isB
theorem E_bOf (f:VX) (ρ:PEnv):bOf f ρ=isBO (f ρ):=nodef rfl
theorem E_bOf_s (b:Bool):isBO (some (.bl b))=some b:=nodef rfl
def notO (o:Option Bool):Option Bool:=o.map (!·)
theorem E_not (f:VB) (ρ:PEnv):bNot f ρ=notO (f ρ):=nodef rfl
theorem E_not_s (b:Bool):notO (some b)=some (!b):=nodef rfl
def blO (o:Option Bool):Option PV:=o.map PV.bl
theorem E_xB (f:VB) (ρ:PEnv):xB f ρ=blO (f ρ):=nodef rfl
theorem E_xB_s (b:Bool):blO (some b)=some (.bl b):=nodef rfl
theorem E_true (ρ:PEnv):bTrue ρ=some true:=nodef rfl
def retO (o:Option PV) (b:Bool):Option Out:=o.map fun p=>.rt p b
theorem E_ret (f:VX) (b:Bool) (ρ:PEnv):vRet f b ρ=retO (f ρ) b:=nodef rfl
theorem E_ret_s (p:PV) (b:Bool):retO (some p) b=some (.rt p b):=nodef rfl
def rtO (o:Option (Option (PV×Fl))):Option Out:=match o with
 | some (some (p,.own))=>some (.rt p true)
 | _=>none
theorem E_retO (i:Nat) (ρ:PEnv):vRetO i ρ=rtO ρ[i]?:=nodef rfl
theorem E_retO_s (p:PV):rtO (some (some (p,.own)))=some (.rt p true):=nodef rfl
def setO (i:Nat) (fl:Fl) (o:Option PV) (ρ:PEnv):Option Out:=o.map fun p=>.nx (ρ.set i (some (p,fl)))
theorem E_setS (i:Nat) (f:VX) (ρ:PEnv):vSetS i f ρ=setO i .shr (f ρ) ρ:=nodef rfl
theorem E_setO (i:Nat) (f:VX) (ρ:PEnv):vSetO i f ρ=setO i .own (f ρ) ρ:=nodef rfl
theorem E_set_s (i:Nat) (fl:Fl) (p:PV) (ρ:PEnv):setO i fl (some p) ρ=some (.nx (ρ.set i (some (p,fl)))):=nodef rfl
def setW (i:Nat) (o:Option PV) (ρ:PEnv):Option Out:=o.map fun p=>.nx (ρ.set i (some (p,if isL p=true then .own else .shr)))
theorem E_setW (i:Nat) (f:VX) (ρ:PEnv):vSetW i f ρ=setW i (f ρ) ρ:=nodef rfl
theorem E_setW_l (i:Nat) (ps:List PV) (ρ:PEnv):setW i (some (.lst ps)) ρ=some (.nx (ρ.set i (some (.lst ps,.own)))):=nodef rfl
theorem E_setW_t (i:Nat) (ps:List PV) (ρ:PEnv):setW i (some (.tup ps)) ρ=some (.nx (ρ.set i (some (.tup ps,.shr)))):=nodef rfl
theorem E_setW_b (i:Nat) (b:Bool) (ρ:PEnv):setW i (some (.bl b)) ρ=some (.nx (ρ.set i (some (.bl b,.shr)))):=nodef rfl
theorem E_setW_n (i:Nat) (ρ:PEnv):setW i (some .non) ρ=some (.nx (ρ.set i (some (.non,.shr)))):=nodef rfl
theorem E_setW_i (i:Nat) (b:Int) (ρ:PEnv):setW i (some (.int b)) ρ=some (.nx (ρ.set i (some (.int b,.shr)))):=nodef rfl
def dropO (o:Option PV) (ρ:PEnv):Option Out:=o.map fun _=>.nx ρ
theorem E_drop (f:VX) (ρ:PEnv):vDrop f ρ=dropO (f ρ) ρ:=nodef rfl
theorem E_drop_s (p:PV) (ρ:PEnv):dropO (some p) ρ=some (.nx ρ):=nodef rfl
theorem E_skip (ρ:PEnv):vSkip ρ=some (.nx ρ):=nodef rfl
theorem E_brk (ρ:PEnv):vBrk ρ=some (.bk ρ):=nodef rfl
theorem E_cnt (ρ:PEnv):vCnt ρ=some (.ct ρ):=nodef rfl
def wrO (i:Nat) (g:PV→Option PV) (o:Option (Option (PV×Fl))) (ρ:PEnv):Option Out:=match o with
 | some (some (p,.own))=>(g p).map fun p'=>.nx (ρ.set i (some (p',.own)))
 | _=>none
def appO (i:Nat) (q:Option PV) (o:Option (Option (PV×Fl))) (ρ:PEnv):Option Out:=q.bind fun q=>wrO i (fun p=>match p with
 | .lst ps=>if small? ps.length then some (.lst (ps++[q])) else none
 | _=>none) o ρ
theorem E_app (i:Nat) (f:VX) (ρ:PEnv):vAppend i f ρ=appO i (f ρ) ρ[i]? ρ:=nodef rfl
theorem E_app_s {i:Nat}{q:PV}{ps:List PV}{ρ:PEnv}(h:ps.length≤1000000):appO i (some q) (some (some (.lst ps,.own))) ρ=some (.nx (ρ.set i (some (.lst (ps++[q]),.own)))):=by
 show Option.map _ (if small? ps.length=true then _ else _)=_;rw [if_pos (q_sm h)];rfl
def extO (i:Nat) (q:Option PV) (o:Option (Option (PV×Fl))) (ρ:PEnv):Option Out:=q.bind fun q=>wrO i (fun p=>match p,q with
 | .lst ps,.lst qs=>if small? (ps.length+qs.length) then some (.lst (ps++qs)) else none
 | _,_=>none) o ρ
theorem E_ext (i:Nat) (f:VX) (ρ:PEnv):vExtend i f ρ=extO i (f ρ) ρ[i]? ρ:=nodef rfl
theorem E_ext_s {i:Nat}{qs ps:List PV}{ρ:PEnv}(h:ps.length+qs.length≤1000000):extO i (some (.lst qs)) (some (some (.lst ps,.own))) ρ=some (.nx (ρ.set i (some (.lst (ps++qs),.own)))):=by
 show Option.map _ (if small? (ps.length+qs.length)=true then _ else _)=_;rw [if_pos (q_sm h)];rfl
def augO (i:Nat) (g:Int→Int→Int) (a b:Option PV) (ρ:PEnv):Option Out:=match a,b with
 | some (.int x),some (.int y)=>some (.nx (ρ.set i (some (.int (g x y),.shr))))
 | _,_=>none
theorem E_aug (i:Nat) (g:Int→Int→Int) (f:VX) (ρ:PEnv):vAug i g f ρ=augO i g (xVar i ρ) (f ρ) ρ:=nodef rfl
theorem E_aug_s (i:Nat) (g:Int→Int→Int) (x y:Int) (ρ:PEnv):augO i g (some (.int x)) (some (.int y)) ρ=some (.nx (ρ.set i (some (.int (g x y),.shr)))):=nodef rfl
def unpO (tg:VTg) (o:Option PV) (ρ:PEnv):Option Out:=o.bind fun p=>(tg p ρ).map Out.nx
theorem E_unp (tg:VTg) (f:VX) (ρ:PEnv):vUnp tg f ρ=unpO tg (f ρ) ρ:=nodef rfl
def nxO (o:Option PEnv):Option Out:=o.map Out.nx
theorem E_unp_s (tg:VTg) (p:PV) (ρ:PEnv):unpO tg (some p) ρ=nxO (tg p ρ):=nodef rfl
theorem E_nxO (ρ:PEnv):nxO (some ρ)=some (.nx ρ):=nodef rfl
theorem E_gN (i:Nat) (p:PV) (ρ:PEnv):gN i p ρ=some (ρ.set i (some (p,.shr))):=nodef rfl
theorem E_gT (is:List Nat) (ps:List PV) (ρ:PEnv):gT is (.tup ps) ρ=gAll is ps ρ:=nodef rfl
theorem E_gA0 (ρ:PEnv):gAll [] [] ρ=some ρ:=nodef rfl
theorem E_gA (i:Nat) (is:List Nat) (p:PV) (ps:List PV) (ρ:PEnv):gAll (i::is) (p::ps) ρ=gAll is ps (ρ.set i (some (p,.shr))):=nodef rfl
def parO (i j:Nat) (o:Option (List PV)) (ρ:PEnv):Option Out:=o.bind fun ps=>match ps with
 | [p,q]=>some (.nx ((ρ.set i (some (p,.shr))).set j (some (q,.shr))))
 | _=>none
theorem E_par (i j:Nat) (f:VL) (ρ:PEnv):vPar i j f ρ=parO i j (f ρ) ρ:=nodef rfl
theorem E_par_s (i j:Nat) (p q:PV) (ρ:PEnv):parO i j (some [p,q]) ρ=some (.nx ((ρ.set i (some (p,.shr))).set j (some (q,.shr)))):=nodef rfl
def slO (o:Option PV) (lo hi:Option (Option Int)):Option PV:=o.bind fun p=>lo.bind fun l=>hi.bind fun u=>match p with
 | .lst ps=>some (.lst (cutP ps l u))
 | _=>none
theorem E_sl (f:VX) (lo hi:PEnv→Option (Option Int)) (ρ:PEnv):xSl f lo hi ρ=slO (f ρ) (lo ρ) (hi ρ):=nodef rfl
theorem E_sl_s (ps:List PV) (l u:Option Int):slO (some (.lst ps)) (some l) (some u)=some (.lst (cutP ps l u)):=nodef rfl
theorem E_oN (ρ:PEnv):oNone ρ=some none:=nodef rfl
def oS (o:Option PV):Option (Option Int):=(o.bind isI).map some
theorem E_oS (f:VX) (ρ:PEnv):oSome f ρ=oS (f ρ):=nodef rfl
theorem E_oS_s (i:Int):oS (some (.int i))=some (some i):=nodef rfl
def forO (o:Option (List PV)) (tg:VTg) (body:VF) (ρ:PEnv):Option Out:=o.bind fun xs=>vLoop tg body xs ρ
theorem E_for (it:VL) (tg:VTg) (body:VF) (ρ:PEnv):vFor it tg body ρ=forO (it ρ) tg body ρ:=nodef rfl
theorem E_for_s (xs:List PV) (tg:VTg) (body:VF) (ρ:PEnv):forO (some xs) tg body ρ=vLoop tg body xs ρ:=nodef rfl
def chO (g g':PV→PV→Option PV) (a b:Option PV) (fc:VX) (ρ:PEnv):Option PV:=a.bind fun p=>b.bind fun q=>match g p q with
 | some (.bl true)=>(fc ρ).bind fun r=>g' q r
 | some (.bl false)=>some (.bl false)
 | _=>none
def chP (o:Option PV) (g':PV→PV→Option PV) (q:PV) (fc:VX) (ρ:PEnv):Option PV:=match o with
 | some (.bl true)=>bind1 (fc ρ) (g' q)
 | some (.bl false)=>some (.bl false)
 | _=>none
theorem E_ch (g g':PV→PV→Option PV) (fa fb fc:VX) (ρ:PEnv):xChain g g' fa fb fc ρ=chO g g' (fa ρ) (fb ρ) fc ρ:=nodef rfl
theorem E_ch_s (g g':PV→PV→Option PV) (p q:PV) (fc:VX) (ρ:PEnv):chO g g' (some p) (some q) fc ρ=chP (g p q) g' q fc ρ:=nodef rfl
theorem E_ch_t (g':PV→PV→Option PV) (q:PV) (fc:VX) (ρ:PEnv):chP (some (.bl true)) g' q fc ρ=bind1 (fc ρ) (g' q):=nodef rfl
theorem E_ch_f (g':PV→PV→Option PV) (q:PV) (fc:VX) (ρ:PEnv):chP (some (.bl false)) g' q fc ρ=some (.bl false):=nodef rfl
def bmO (a:Option PV) (b:Option (List PV)) (g:PV→List PV→Option PV):Option PV:=a.bind fun p=>b.bind fun qs=>g p qs
theorem E_bm (g:PV→List PV→Option PV) (f:VX) (fa:VL) (ρ:PEnv):xBM g f fa ρ=bmO (f ρ) (fa ρ) g:=nodef rfl
theorem E_bm_s (p:PV) (qs:List PV) (g:PV→List PV→Option PV):bmO (some p) (some qs) g=g p qs:=nodef rfl
def mxO (a b:Option (List PV)):Option PV:=a.bind fun ps=>b.bind fun qs=>match ps,qs with
 | [.lst ps],[.int d]=>(intsP ps).map fun ns=>.int (maxZD d ns)
 | _,_=>none
theorem E_mx (fa fk:VL) (ρ:PEnv):xMaxD fa fk ρ=mxO (fa ρ) (fk ρ):=nodef rfl
theorem E_mx_s (ns:List Int) (d:Int):mxO (some [intsV ns]) (some [.int d])=some (.int (maxZD d ns)):=by
 show (intsP (ns.map PV.int)).map _=_;rw [intsP_map];rfl
def revO (a b:Option PV):Option PV:=a.bind fun p=>b.bind fun q=>match p,q with
 | .lst ps,.int i=>if i = -1 then some (.lst ps.reverse) else none
 | _,_=>none
theorem E_rev (f g:VX) (ρ:PEnv):xRev f g ρ=revO (f ρ) (g ρ):=nodef rfl
theorem E_rev_s (ps:List PV):revO (some (.lst ps)) (some (.int (-1)))=some (.lst ps.reverse):=nodef rfl
theorem e_add (i j:Int):pAdd (.int i) (.int j)=some (.int (i+j)):=nodef rfl
theorem e_sub (i j:Int):pSub (.int i) (.int j)=some (.int (i - j)):=nodef rfl
theorem e_neg (i:Int):pNeg (.int i)=some (.int (-i)):=nodef rfl
theorem e_eqi (i j:Int):pEq (.int i) (.int j)=some (.bl (decide (i=j))):=nodef rfl
theorem e_eqs (i j:Str):pEq (.str i) (.str j)=some (.bl (decide (i=j))):=nodef rfl
theorem e_eqb (i j:Bool):pEq (.bl i) (.bl j)=some (.bl (decide (i=j))):=nodef rfl
theorem e_nei (i j:Int):pNe (.int i) (.int j)=some (.bl (!decide (i=j))):=nodef rfl
theorem e_nes (i j:Str):pNe (.str i) (.str j)=some (.bl (!decide (i=j))):=nodef rfl
theorem e_le (i j:Int):pLe (.int i) (.int j)=some (.bl (decide (i≤j))):=nodef rfl
theorem e_lt (i j:Int):pLt (.int i) (.int j)=some (.bl (decide (i < j))):=nodef rfl
theorem e_gt (i j:Int):pGt (.int i) (.int j)=some (.bl (decide (j < i))):=nodef rfl
theorem e_ge (i j:Int):pGe (.int i) (.int j)=some (.bl (decide (j≤i))):=nodef rfl
theorem e_max2 (i j:Int):pMax2 [.int i,.int j]=some (.int (if j > i then j else i)):=nodef rfl
theorem e_isB (b:Bool):isB (.bl b)=some b:=nodef rfl
theorem e_isI (b:Int):isI (.int b)=some b:=nodef rfl
theorem e_lenl (ps:List PV):pLen [.lst ps]=some (.int ps.length):=nodef rfl
theorem e_lent (ps:List PV):pLen [.tup ps]=some (.int ps.length):=nodef rfl
theorem e_lens (ps:List Int):pLen [.scr ps]=some (.int ps.length):=nodef rfl
theorem e_lenS {x:Str}(h:x.length≤1000000):pLenS [.str x]=some (.int x.length):=by simp only [pLenS];rw [if_pos (q_sm h)]
theorem e_ixl (ps:List PV) (i:Int):pIxL (.lst ps) (.int i)=atI ps i:=nodef rfl
theorem e_ixt (ps:List PV) (i:Int):pIxT (.tup ps) (.int i)=atI ps i:=nodef rfl
theorem e_notN (i:Int):pNotN (.int i)=some (.bl true):=nodef rfl
theorem e_notNn:pNotN .non=some (.bl false):=nodef rfl
theorem e_isN:pIsN .non=some (.bl true):=nodef rfl
theorem e_isNs (x:Str):pIsN (.str x)=some (.bl false):=nodef rfl
theorem e_isNl (x:List PV):pIsN (.lst x)=some (.bl false):=nodef rfl
theorem e_mk0:mkLst []=some (.lst []):=nodef rfl
theorem e_mk1 (p:PV):mkLst [p]=some (.lst [p]):=nodef rfl
theorem e_mk2 (p q:PV):mkLst [p,q]=some (.lst [p,q]):=nodef rfl
theorem e_mk3 (p q r:PV):mkLst [p,q,r]=some (.lst [p,q,r]):=nodef rfl
theorem e_mt0:mkTup []=some (.tup []):=nodef rfl
theorem e_mt1 (p:PV):mkTup [p]=some (.tup [p]):=nodef rfl
theorem e_mt2 (p q:PV):mkTup [p,q]=some (.tup [p,q]):=nodef rfl
theorem e_mt3 (p q r:PV):mkTup [p,q,r]=some (.tup [p,q,r]):=nodef rfl
theorem e_mod {i j:Int}(h:0 < j):pMod (.int i) (.int j)=some (.int (i % j)):=q_mod i j h
theorem e_div {i j:Int}(h:0 < j) (h2:j < 1073741824):pDiv (.int i) (.int j)=some (.int (i / j)):=q_div i j h h2
theorem e_mul {i j:Int}(h:0≤i) (h2:i < 4294967296):pMul (.int i) (.int j)=some (.int (i * j)):=q_mul i j h h2
theorem e_mulR {i j:Int}(h:0≤j) (h2:j < 4294967296):pMul (.int i) (.int j)=some (.int (i * j)):=by
 have e:(2:Int) ^ 64=18446744073709551616:=by decide
 have c:cMul i j=true:=by
  unfold cMul;rw [e,Zn (show -18446744073709551616 < j by omega),Zn (show j < 18446744073709551616 by omega),Bool.or_eq_true];exact .inr rfl
 unfold pMul pIIc;simp only [c,if_true]
theorem e_ixs (ns:List Int) (i:Int):pIxL (.scr ns) (.int i)=(atI ns i).map PV.int:=nodef rfl
theorem e_ms {α β:Type}(a:α) (f:α→β):(some a).map f=some (f a):=nodef rfl
theorem e_mk4 (p q r s:PV):mkLst [p,q,r,s]=some (.lst [p,q,r,s]):=nodef rfl
theorem e_isiL (ps:List PV):pIsi [("list",true)] (.lst ps)=some (.bl true):=nodef rfl
theorem e_isiT (ps:List PV):pIsi [("tuple",true)] (.tup ps)=some (.bl true):=nodef rfl
theorem e_isiS (x:Str):pIsi [("str",true)] (.str x)=some (.bl true):=nodef rfl
theorem e_intB (b:Bool):pIntB [.bl b]=some (.int (if b=true then 1 else 0)):=nodef rfl
theorem e_list (ps:List PV):pList [.lst ps]=some (.lst ps):=nodef rfl
theorem e_sm {n:Nat}(h:n≤1000000):small? n=true:=Zn h
theorem e_cat {ps qs:List PV}(h:ps.length+qs.length≤1000000):pCat (.lst ps) (.lst qs)=some (.lst (ps++qs)):=q_cat ps qs h
theorem e_all (bs:List Bool):pAll [.lst (bs.map PV.bl)]=some (.bl (bs.all id)):=by simp only [pAll];rw [bools_of];rfl
theorem e_atm {α:Type}{l:List α}{f:α→PV}{i:Nat}{x:α}(h:l[i]?=some x):atI (l.map f) (i:Int)=some (f x):=q_at (by rw [Zj,h];rfl)
theorem e_map {α:Type}{tg:VTg}{elt:VX}(e:α→PV) (g:α→PV) (Inv:PEnv→Prop):∀(xs:List α) (ρ:PEnv),Inv ρ→(∀x∈xs,∀ρ,Inv ρ→∃ρ1,tg (e x) ρ=some ρ1∧Inv ρ1∧elt ρ1=some (g x))→vCompL tg bTrue elt (xs.map e) ρ=some (xs.map g)
 | [],ρ,_,_=>rfl
 | x::xs,ρ,hI,h=>by
  obtain ⟨ρ1,h1,h2,h3⟩:=h x Zf ρ hI;have ih:=e_map e g Inv xs ρ1 h2 fun y hy=>h y (Ze _ hy);rw [Zh,vCompL,h1];simp only [bTrue,h3,ih];rfl
theorem e_filt {α:Type}{tg:VTg}{cond:VB}{elt:VX}(e:α→PV) (p:α→Bool) (g:α→PV) (Inv:PEnv→Prop):∀(xs:List α) (ρ:PEnv),Inv ρ→(∀x∈xs,∀ρ,Inv ρ→∃ρ1,tg (e x) ρ=some ρ1∧Inv ρ1∧cond ρ1=some (p x)∧elt ρ1=some (g x))→vCompL tg cond elt (xs.map e) ρ=some ((xs.filter p).map g)
 | [],ρ,_,_=>rfl
 | x::xs,ρ,hI,h=>by
  obtain ⟨ρ1,h1,h2,h3,h4⟩:=h x Zf ρ hI;have ih:=e_filt e p g Inv xs ρ1 h2 fun y hy=>h y (Ze _ hy);rw [Zh,vCompL,h1];simp only [h3];cases hp:p x with
  | false=>rw [List.filter_cons_of_neg (by simp [hp])];exact ih
  | true =>
   rw [List.filter_cons_of_pos hp];simp only [h4,ih];rfl
theorem e_comp {src:List (Option Nat)}{it:VL}{tg:VTg}{c:VB}{f:VX}{ρ:PEnv}{xs ys:List PV}(h:it ρ=some xs) (hs:xs.length≤1000000) (h2:vCompL tg c f xs (startR src ρ)=some ys):xComp src it tg c f ρ=some (.lst ys):=q_comp h hs h2
theorem Room.mark {k:Nat}{A:Around}(r:Room k A) (v:Option Value):RoomH k (A.mark v):=⟨r.dp,r.un⟩
open PySem.Spec PyProof.Rows
end L2
namespace L2
open PySem
open PySem.Spec PyProof.Rows
def RXp (k:Bool) (cl:Nat→Addr) (X:Cx) (b:List Stmt) (G:VR):Prop:=∀(pins:List (Addr×Obj)) (s:Shared) (σ:St) (H:Hp) (U O:AS) (ρ:PEnv) (n:Nat) (ρ':PEnv) (E:Value→Shared→Prop),Inv X pins σ H s→SR U O H σ ρ→G ρ=some (n,ρ') →
 PassesOwn (model X.prog X.w) X.A X.env E→(∀e s',XPost k X pins U O H (cl n) ρ' e s'→E e s')→wpAny (model X.prog X.w) X.A (execs b X.env) (fun _ _=>False) E s
def RXp1 (k:Bool) (cl:Nat→Addr) (X:Cx) (b:Stmt) (G:VR):Prop:=∀(pins:List (Addr×Obj)) (s:Shared) (σ:St) (H:Hp) (U O:AS) (ρ:PEnv) (n:Nat) (ρ':PEnv) (E:Value→Shared→Prop),Inv X pins σ H s→SR U O H σ ρ→G ρ=some (n,ρ') →
 PassesOwn (model X.prog X.w) X.A X.env E→(∀e s',XPost k X pins U O H (cl n) ρ' e s'→E e s')→wpAny (model X.prog X.w) X.A (exec b X.env) (fun _ _=>False) E s
section
variable {k:Bool}{cl:Nat→Addr}{X:Cx}{pos:Pos}
theorem rxp_of {st:List Stmt}{G:VR}(h:RXs k cl X st G):RXp k cl X st G:=fun pins s σ H U O ρ n ρ' E I sr e _ hE=>wpAny_mono (h pins s σ H U O ρ n ρ' I sr e) (fun _ _ q=>q) hE
theorem rxp1_of {st:Stmt}{G:VR}(h:RX1 k cl X st G):RXp1 k cl X st G:=fun pins s σ H U O ρ n ρ' E I sr e _ hE=>wpAny_mono (h pins s σ H U O ρ n ρ' I sr e) (fun _ _ q=>q) hE
theorem rxp_cons {st:Stmt}{rest:List Stmt}{t:TS}{F:VF}{G1 G2:VR}(hx:NoX X) (hs:PS X st t) (hv:VS t F) (h1:RXp1 k cl X st G1) (h2:RXp k cl X rest G2):RXp k cl X (st::rest) (gSeq F G1 G2):=by
 intro pins s σ H U O ρ n ρ' E I sr e hp hE;unfold gSeq at e;cases z:G1 ρ with
 | some x =>
  rw [z] at e;cases e;exact wpAny_execs_cons (wpAny_mono (h1 pins s σ H U O ρ n ρ' E I sr z hp hE) (fun _ _ q=>q.elim) fun _ _ q=>q)
 | none =>
  rw [z] at e;cases y:F ρ with
  | none=>rw [y] at e;cases e
  | some o =>
   rw [y] at e;cases o with
   | nx ρ1 =>
    have hq:=hv U O H σ ρ { nx:=fun σ1 H1=>∃U1 O1,SR U1 O1 H1 σ1 ρ1∧Tr U O H U1 O1 H1,rt:=fun _ _=>False } _ sr y fun U1 O1 H1 σ1 s1 t1=>⟨U1,O1,s1,t1⟩
    refine wpAny_execs_cons (wpAny_mono (hs pins s σ H _ I hq) (fun f s1 q=>?_) fun e' s1 q=>(hx e' s1 q).elim);cases f with
    | next =>
     obtain ⟨σ1,H1,I1,U1,O1,sr1,t1⟩:=q;exact h2 pins s1 σ1 H1 U1 O1 ρ1 n ρ' E I1 sr1 e hp fun e' s' q=>hE e' s' (q.pre t1)
    | brk=>obtain ⟨_,_,_,q⟩:=q;exact False.elim q
    | cont=>obtain ⟨_,_,_,q⟩:=q;exact False.elim q
    | ret u=>obtain ⟨_,_,_,_,_,q⟩:=q;exact False.elim q
   | bk ρ1=>cases e
   | ct ρ1=>cases e
   | rt p fr=>cases e
theorem rxp_one {st:Stmt}{G1:VR}(h1:RXp1 k cl X st G1) {rest:List Stmt}:RXp k cl X (st::rest) G1:=fun pins s σ H U O ρ n ρ' E I sr e hp hE =>
 wpAny_execs_cons (wpAny_mono (h1 pins s σ H U O ρ n ρ' E I sr e hp hE) (fun _ _ q=>q.elim) fun _ _ q=>q)
theorem rxp_if {c:Expr}{a b:List Stmt}{tc:TT}{fc:VB}{G1 G2:VR}(hx:NoX X) (hc:PT X c tc) (hv:VT tc fc) (h1:RXp k cl X a G1) (h2:RXp k cl X b G2):RXp1 k cl X (.If c a b pos) (gIf fc G1 G2):=by
 intro pins s σ H U O ρ n ρ' E I sr e hp hE;unfold gIf at e;cases z:fc ρ with
 | none=>rw [z] at e;cases e
 | some d =>
  rw [z] at e;have hq:=hv U O H σ ρ (fun d' H1=>d'=d∧∃U1,Ext U H U1 H1) d sr z fun H' U' ex=>⟨rfl,U',ex⟩
  refine wpAny_If (wpAny_mono (hc pins s σ H _ I hq) (fun d' s1 ⟨H1,I1,ed,U1,ex⟩=>?_) fun e' s1 q=>(hx e' s1 q).elim);subst ed;cases d' with
  | true=>exact h1 pins s1 σ H1 U1 O ρ n ρ' E I1 (sr.ext ex) e hp fun e' s' q=>hE e' s' (q.pre ex.tr)
  | false=>exact h2 pins s1 σ H1 U1 O ρ n ρ' E I1 (sr.ext ex) e hp fun e' s' q=>hE e' s' (q.pre ex.tr)
end
theorem Fun.okXp {P:Program}{w:World}{K:PySem.W.Frag}{mg:Str→Option Value}{base:Heap}{x qual:Str}{st:Stmt}{f:Addr}{fd:FuncData}{N ps:List Str}{k:Nat}{cl:Nat→Addr}{G:VR}(F:Fun K x qual st f fd) (S:FnScope N ps (defScope st))
  (hbody:∀(cdv:Value) (A:Around) (outer:List Env) (s:Shared) (H:Hp) (E:XK),Room k (A.deeper (envOfC qual (defScope st) s.heap.objs.size f cdv))→RXp true cl (cxOf CX0 P w K mg base N qual (defScope st) f cdv A outer s H E).nox (defBody st) G) :
  FnOk P w K mg base (CX1 P w) (k+1) f fd ps (spX cl (gnM ps.length N.length G)):=by
 obtain ⟨oc,od,kV,doc,pm,an,cdv,ct,osl,rfl,lk,hcd⟩:=F.ex;refine fn_of lk hcd S (fun vs H Q E h=>?_) fun A outer s H vs Q E hr hsp=>?_
 ·obtain ⟨U,qs,n,d,r,e,_⟩:=h
  unfold gnM at e;split at e
  ·rename_i h;rw [r.length,h]
  ·cases e
 refine ⟨fun D σ H1=>∃U ρ n ρ',SR U (fun _=>False) H1 σ ρ∧G ρ=some (n,ρ')∧∀H2 U2,Ext U H1 U2 H2→E (.ref (cl n)) none H2,?_,?_⟩
 ·intro pins s1 σ H1 D I ⟨U,ρ,n,ρ',sr,e,q⟩
  refine wpAny_mono (hbody cdv A outer s H E hr pins s1 σ H1 U _ ρ n ρ' _ (I.wish _) sr e PassesOwn.leaving fun e' s' xp=>?_) (fun _ _ z=>z.elim) fun e' s' z=>z;obtain ⟨U',O',H',σ',sr',tr,fl⟩:=xp;have ex:Ext U H1 U' H':=⟨fun a o h=>tr.fr a o h fun z=>z,tr.mono,fun a h=>(tr.new a h).elim .inl fun z=>z.elim (fun z=>z.elim) .inr,tr.dU⟩
  have q':=q H' U' ex;rcases fl with ⟨a,B,t0,rfl,I',fl,kp⟩|⟨_,a,args,s2,h',rfl,I',rfl,hm⟩
  ·exact leave_fly (X:=(cxOf CX0 P w K mg base N qual (defScope st) f cdv A outer s H E).nox) I' rfl rfl rfl fl kp q'
  ·exact leave_made (X:=(cxOf CX0 P w K mg base N qual (defScope st) f cdv A outer s H E).nox) I' rfl rfl rfl hm q'
 ·obtain ⟨U,qs,n,d,r,e,q⟩:=hsp
  unfold gnM at e;split at e
  ·obtain ⟨⟨n',ρ'⟩,hg,e⟩:=Zb.mp e
   cases e;exact ⟨U,_,_,ρ',SR.init (N:=N) d r,hg,q⟩
  ·cases e
end L2
namespace L2
open PySem
structure QE (X:Cx) (m:Md) (e:Expr) (f:VX):Prop where
 h:∃t,PE X e t∧VE m t f
structure QT (X:Cx) (e:Expr) (f:VB):Prop where
 h:∃t,PT X e t∧VT t f
structure QW (X:Cx) (e:Expr) (f:VB):Prop where
 h:∃t,PW X e t∧VT t f
structure QF (X:Cx) (es:List Expr) (f:VB):Prop where
 h:∃t,PIfs X es t∧VT t f
structure QA (X:Cx) (b:Bool) (es:List Expr) (f:VL):Prop where
 h:∃t,PA X es t∧VA b t f
structure QI (X:Cx) (tg e:Expr) (f:VL):Prop where
 h:∃t,PI X tg e t∧VI t f
structure QJ (X:Cx) (tg e:Expr) (f:VL):Prop where
 h:∃t,PI X tg e t∧VIb t f
structure QG (X:Cx) (tg:Expr) (f:VTg):Prop where
 h:∃t,PG X tg t∧VG t f
structure QGs (X:Cx) (tg:List Expr) (is:List Nat):Prop where
 h:PGs X tg (gNames is)
structure QO (X:Cx) (e:Option Expr) (f:PEnv→Option (Option Int)):Prop where
 h:∃t,PO X e t∧VO t f
structure QS (X:Cx) (st:Stmt) (F:VF):Prop where
 h:∃t,PS X st t∧VS t F
structure QB (X:Cx) (st:List Stmt) (F:VF):Prop where
 h:∃t,PSs X st t∧VS t F
structure OB (X:Cx) (o:Operator) (m:Md) (g:PV→PV→Option PV):Prop where
 h:∃r,OpR X (binaryOp o) r∧R2V m r g
structure OC (X:Cx) (o:CmpOp) (m:Md) (g:PV→PV→Option PV):Prop where
 h:∃r,OpR X (compareOp o) r∧R2V m r g
structure I2 (X:Cx) (m:Md) (g:PV→PV→Option PV):Prop where
 h:∃r,IxR X r∧R2V m r g
structure C2 (X:Cx) (v:Value) (m:Md) (g:List PV→Option PV):Prop where
 h:∃r,CallR X v r∧RLV m r g
structure CF (P:Program) (w:World) (K:PySem.W.Frag) (mg:Str→Option Value) (base:Heap) (CX:CXT) (x:Str) (k:Nat) (sp:Sp):Prop where
 h:∃a d ps,FnOk P w K mg base CX k a d ps sp∧mg x=some (.ref a)∧PySem.W.keepIn K (.ref a)=true∧Binds K d ps []
structure Df (K:PySem.W.Frag) (mg:Str→Option Value) (x:Str) (st:Stmt) (ps:List Str):Prop where
 h:∃a d,mg x=some (.ref a)∧Fun K x x st a d∧Binds K d ps []
structure Blt (mg:Str→Option Value) (l:List Str):Prop where
 h:∀x,l.contains x=true→mg x=none
structure CSc (X:Cx) (outer:List (Str×NameKind)) (N:List Str):Prop where
 ho:∀x,X.env.kindOf x=outer.lookup x
 hN:X.N=N
section
variable {X:Cx}{m ma mb mc:Md}{a b c e elt target iter:Expr}{es ifs:List Expr}{pos p p2:Pos}{f g h:VX}{fa fb:VL}{k n i j:Nat}{x y:Str}{l:List Str}
theorem qv (q:PE X (.Name x p) (tVar i)):QE X .bor (.Name x p) (xVar i):=⟨_,q,ve_var⟩
theorem qvS (q:PE X (.Name x p) (tVar i)):QE X .shr (.Name x p) (xVarS i):=⟨_,q,ve_varS⟩
theorem qint {i:Int}:QE X .shr (.Constant (.int i) k p) (xC (.int i)):=⟨_,pe_int,ve_int⟩
theorem qstr {i:Str}:QE X .shr (.Constant (.str i) k p) (xC (.str i)):=⟨_,pe_str,ve_str⟩
theorem qbl {i:Bool}:QE X .shr (.Constant (.bool i) k p) (xC (.bl i)):=⟨_,pe_bl,ve_bl⟩
theorem qglob {i:Int}(hm:∃u,X.mg x=some u∧RelV (V.int i) u) (hg:Gl X x:=by rfl) (hd:(x==("__debug__" : Str))=false:=by decide):QE X .shr (.Name x p) (xC (.int i)):=by
 obtain ⟨u,h1,h2⟩:=hm;exact ⟨_,pe_glob hg h1 h2 hd,ve_int⟩
theorem qop {op:Operator}{o:PV→PV→Option PV}(ho:OB X op m o) (ha:QE X ma a f) (hb:QE X mb b g):QE X m (.BinOp a op b p) (x2 o f g):=by
 obtain ⟨_,o1,o2⟩:=ho.h;obtain ⟨_,a1,a2⟩:=ha.h;obtain ⟨_,b1,b2⟩:=hb.h;exact ⟨_,pe_op o1 a1 b1,ve_op o2 a2 b2⟩
theorem qcmp {op:CmpOp}{o:PV→PV→Option PV}(ho:OC X op m o) (ha:QE X ma a f) (hb:QE X mb b g) (hm:behindInMarks op b=false):QE X m (.Compare a [op] [b] p) (x2 o f g):=by
 obtain ⟨_,o1,o2⟩:=ho.h;obtain ⟨_,a1,a2⟩:=ha.h;obtain ⟨_,b1,b2⟩:=hb.h;exact ⟨_,pe_cmpR o1 a1 b1 hm,ve_op o2 a2 b2⟩
theorem qtcmp {op:CmpOp}{o:PV→PV→Option PV}(ho:OC X op m o) (ha:QE X ma a f) (hb:QE X mb b g) (hm:behindInMarks op b=false):QT X (.Compare a [op] [b] p) (bOf (x2 o f g)):=by
 obtain ⟨_,o1,o2⟩:=ho.h;obtain ⟨_,a1,a2⟩:=ha.h;obtain ⟨_,b1,b2⟩:=hb.h;exact ⟨_,pt_cmpR o1 a1 b1 hm,vt_test (ve_op o2 a2 b2)⟩
theorem qchain {op op':CmpOp}{o o':PV→PV→Option PV}(ho:OC X op .shr o) (ho':OC X op' .shr o') (ha:QE X ma a f) (hb:QE X mb b g) (hc:QE X mc c h) (hm:lastMarks [op,op'] [b,c]=false:=by with_unfolding_all rfl):QE X .shr (.Compare a [op,op'] [b,c] p) (xChain o o' f g h):=by
 obtain ⟨_,o1,o2⟩:=ho.h;obtain ⟨_,o3,o4⟩:=ho'.h;obtain ⟨_,a1,a2⟩:=ha.h;obtain ⟨_,b1,b2⟩:=hb.h;obtain ⟨_,c1,c2⟩:=hc.h;exact ⟨_,pe_chain o1 o3 a1 b1 c1 hm,ve_chain o2 o4 a2 b2 c2⟩
theorem qneg (ha:QE X ma a f):QE X .shr (.UnaryOp .USub a p) (x1 pNeg f):=by
 obtain ⟨_,a1,a2⟩:=ha.h;exact ⟨_,pe_un un_neg a1,ve_un r1_neg a2⟩
theorem qand (ha:QE X ma a f) (hb:QE X mb (.BoolOp .And (b::es) p) g):QE X .shr (.BoolOp .And (a::b::es) p) (xB (bAnd (bOf f) (bOf g))):=by
 obtain ⟨_,a1,a2⟩:=ha.h;obtain ⟨_,b1,b2⟩:=hb.h;exact ⟨_,pe_and a1 b1,ve_and a2 b2⟩
theorem qor (ha:QE X ma a f) (hb:QE X mb (.BoolOp .Or (b::es) p) g):QE X .shr (.BoolOp .Or (a::b::es) p) (xB (bOr (bOf f) (bOf g))):=by
 obtain ⟨_,a1,a2⟩:=ha.h;obtain ⟨_,b1,b2⟩:=hb.h;exact ⟨_,pe_or a1 b1,ve_or a2 b2⟩
theorem qone {op:BoolOp}(ha:QE X m a f):QE X m (.BoolOp op [a] p) f:=by
 obtain ⟨_,a1,a2⟩:=ha.h;exact ⟨_,pe_one a1,a2⟩
theorem qlst (ha:QA X false es fa):QE X .fr (.List es p) (xL mkLst fa):=by
 obtain ⟨_,a1,a2⟩:=ha.h;exact ⟨_,pe_lst a1,ve_lst a2⟩
theorem qtup (ha:QA X false es fa):QE X .shr (.Tuple es k p) (xL mkTup fa):=by
 obtain ⟨_,a1,a2⟩:=ha.h;exact ⟨_,pe_tup a1,ve_tup a2⟩
theorem QE.sh (ha:QE X .fr a f):QE X .shr a f:=by
 obtain ⟨_,a1,a2⟩:=ha.h;exact ⟨_,a1,a2.shr⟩
theorem qix {o:PV→PV→Option PV}(ho:I2 X m o) (ha:QE X ma a f) (hb:QE X mb b g) (hs:PlainIx b):QE X m (.Subscript a b p) (x2 o f g):=by
 obtain ⟨_,o1,o2⟩:=ho.h;obtain ⟨_,a1,a2⟩:=ha.h;obtain ⟨_,b1,b2⟩:=hb.h;exact ⟨_,pe_ix o1 a1 b1 hs,ve_op o2 a2 b2⟩
theorem qsl {lo hi:Option Expr}{fl fh:PEnv→Option (Option Int)}(ha:QE X ma a f) (hl:QO X lo fl) (hh:QO X hi fh):QE X .fr (.Subscript a (.Slice lo hi none p2) p) (xSl f fl fh):=by
 obtain ⟨_,a1,a2⟩:=ha.h;obtain ⟨_,b1,b2⟩:=hl.h;obtain ⟨_,c1,c2⟩:=hh.h;exact ⟨_,pe_slice (sl_listK rfl) a1 b1 c1,ve_slL a2 b2 c2⟩
theorem qo0:QO X none oNone:=⟨_,po_none,vo_none⟩
theorem qo1 (ha:QE X ma a f):QO X (some a) (oSome f):=by
 obtain ⟨_,a1,a2⟩:=ha.h;exact ⟨_,po_some a1,vo_some a2⟩
theorem qa0 {b:Bool}:QA X b [] lNil:=⟨_,pa_nil,va_nil⟩
theorem qaS (ha:QE X .shr e f) (hr:QA X false es fa) (hs:starEach (e::es) X.env=(false,eval e X.env)::starEach es X.env:=by rfl):QA X false (e::es) (lCons f fa):=by
 obtain ⟨_,a1,a2⟩:=ha.h;obtain ⟨_,b1,b2⟩:=hr.h;exact ⟨_,pa_cons a1 b1 hs,va_consS a2 b2⟩
theorem qaB (ha:QE X ma e f) (hr:QA X true es fa) (hs:starEach (e::es) X.env=(false,eval e X.env)::starEach es X.env:=by rfl):QA X true (e::es) (lCons f fa):=by
 obtain ⟨_,a1,a2⟩:=ha.h;obtain ⟨_,b1,b2⟩:=hr.h;exact ⟨_,pa_cons a1 b1 hs,va_consB a2 b2⟩
def pvV:PV→Option V
 | .non=>some .non | .bl b=>some (.bl b) | .int i=>some (.int i) | .str s=>some (.str s)|_=>none
def pvVs:List PV→Option (List V)
 | []=>some []
 | p::r=>match pvV p,pvVs r with
  | some v,some vs=>some (v::vs)
  | _,_=>none
theorem consts_of:∀{ps:List PV}{vs:List V},pvVs ps=some vs→Consts vs ps
 | [],vs,e=>by cases e;exact .nil
 | p::r,vs,e=>by
  unfold pvVs at e;split at e
  ·rename_i v ws h1 h2
   cases e;refine .cons ?_ (consts_of h2);unfold pvV at h1;split at h1<;>first|(cases h1;rfl)|cases h1
  ·cases e
theorem qks {vs:List V}{ps:List PV}(h1:constVs es=some vs) (h2:pvVs ps=some vs):QA X false es (fun _=>some ps):=⟨_,pa_consts h1,va_ks (consts_of h2)⟩
theorem qtv (ha:QE X m a f) (he:∀whole,isTrue a X.env whole=(do let v ←whole;standAt a.pos;holding [v] (truthy v)):=by intro _;rfl):QT X a (bOf f):=by
 obtain ⟨_,a1,a2⟩:=ha.h;exact ⟨_,pt_val a1 he,vt_val a2⟩
theorem qtnot {fa:VB}(ha:QT X a fa):QT X (.UnaryOp .Not a p) (bNot fa):=by
 obtain ⟨_,a1,a2⟩:=ha.h;exact ⟨_,pt_not a1,vt_not a2⟩
theorem qwor {fa fb:VB}(ha:QT X a fa) (hb:QW X (.BoolOp .Or (b::es) p) fb):QW X (.BoolOp .Or (a::b::es) p) (bOr fa fb):=by
 obtain ⟨_,a1,a2⟩:=ha.h;obtain ⟨_,b1,b2⟩:=hb.h;exact ⟨_,pw_or a1 b1,vt_or a2 b2⟩
theorem qwor1 {fa:VB}(ha:QT X a fa):QW X (.BoolOp .Or [a] p) fa:=by
 obtain ⟨_,a1,a2⟩:=ha.h;exact ⟨_,pw_or1 a1,a2⟩
theorem qtw {fa:VB}(ha:QW X a fa):QT X a fa:=by
 obtain ⟨_,a1,a2⟩:=ha.h;exact ⟨_,PW.pt a1,a2⟩
theorem qf0:QF X [] bTrue:=⟨_,pifs_nil,vt_all⟩
theorem qf1 {fa:VB}(ha:QT X a fa):QF X [a] fa:=by
 obtain ⟨_,a1,a2⟩:=ha.h;exact ⟨_,pifs_one a1,a2⟩
theorem qil (ha:QE X .shr a f):QI X target a (itL f):=by
 obtain ⟨_,a1,a2⟩:=ha.h;exact ⟨_,pi_listK rfl a1,vi_list a2⟩
theorem qis (ha:QE X m a f):QI X target a (itS f):=by
 obtain ⟨_,a1,a2⟩:=ha.h;exact ⟨_,pi_str a1,vi_str a2⟩
theorem qir1 (hb:Blt X.mg l) (ha:QA X true [a] fa) (hl:l.contains "range" = true:=by rfl) (hg:Gl X "range":=by rfl) (hs:starEach [a] X.env = [(false,eval a X.env)]:=by rfl):QI X target (.Call (.Name "range" p) [a] [] pos) (itR1 fa):=by
 obtain ⟨_,a1,a2⟩:=ha.h;exact ⟨_,pi_range1 hg (hb.h _ hl) a1 hs,vi_rng1 a2⟩
theorem qie (hB:Blt X.mg l) (ha:QA X false [a] fa) (hl:l.contains "enumerate" = true:=by rfl) (hg:Gl X "enumerate":=by rfl) (hs:starEach [a] X.env = [(false,eval a X.env)]:=by rfl):QI X (.Tuple es k p2) (.Call (.Name "enumerate" p) [a] [] pos) (itE fa):=by
 obtain ⟨_,a1,a2⟩:=ha.h;exact ⟨_,pi_enum rfl hg (hB.h _ hl) a1 hs,vi_enum a2⟩
theorem qgn (hN:X.N.Nodup) (hi:X.N[i]?=some x:=by rfl) (hx:Loc X.env.scope x:=by first|exact Or.inl rfl|exact Or.inr rfl) (hf:X.fn x=true∨X.env.scope.names.lookup x=some .local:=by first|exact .inl rfl|exact .inr rfl):QG X (.Name x p) (gN i):=⟨_,pg_name hN hi hx hf,vg_name⟩
theorem qgs0:QGs X [] []:=⟨pgs_nil⟩
theorem qgs1 {is:List Nat}(hN:X.N.Nodup) (h2:QGs X es is) (hi:X.N[i]?=some x:=by rfl) (hx:Loc X.env.scope x:=by first|exact Or.inl rfl|exact Or.inr rfl) (hf:X.fn x=true∨X.env.scope.names.lookup x=some .local:=by first|exact .inl rfl|exact .inr rfl)
  (hs:(assignEach ((.Name x p)::es) X.env).map (·.2)=assign (.Name x p) X.env::(assignEach es X.env).map (·.2):=by rfl):QGs X (.Name x p::es) (i::is):=⟨pgs_cons (pg_name hN hi hx hf) h2.h hs⟩
theorem qgt {is:List Nat}(h:QGs X es is) (hc:X.calm=true:=by rfl) (hn:(assignEach es X.env).length=is.length:=by rfl) (hst:(assignEach es X.env).findIdx? (·.1)=none:=by rfl):QG X (.Tuple es k p) (gT is):=⟨_,pg_tupK rfl hc h.h hn hst,vg_tup rfl rfl⟩
theorem QE.all {ι:Type}{Y:ι→Cx}(h:∀i,QE (Y i) m e f):∃t,(∀i,PE (Y i) e t)∧VE m t f :=
 ⟨fun σ H Q=>∀i,(Classical.choose (h i).h) σ H Q,fun i pins s σ H Q I hw=>(Classical.choose_spec (h i).h).1 pins s σ H Q I (hw i),fun U O H σ ρ Q p sr ef k i=>(Classical.choose_spec (h i).h).2 U O H σ ρ Q p sr ef k⟩
theorem QF.all {ι:Type}{Y:ι→Cx}{f:VB}(h:∀i,QF (Y i) es f):∃t,(∀i,PIfs (Y i) es t)∧VT t f :=
 ⟨fun σ H Q=>∀i,(Classical.choose (h i).h) σ H Q,fun i pins s σ H Q I hw=>(Classical.choose_spec (h i).h).1 pins s σ H Q I (hw i),fun U O H σ ρ Q p sr ef k i=>(Classical.choose_spec (h i).h).2 U O H σ ρ Q p sr ef k⟩
theorem QG.all {ι:Type}{Y:ι→Cx}{f:VTg}(h:∀i,QG (Y i) e f):∃t,(∀i,PG (Y i) e t)∧VG t f :=
 ⟨fun v σ H Q=>∀i,(Classical.choose (h i).h) v σ H Q,fun i u v s pins σ H Q I r hw=>(Classical.choose_spec (h i).h).1 u v s pins σ H Q I r (hw i),fun U O H σ ρ ρ' p v K sr r ef k i=>(Classical.choose_spec (h i).h).2 U O H σ ρ ρ' p v K sr r ef k⟩
def tgN1:Expr→Option Str
 | .Name x _=>some x
 | _=>none
def tgN:Expr→List Str
 | .Name x _=>[x]
 | .Tuple es _ _=>es.filterMap tgN1
 | _=>[]
def compN (tg:Expr) (src:List (Option Nat)) (N:List Str):List Str:=tgN tg++src.filterMap fun o=>o.bind fun i=>N[i]?
def compOkA (scope:Scope) (outer:List (Str×NameKind)) (N:List Str) (tg:Expr) (src:List (Option Nat)):Bool:=compOk scope.names outer N (compN tg src N) src&&decide (compN tg src N).Nodup&&(match scope.kind with | .function=>true|_=>false)
theorem compOkA_of {scope:Scope}{outer:List (Str×NameKind)}{N:List Str}{src:List (Option Nat)}(cs:CSc X outer N) (hok:compOkA scope outer N target src=true):CompScope X scope (compN target src N) src∧(compN target src N).Nodup:=by
 unfold compOkA at hok;simp only [Zc1,decide_eq_true_eq] at hok;obtain ⟨⟨h1,h2⟩,h3⟩:=hok;refine ⟨CompScope.of outer N ?_ cs.ho cs.hN h1,h2⟩;cases hk:scope.kind<;>rw [hk] at h3<;>first|rfl|cases h3
structure QC (X:Cx) (elt target iter:Expr) (ifs:List Expr) (scope:Scope) (N':List Str) (src:List (Option Nat)) (f:VX):Prop where
 S:CompScope X scope N' src
 h:∃wi g tif te,PI X target iter wi∧(∀C s H fp,PG (cxComp X scope N' C s H fp) target g)∧(∀C s H fp,PIfs (cxComp X scope N' C s H fp) ifs tif)∧(∀C s H fp,PE (cxComp X scope N' C s H fp) elt te)∧VE .fr (tComp src wi g tif te) f
theorem qc {scope:Scope}{outer:List (Str×NameKind)}{N:List Str}{src:List (Option Nat)}{it:VL}{tg:VTg}{cond:VB}(cs:CSc X outer N) (hok:compOkA scope outer N target src=true) (hi:QI X target iter it∨QJ X target iter it)
  (hg:∀C s H fp,(cxComp X scope (compN target src N) C s H fp).N.Nodup→QG (cxComp X scope (compN target src N) C s H fp) target tg) (hif:∀C s H fp,QF (cxComp X scope (compN target src N) C s H fp) ifs cond) (he:∀C s H fp,QE (cxComp X scope (compN target src N) C s H fp) .shr elt f) :
  QC X elt target iter ifs scope (compN target src N) src (xComp src it tg cond f):=by
 obtain ⟨S,nd⟩:=compOkA_of cs hok;obtain ⟨_,g1,g2⟩:=QG.all (Y:=fun (z:Addr×Shared×Hp×List Addr)=>cxComp X scope (compN target src N) z.1 z.2.1 z.2.2.1 z.2.2.2) fun z=>hg _ _ _ _ nd;obtain ⟨_,f1,f2⟩:=QF.all (Y:=fun (z:Addr×Shared×Hp×List Addr)=>cxComp X scope (compN target src N) z.1 z.2.1 z.2.2.1 z.2.2.2) fun z=>hif _ _ _ _;obtain ⟨_,e1,e2⟩:=QE.all (Y:=fun (z:Addr×Shared×Hp×List Addr)=>cxComp X scope (compN target src N) z.1 z.2.1 z.2.2.1 z.2.2.2) fun z=>he _ _ _ _;refine ⟨S,?_⟩;rcases hi with hi|hi<;>obtain ⟨_,i1,i2⟩:=hi.h
 ·exact ⟨_,_,_,_,i1,fun C s H fp=>g1 (C,s,H,fp),fun C s H fp=>f1 (C,s,H,fp),fun C s H fp=>e1 (C,s,H,fp),ve_comp i2 g2 f2 e2⟩
 ·exact ⟨_,_,_,_,i1,fun C s H fp=>g1 (C,s,H,fp),fun C s H fp=>f1 (C,s,H,fp),fun C s H fp=>e1 (C,s,H,fp),ve_compB i2 g2 f2 e2⟩
theorem qcomp {scope:Scope}{N':List Str}{src:List (Option Nat)}(q:QC X elt target iter ifs scope N' src f) (hc:X.calm=true:=by rfl) (hs:∀x,foldedSetIterable iter X.env x=pure x:=by intro _;rfl):QE X .fr (.ListComp elt [⟨target,iter,ifs,0⟩] scope p) f:=by
 obtain ⟨wi,g,tif,te,h1,h2,h3,h4,h5⟩:=q.h;exact ⟨_,pe_comp q.S hc h1 h2 h3 h4 hs,h5⟩
theorem qcS {f:List PV→Option PV}(F:CF X.prog X.w X.K X.mg X.base CX0 x k (spV false f)) (hr:Room j X.A) (hk:k≤j) (ha:QA X false (e::es) fa) (hg:Gl X x:=by rfl) (hdb:(x==("__debug__" : Str))=false:=by decide) (he:starEach (e::es) X.env=(false,eval e X.env)::starEach es X.env:=by rfl) (hpl:(backTo pos (starEach es X.env)).any (·.1)=false:=by rfl) :
  QE X .shr (.Call (.Name x p) (e::es) [] pos) (xL f fa):=by
 obtain ⟨_,_,_,F1,F2,F3,F4⟩:=F.h;obtain ⟨_,a1,a2⟩:=ha.h;exact ⟨_,pe_call F1 (hr.mono hk) hg F2 F3 F4 .nil pass0 a1 hdb he hpl,ve_callS a2⟩
theorem qcF {f:List PV→Option PV}(F:CF X.prog X.w X.K X.mg X.base CX0 x k (spV true f)) (hr:Room j X.A) (hk:k≤j) (ha:QA X false (e::es) fa) (hg:Gl X x:=by rfl) (hdb:(x==("__debug__" : Str))=false:=by decide) (he:starEach (e::es) X.env=(false,eval e X.env)::starEach es X.env:=by rfl) (hpl:(backTo pos (starEach es X.env)).any (·.1)=false:=by rfl) :
  QE X .fr (.Call (.Name x p) (e::es) [] pos) (xL f fa):=by
 obtain ⟨_,_,_,F1,F2,F3,F4⟩:=F.h;obtain ⟨_,a1,a2⟩:=ha.h;exact ⟨_,pe_call F1 (hr.mono hk) hg F2 F3 F4 .nil pass0 a1 hdb he hpl,ve_callF a2⟩
theorem qb {id:String}{o:List PV→Option PV}(hB:Blt X.mg l) (hc:C2 X (.builtin id) m o) (ha:QA X true (e::es) fa) (hl:l.contains x=true:=by rfl) (hv:bootBuiltins x=some (.builtin id):=by decide +kernel) (hg:Gl X x:=by rfl) (hn:x≠"__name__":=by decide) (hdb:(x==("__debug__" : Str))=false:=by decide)
  (he:starEach (e::es) X.env=(false,eval e X.env)::starEach es X.env:=by rfl) (hpl:(backTo pos (starEach es X.env)).any (·.1)=false:=by rfl):QE X m (.Call (.Name x p) (e::es) [] pos) (xL o fa):=by
 obtain ⟨_,c1,c2⟩:=hc.h;obtain ⟨_,a1,a2⟩:=ha.h;exact ⟨_,pe_callB c1 hg (hB.h _ hl) hv a1 hn hdb he hpl,ve_cb c2 a2⟩
theorem qbT {T:String}{o:List PV→Option PV}(hB:Blt X.mg l) (hc:C2 X (.type T) m o) (ha:QA X true (e::es) fa) (hl:l.contains x=true:=by rfl) (hv:bootBuiltins x=some (.type T):=by decide +kernel) (hg:Gl X x:=by rfl) (hn:x≠"__name__":=by decide) (hdb:(x==("__debug__" : Str))=false:=by decide)
  (he:starEach (e::es) X.env=(false,eval e X.env)::starEach es X.env:=by rfl) (hpl:(backTo pos (starEach es X.env)).any (·.1)=false:=by rfl):QE X m (.Call (.Name x p) (e::es) [] pos) (xL o fa):=by
 obtain ⟨_,c1,c2⟩:=hc.h;obtain ⟨_,a1,a2⟩:=ha.h;exact ⟨_,pe_callTy c1 hg (hB.h _ hl) hv a1 hn hdb he hpl,ve_cb c2 a2⟩
theorem qnever {st:Stmt}:QS X st vNone:=⟨_,ps_never,vs_never⟩
theorem qretS (ha:QE X .shr a f):QS X (.Return (some a) p) (vRet f false):=by
 obtain ⟨_,a1,a2⟩:=ha.h;exact ⟨_,ps_ret a1,vs_retS a2⟩
theorem qretF (ha:QE X .fr a f):QS X (.Return (some a) p) (vRet f true):=by
 obtain ⟨_,a1,a2⟩:=ha.h;exact ⟨_,ps_ret a1,vs_retF a2⟩
theorem qretO (q:PE X (.Name x p2) (tVar i)):QS X (.Return (some (.Name x p2)) p) (vRetO i):=⟨_,ps_ret q,vs_retO⟩
theorem qif {fc:VB}{s t:List Stmt}{F G:VF}(hc:QT X c fc) (ha:QB X s F) (hb:QB X t G):QS X (.If c s t p) (vIf fc F G):=by
 obtain ⟨_,c1,c2⟩:=hc.h;obtain ⟨_,a1,a2⟩:=ha.h;obtain ⟨_,b1,b2⟩:=hb.h;exact ⟨_,ps_if c1 a1 b1,vs_if c2 a2 b2⟩
theorem qdrop (ha:QE X m a f) (hs:swapsWith a none pos.line X.env=pure false:=by rfl):QS X (.Expr a pos) (vDrop f):=by
 obtain ⟨_,a1,a2⟩:=ha.h;exact ⟨_,ps_expr a1 hs,vs_drop a2⟩
theorem qsetS (hN:X.N.Nodup) (ha:QE X .shr a f) (hi:X.N[i]?=some x:=by rfl) (hx:Loc X.env.scope x:=by first|exact Or.inl rfl|exact Or.inr rfl) (hs:swapsWith a (some (.Name x p)) pos.line X.env=pure false:=by rfl) (hf:X.fn x=true∨X.env.scope.names.lookup x=some .local:=by first|exact .inl rfl|exact .inr rfl):QS X (.Assign [.Name x p] a pos) (vSetS i f):=by
 obtain ⟨_,a1,a2⟩:=ha.h;exact ⟨_,ps_set hN hi hx a1 hs hf,vs_setS a2⟩
theorem qsetO (hN:X.N.Nodup) (ha:QE X .fr a f) (hi:X.N[i]?=some x:=by rfl) (hx:Loc X.env.scope x:=by first|exact Or.inl rfl|exact Or.inr rfl) (hs:swapsWith a (some (.Name x p)) pos.line X.env=pure false:=by rfl) (hf:X.fn x=true∨X.env.scope.names.lookup x=some .local:=by first|exact .inl rfl|exact .inr rfl):QS X (.Assign [.Name x p] a pos) (vSetO i f):=by
 obtain ⟨_,a1,a2⟩:=ha.h;exact ⟨_,ps_set hN hi hx a1 hs hf,vs_setO a2⟩
theorem qfor {s:List Stmt}{F:VF}{it:VL}{tg:VTg}(hi:QI X target iter it) (hg:QG X target tg) (hb:QB X s F) (hp:PassesOwn (model X.prog X.w) X.A X.env X.xe) (hc:X.calm=true:=by rfl) (hs:∀x,foldedSetIterable iter X.env x=pure x:=by intro _;rfl):QS X (.For target iter s [] pos) (vFor it tg F):=by
 obtain ⟨_,c1,c2⟩:=hi.h;obtain ⟨_,a1,a2⟩:=hg.h;obtain ⟨_,b1,b2⟩:=hb.h;exact ⟨_,ps_for hp hc c1 a1 b1 hs,vs_for c2 a2 b2⟩
theorem qb0:QB X [] vSkip:=⟨_,pss_nil,vs_skip⟩
theorem qb1 {st:Stmt}{F:VF}(h:QS X st F):QB X [st] F:=by
 obtain ⟨_,c1,c2⟩:=h.h;exact ⟨_,pss_one c1,c2⟩
theorem qbc {st:Stmt}{s:List Stmt}{F G:VF}(h:QS X st F) (r:QB X s G):QB X (st::s) (vSeq F G):=by
 obtain ⟨_,c1,c2⟩:=h.h;obtain ⟨_,r1,r2⟩:=r.h;exact ⟨_,pss_cons c1 r1,vs_seq c2 r2⟩
end
section
variable {X:Cx}{m ma mb mc:Md}{a b c e elt target iter:Expr}{es ifs:List Expr}{pos p p2 ap:Pos}{f g h:VX}{fa fb:VL}{k n i j:Nat}{x y:Str}{l:List Str}
theorem o_sub:OB X .Sub .shr pSub:=⟨_,op_sub,r2_sub⟩
theorem o_div:OB X .FloorDiv .shr pDiv:=⟨_,op_fdiv,r2_div⟩
theorem o_mod:OB X .Mod .shr pMod:=⟨_,op_mod,r2_mod⟩
theorem o_rep:OB X .Mult .fr pRep:=⟨_,op_rep,r2_rep⟩
theorem o_pow:OB X .Pow .shr pPow:=⟨_,op_pow,r2_pow⟩
theorem o_eq:OC X .Eq .shr pEq:=⟨_,op_eq,r2_eq⟩
theorem o_ne:OC X .NotEq .shr pNe:=⟨_,op_ne,r2_ne⟩
theorem o_lt:OC X .Lt .shr pLt:=⟨_,op_lt,r2_lt⟩
theorem o_le:OC X .LtE .shr pLe:=⟨_,op_le,r2_le⟩
theorem o_gt:OC X .Gt .shr pGt:=⟨_,op_gt,r2_gt⟩
theorem o_ge:OC X .GtE .shr pGe:=⟨_,op_ge,r2_ge⟩
theorem o_le_str:OC X .LtE .shr pLeS:=⟨_,op_le_str,r2_leS⟩
theorem o_notIn_seqK:OC X .NotIn .shr (pIn true):=⟨_,op_notIn_seqK rfl,r2_in⟩
theorem o_eqL (hr:Room k X.A):OC X .Eq .shr (pEqL 3 false):=⟨_,op_eq_list 3 (hu4_of hr),r2_eqL⟩
theorem c_len:C2 X (.builtin "len") .shr pLen:=⟨_,cl_len_seqK rfl,rl_len⟩
theorem c_lenS:C2 X (.builtin "len") .shr pLenS:=⟨_,cl_len_str,rl_lenS⟩
theorem c_all (hc:X.calm=true):C2 X (.builtin "all") .shr pAll:=⟨_,call_allK rfl hc,rl_all⟩
theorem c_list:C2 X (.type "list") .fr pList:=⟨_,cl_list_ofK rfl,rl_list⟩
theorem c_tupO:C2 X (.type "tuple") .shr pTupO:=⟨_,call_tuple_ofK rfl,rl_tupO⟩
theorem c_intB:C2 X (.type "int") .shr pIntB:=⟨_,call_intB,rl_intB⟩
theorem x_list:I2 X .shr pIxL:=⟨_,ix_listK rfl,r2_ixL⟩
theorem qbmS {T id:String}{r:V→List V→Hp→VK→Prop}{st:VF}(hm:MtR X id r) (pa:PlainAttrs T) (slot:Slot T y id) (hty:typeOf (.builtin id)=pure (.type "method_descriptor")) (q:PE X (.Name x p) (tVar i)) {t:TA}(h1:PA X (e::es) t) (h2:VS (tDrop (tBM X.K T r (tVar i) t)) st)
  (hbase:attributeBase (.Name x p) y X.env (eval (.Name x p) X.env)=eval (.Name x p) X.env:=by rfl)
  (hfew:((backTo p2 (starEach (e::es) X.env)).all (fun x=>!x.1)&&(backToKw p2 (keywordEach [] X.env)).all (fun x=>x.1.isSome)&&decide ((e::es).length + ([]:List Keyword).length + (if ([]:List Keyword).isEmpty then 0 else 1) < 30))=true:=by rfl)
  (hline:(ap.endLine==p2.line)=true:=by rfl) (hs:starEach (e::es) X.env=(false,eval e X.env)::starEach es X.env:=by rfl) (hplain:(backTo p2 (starEach es X.env)).any (·.1)=false:=by rfl) (hsw:swapsWith (.Call (.Attribute (.Name x p) y ap) (e::es) [] p2) none pos.line X.env=pure false:=by rfl) :
  QS X (.Expr (.Call (.Attribute (.Name x p) y ap) (e::es) [] p2) pos) st:=⟨_,ps_expr (pe_bmK rfl pa slot hty hm q h1 hbase hfew hline hs hplain) hsw,h2⟩
structure MM1 (X:Cx) (id:String) (T:String) (o:Nat→VX→VF):Prop where
 h:∃r,MtR X id r∧∀{m:Md}{i:Nat}{te:TE}{f:VX},VE .shr te f→VS (tDrop (tBM X.K T r (tVar i) (tCons te tNil))) (o i f)
theorem qm1 {T id:String}{o:Nat→VX→VF}(M:MM1 X id T o) (pa:PlainAttrs T) (slot:Slot T y id) (hty:typeOf (.builtin id)=pure (.type "method_descriptor")) (q:PE X (.Name x p) (tVar i)) (ha:QE X .shr a f)
  (hbase:attributeBase (.Name x p) y X.env (eval (.Name x p) X.env)=eval (.Name x p) X.env:=by rfl)
  (hfew:((backTo p2 (starEach [a] X.env)).all (fun x=>!x.1)&&(backToKw p2 (keywordEach [] X.env)).all (fun x=>x.1.isSome)&&decide ([a].length + ([]:List Keyword).length + (if ([]:List Keyword).isEmpty then 0 else 1) < 30))=true:=by rfl)
  (hline:(ap.endLine==p2.line)=true:=by rfl) (hs:starEach [a] X.env=(false,eval a X.env)::starEach [] X.env:=by rfl) (hplain:(backTo p2 (starEach [] X.env)).any (·.1)=false:=by rfl) (hsw:swapsWith (.Call (.Attribute (.Name x p) y ap) [a] [] p2) none pos.line X.env=pure false:=by rfl) :
  QS X (.Expr (.Call (.Attribute (.Name x p) y ap) [a] [] p2) pos) (o i f):=by
 obtain ⟨_,m1,m2⟩:=M.h;obtain ⟨_,a1,a2⟩:=ha.h;exact qbmS m1 pa slot hty q (pa_cons a1 pa_nil hs) (m2 (m:=.shr) a2) hbase hfew hline hs hplain hsw
theorem qir3 (hB:Blt X.mg l) (ha:QA X true [a,b,c] fa) (hl:l.contains "range" = true:=by rfl) (hq:∀{t},PA X [a,b,c] t→X.mg "range" = none→PI X target (.Call (.Name "range" p) [a,b,c] [] pos) (iRngD t)):QI X target (.Call (.Name "range" p) [a,b,c] [] pos) (itRD fa):=by
 obtain ⟨_,a1,a2⟩:=ha.h;exact ⟨_,hq a1 (hB.h _ hl),vi_rngD a2⟩
structure RB (pm k:Bool) (cl:Nat→Addr) (X:Cx) (b:List Stmt) (G:VR):Prop where
 h:if pm=true then RXp k cl X b G else RXs k cl X b G
structure R1 (pm k:Bool) (cl:Nat→Addr) (X:Cx) (b:Stmt) (G:VR):Prop where
 h:if pm=true then RXp1 k cl X b G else RX1 k cl X b G
structure RE (cl:Nat→Addr) (X:Cx) (e:Expr) (g:PEnv→Option Nat):Prop where
 h:EX cl X e g
variable {pm r:Bool}{cl:Nat→Addr}{G G':VR}{F:VF}{st:Stmt}{s t:List Stmt}{u:PEnv→Option Nat}
theorem R1.of (h:RX1 r cl X st G):R1 pm r cl X st G:=⟨by cases pm<;>first|exact h|exact rxp1_of h⟩
theorem rq0:R1 pm r cl X st gNone:=.of rx_none
theorem rb0:RB pm r cl X s gNone:=⟨by cases pm<;>first|exact rxs_none|exact rxp_of rxs_none⟩
theorem rb1 (h:R1 pm r cl X st G):RB pm r cl X (st::s) G:=⟨by cases pm<;>first|exact rxs_one h.h|exact rxp_one h.h⟩
theorem rbc (hx:NoX X) (q:QS X st F) (h:R1 pm r cl X st G) (h2:RB pm r cl X s G'):RB pm r cl X (st::s) (gSeq F G G'):=by
 obtain ⟨_,a1,a2⟩:=q.h;exact ⟨by cases pm<;>first|exact rxs_cons hx a1 a2 h.h h2.h|exact rxp_cons hx a1 a2 h.h h2.h⟩
theorem rif {fc:VB}(hx:NoX X) (q:QT X c fc) (h:RB pm r cl X s G) (h2:RB pm r cl X t G'):R1 pm r cl X (.If c s t p) (gIf fc G G'):=by
 obtain ⟨_,a1,a2⟩:=q.h;exact ⟨by cases pm<;>first|exact rx_if hx a1 a2 h.h h2.h|exact rxp_if hx a1 a2 h.h h2.h⟩
theorem rexpr (h:RE cl X e u) (hs:swapsWith e none pos.line X.env=pure false:=by rfl):R1 pm r cl X (.Expr e pos) (gX u):=.of (rx_expr h.h hs)
theorem rret (h:RE cl X e u):R1 pm r cl X (.Return (some e) pos) (gX u):=.of (rx_ret h.h)
theorem rset (h:RE cl X e u) (hs:swapsWith e (some (.Name x p)) pos.line X.env=pure false:=by rfl):R1 pm r cl X (.Assign [.Name x p] e pos) (gX u):=.of (rx_set h.h hs)
theorem rcall {g:List PV→Option Nat}(hx:NoX X) (F:CF X.prog X.w X.K X.mg X.base (CX1 X.prog X.w) x k (spX cl g)) (hr:Room j X.A) (hk:k≤j) (ha:QA X false (e::es) fa) (hex:X.ex = []:=by rfl) (hg:Gl X x:=by rfl) (hdb:(x==("__debug__" : Str))=false:=by decide) (he:starEach (e::es) X.env=(false,eval e X.env)::starEach es X.env:=by rfl) (hpl:(backTo pos (starEach es X.env)).any (·.1)=false:=by rfl) :
  RE cl X (.Call (.Name x p) (e::es) [] pos) (gCall g fa):=by
 obtain ⟨_,_,_,F1,F2,F3,F4⟩:=F.h;obtain ⟨_,a1,a2⟩:=ha.h;exact ⟨ex_call hx hex F1 (hr.mono hk) hg F2 F3 F4 a1 a2 hdb he hpl⟩
theorem rix (h:RE cl X a u):RE cl X (.Subscript a b p) u:=⟨ex_ix h.h⟩
theorem rcomp {scope:Scope}{outer:List (Str×NameKind)}{N:List Str}{src:List (Option Nat)}(cs:CSc X outer N) (hok:compOkA scope outer N target src=true) (h:RE cl X iter u) (hs:∀x,foldedSetIterable iter X.env x=pure x:=by intro _;rfl):RE cl X (.ListComp elt [⟨target,iter,ifs,0⟩] scope p) u:=⟨ex_comp (compOkA_of cs hok).1 h.h hs⟩
structure Xc (K:PySem.W.Frag) (mg:Str→Option Value) (cl:Nat→Addr) (x:Str) (n:Nat):Prop where
 m:mg x=some (.ref (cl n))
 e:PySem.W.excIn K (cl n) [.type "ValueError",.type "Exception",.type "BaseException",.type "object"] "ValueError.__new__" = true
theorem rraise (hx:NoX X) (hc:Xc X.K X.mg cl x n) (ha:QA X false (e::es) fa) (hn:∃ps,∀ρ,fa ρ=some ps∧ps.length≤10) (hcm:X.calm=true:=by rfl) (hg:Gl X x:=by rfl) (hdb:(x==("__debug__" : Str))=false:=by decide) (he:starEach (e::es) X.env=(false,eval e X.env)::starEach es X.env:=by rfl) (hpl:(backTo p2 (starEach es X.env)).any (·.1)=false:=by rfl) :
  R1 pm true cl X (.Raise (some (.Call (.Name x p) (e::es) [] p2)) none pos) (gRaise n):=by
 obtain ⟨_,a1,a2⟩:=ha.h;exact .of (rx_raise hx hcm PySem.F.excBase_ValueError hg hc.m hc.e a1 a2 hn hdb he hpl)
variable {P:Program}{w:World}{K:PySem.W.Frag}{mg:Str→Option Value}{base:Heap}
theorem okQ {st:Stmt}{N ps:List Str}{fr:Bool}(D:Df K mg x st ps) (S:FnScope N ps (defScope st))
  (hb:∀(a:Addr) (cdv:Value) (A:Around) (outer:List Env) (s:Shared) (H:Hp) (E:XK),Room k (cxOf CX0 P w K mg base N x (defScope st) a cdv A outer s H E).nox.A→CSc (cxOf CX0 P w K mg base N x (defScope st) a cdv A outer s H E).nox (defScope st).names N→(cxOf CX0 P w K mg base N x (defScope st) a cdv A outer s H E).nox.N.Nodup →
   QB (cxOf CX0 P w K mg base N x (defScope st) a cdv A outer s H E).nox (defBody st) F):CF P w K mg base CX0 x (k+1) (spV fr (fnM ps.length N.length fr F)):=by
 obtain ⟨a,d,h1,h2,h3⟩:=D.h;refine ⟨a,d,ps,?_,h1,h2.kp,h3⟩;refine h2.ok S (spV_len rfl) fun cdv A outer s H vs Q E hr h=>?_;obtain ⟨_,q1,q2⟩:=(hb a cdv A outer s H E hr ⟨fun _=>rfl,rfl⟩ S.nd).h;exact ⟨_,q1,fnV q2 h⟩
theorem badQ {st:Stmt}{N ps:List Str}(D:Df K mg x st ps) (S:FnScope N ps (defScope st))
  (hb:∀(a:Addr) (cdv:Value) (A:Around) (outer:List Env) (s:Shared) (H:Hp) (E:XK),Room k (cxOf CX0 P w K mg base N x (defScope st) a cdv A outer s H E).nox.A→CSc (cxOf CX0 P w K mg base N x (defScope st) a cdv A outer s H E).nox (defScope st).names N→(cxOf CX0 P w K mg base N x (defScope st) a cdv A outer s H E).nox.N.Nodup →
   NoX (cxOf CX0 P w K mg base N x (defScope st) a cdv A outer s H E).nox→RB true true cl (cxOf CX0 P w K mg base N x (defScope st) a cdv A outer s H E).nox (defBody st) G):CF P w K mg base (CX1 P w) x (k+1) (spX cl (gnM ps.length N.length G)):=by
 obtain ⟨a,d,h1,h2,h3⟩:=D.h;exact ⟨a,d,ps,h2.okXp S fun cdv A outer s H E hr=>(hb a cdv A outer s H E hr ⟨fun _=>rfl,rfl⟩ S.nd fun _ _ z=>z).h,h1,h2.kp,h3⟩
end
theorem qtry {cl:Nat→Addr}{X:Cx}{body:List Stmt}{h0:ExceptHandler}{hs:List ExceptHandler}{pos:Pos}{Fb:VF}{Gb:VR}{hn:Nat→VF}(hx:NoX X) (hex:X.ex = []) (hst:X.stack=X.env::X.outer) (hf:X.env.frame=some X.env.locals) (hb:QB X body Fb) (hg:RB false false cl X body Gb) (hh:∀n,HB2 cl X (h0::hs) n (hn n)):QS X (.Try body (h0::hs) [] [] pos) (vTry2 Fb Gb hn):=by
 obtain ⟨_,b1,b2⟩:=hb.h;exact ⟨_,ps_sem,vs_try2 hx hex hst hf b1 b2 hg.h hh⟩
theorem okL {P:Program}{w:World}{K:PySem.W.Frag}{mg:Str→Option Value}{base:Heap}{k:Nat}{x:Str}{F:VF}{st:Stmt}{N ps:List Str}{a:Addr}{d:FuncData}(D:Fun K x x st a d) (S:FnScope N ps (defScope st))
  (hb:∀(cdv:Value) (A:Around) (outer:List Env) (s:Shared) (H:Hp) (E:XK),Room k (cxOf CX0 P w K mg base N x (defScope st) a cdv A outer s H E).nox.A→CSc (cxOf CX0 P w K mg base N x (defScope st) a cdv A outer s H E).nox (defScope st).names N→(cxOf CX0 P w K mg base N x (defScope st) a cdv A outer s H E).nox.N.Nodup →
   QB (cxOf CX0 P w K mg base N x (defScope st) a cdv A outer s H E).nox (defBody st) F):FnOk P w K mg base CX0 (k+1) a d ps (spV false (fnM ps.length N.length false F)):=by
 refine D.ok S (spV_len rfl) fun cdv A outer s H vs Q E hr h=>?_;obtain ⟨_,q1,q2⟩:=(hb cdv A outer s H E hr ⟨fun _=>rfl,rfl⟩ S.nd).h;exact ⟨_,q1,fnV q2 h⟩
section
variable {X:Cx}{m ma mb mc:Md}{a b c e elt target iter:Expr}{es ifs:List Expr}{pos p p2 ap:Pos}{f g h:VX}{fa fb:VL}{k n i j:Nat}{x y:Str}{l:List Str}
theorem qit (ha:QE X m a f):QI X target a (itT f):=by
 obtain ⟨_,a1,a2⟩:=ha.h;exact ⟨_,pi_tupK rfl a1,vi_tup a2⟩
end
open PySem.Spec PyProof.Rows PySem.W
theorem vals_strs:∀{ss:List Str}{us:List Value},StrsAre us ss→Vals (ss.map V.str) us
 | _,_,.nil=>.nil
 | _,_,.cons n t h=>.cons ⟨t,rfl⟩ (vals_strs h)
theorem strs_of_get:∀{ns:List Str}{us:List Value},us.length=ns.length→(∀(j:Nat) (v:Value),us[j]?=some v→∃n t,ns[j]?=some n∧v=Value.str n t)→StrsAre us ns
 | [],[],_,_=>.nil
 | [],_::_,h,_=>nomatch h
 | _::_,[],h,_=>nomatch h
 | n::ns,u::us,h,k=>by
  obtain ⟨m,t,e,rfl⟩:=k 0 u rfl;simp at e;subst e;exact .cons _ _ (strs_of_get (by simpa using h) fun j v hv=>by simpa using k (j+1) v (by simpa using hv))
theorem key_str {P:Program}{w:World}{n:Str}{v:Value}(h:(mixKind P w).is (Sum.inr n) v=true):∃t,v=Value.str n t :=
 by
  rcases keyIs_shape (k:=Sum.inr n) h with ⟨i,t,e,_⟩|⟨x,t,e,rfl⟩
  ·cases e
  ·cases e;exact ⟨t,rfl⟩
def rSrtDs:List V→Hp→VK→Prop:=fun xs H Q=>∃(a:Addr) (kvs:List (Key×V)) (ns:List Str),xs = [.ref a]∧Rd H a (.dK kvs)∧kvs.map (·.1)=ns.map Sum.inr∧ns.length < 64 ∧
 ∀ns':List Str,ns'.Perm ns→sortedS ns'=true→∀l,H l=none→Q (.ref l) (upd H l (.lst (ns'.map V.str)))
theorem call_sortedDs {X:Cx}(hc:X.calm=true):CallR X (.builtin "sorted") rSrtDs:=by
 intro pins s σ H xs us Q I r h;obtain ⟨a,kvs,ns,rfl,ha,hk,h64,q⟩:=h;obtain ⟨u,rfl,rx⟩:=vals1 r;cases rx;obtain ⟨z,hd,vs,rel,dd⟩:=dk_rd I.hok ha;have hlen:vs.length=ns.length:=by
  have e1:=rel.len;have e2:=congrArg List.length hk;simp only [Zd] at e2;omega
 refine Calls.call_function_entry kind_sorted plain_sorted entry_sorted (args_sorted1 _) ?_;unfold Builtin.«sorted»;refine wpAny_bind (m:=checkCount "sorted" 1 1 _) (wpAny_pure ?_);obtain ⟨ep,hat⟩:=dd.dictAt;refine wpAny_bind (kdu_collect (A:=X.A.in1) (kdl_dict (knd:=mixKind X.prog X.w) (kvs:=vs) (ep:=ep) hd) (I.ok.hd hc) hat (by rw [hlen,sizeLine_eq];omega) fun h' tk acc hkk hacc=>?_);have hl:acc.toList.length=vs.length:=by rw [Array.length_toList];exact hacc.1
 refine wpAny_bind (wpAny_newList ?_ (by rw [hl,hlen,sizeLine_eq];omega));have hI:StrsAre acc.toList ns:=by
  refine strs_of_get (by rw [hl,hlen]) fun j v hv=>?_;obtain ⟨k,x,hx,his⟩:=hacc.2 j v (by rw [←Array.getElem?_toList];exact hv);have hkj:(vs.map (·.1))[j]?=some k:=by rw [Zj,hx];rfl
  rw [←kv_keys rel,hk,Zj] at hkj;obtain ⟨n,hn,rfl⟩:=Zb.mp hkj;obtain ⟨t,rfl⟩:=key_str his;exact ⟨n,t,hn,rfl⟩
 have hoL:(h'.push (seqObj "list" acc.toList.toArray 0)).get? h'.objs.size=some (seqObj "list" acc.toList.toArray 0):=Heap.get?_push_size _ rfl;refine wpAny_bind (wpAny_holding (wpAny_call_entry slot_list_sort ⟨_,hoL,rfl⟩ entry_list_sort (list_sort_treeK strKind_oneLt hoL hI.keysOf (fun v₁ v₂ rest e=>keyKind_strs (by rw [←e];exact hI)) (by rw [hl,hlen];exact h64) fun st' hp hs=>⟨_,rfl,?_⟩) (args_list_sort _)));obtain ⟨ns',a1,a2,a3⟩:=sorted_out_str hI hp hs;generalize (arrOf st').map (·.2)=out at a1 ⊢;refine wpAny_pure ⟨_,rfl,?_⟩;obtain ⟨e,he⟩:=sortedHeap_at (out:=out) hoL;have I1:Inv X pins σ H { s with heap:=h',toks:=tk }:=I.kept (t':=tk) hkk;have kp:∀b o,h'.get? b=some o→(sortedHeap (h'.push (seqObj "list" acc.toList.toArray 0)) h'.objs.size acc.toList out).get? b=some o:=fun b o hb=>by
  have hb':=Heap.lt_size hb;rw [sortedHeap_old (Nat.ne_of_lt hb') (by rw [size_push'];exact Nat.lt_succ_of_lt hb')];exact Heap.get?_push_of_some _ hb
 refine ⟨.ref h'.objs.size,_,I1.laid (t':=tk) kp (Nat.le_refl _) (show ObjOk X.prog X.w _ _ _ (.lst (ns'.map V.str)) from ⟨?_,out.toList,e,vals_strs a1,by simpa using he⟩),rfl,q ns' a2 a3 _ (I1.hok.fresh (Nat.le_refl _))⟩;rw [Zd,a2.length_eq,sizeLine_eq];omega
def leS (a b:Str):Bool:=!decide (b.cps.toList < a.cps.toList)
def insS (x:Str):List Str→List Str
 | []=>[x]
 | y::r=>if leS x y then x::y::r else y::insS x r
def srtS:List Str→List Str
 | []=>[]
 | x::r=>insS x (srtS r)
theorem leS_iff {a b:Str}:leS a b=true↔a.cps.toList≤b.cps.toList:=by unfold leS;simp
theorem leS_total (a b:Str):leS a b=true∨leS b a=true:=by rw [leS_iff,leS_iff];exact List.le_total _ _
theorem leS_trans {a b c:Str}(h:leS a b=true) (g:leS b c=true):leS a c=true:=by rw [leS_iff] at *;exact List.le_trans h g
theorem leS_anti {a b:Str}(h:leS a b=true) (g:leS b a=true):a=b:=by
 rw [leS_iff] at *;have:=List.le_antisymm h g;cases a;cases b;simp only [Str.mk.injEq];exact Array.ext' this
theorem insS_perm (x:Str):∀l:List Str,(insS x l).Perm (x::l)
 | []=>.refl _
 | y::r=>by
  unfold insS;split
  ·exact .refl _
  ·exact ((insS_perm x r).cons y).trans (.swap x y r)
theorem srtS_perm:∀l:List Str,(srtS l).Perm l
 | []=>.refl _
 | x::r=>(insS_perm x _).trans ((srtS_perm r).cons x)
theorem insS_pw (x:Str):∀{l:List Str},l.Pairwise (fun a b=>leS a b=true)→(insS x l).Pairwise (fun a b=>leS a b=true)
 | [],_=>List.pairwise_singleton _ _
 | y::r,h=>by
  unfold insS;split
  ·rename_i hxy
   refine Zm1.mpr ⟨fun z hz=>?_,h⟩;rcases Zk.mp hz with rfl|hz
   ·exact hxy
   ·exact leS_trans hxy ((Zm1.mp h).1 z hz)
  ·rename_i hxy
   have hyx:leS y x=true:=(leS_total x y).resolve_left hxy;refine Zm1.mpr ⟨fun z hz=>?_,insS_pw x (Zm1.mp h).2⟩;rcases Zk.mp ((insS_perm x r).mem_iff.mp hz) with rfl|hz
   ·exact hyx
   ·exact (Zm1.mp h).1 z hz
theorem srtS_pw:∀l:List Str,(srtS l).Pairwise (fun a b=>leS a b=true)
 | []=>.nil
 | x::r=>insS_pw x (srtS_pw r)
theorem permS:∀{a b:List Str},a.Perm b→a.Pairwise (fun a b=>leS a b=true)→b.Pairwise (fun a b=>leS a b=true)→a=b
 | [],b,h,_,_=>by rw [List.nil_perm.mp h]
 | x::a,[],h,_,_=>by cases List.perm_nil.mp h
 | x::a,y::b,h,ha,hb=>by
  have hx:x=y:=by
   rcases Zk.mp (h.mem_iff.mp (Zf ..)) with e|e
   ·exact e
   rcases Zk.mp (h.mem_iff.mpr (Zf ..)) with e'|e'
   ·exact e'.symm
   exact leS_anti ((Zm1.mp ha).1 y e') ((Zm1.mp hb).1 x e)
  subst hx;rw [permS (List.Perm.cons_inv h) (Zm1.mp ha).2 (Zm1.mp hb).2]
theorem risS_pw:∀(l:List Str) (p:Str),risingS p l=true→(p::l).Pairwise (fun a b=>leS a b=true)
 | [],p,_=>List.pairwise_singleton _ _
 | x::r,p,h=>by
  simp only [risingS,Zc1] at h;have ih:=risS_pw r x h.2;have hpx:leS p x=true:=by
   have:=h.1;rw [ltCps_eq] at this;exact this
  refine Zm1.mpr ⟨fun z hz=>?_,ih⟩;rcases Zk.mp hz with rfl|hz
  ·exact hpx
  ·exact leS_trans hpx ((Zm1.mp ih).1 z hz)
theorem sortS_pw {l:List Str}(h:sortedS l=true):l.Pairwise (fun a b=>leS a b=true):=by
 cases l with
 | nil=>exact .nil
 | cons x r=>exact risS_pw r x h
def keysS:List (Key×PV)→Option (List Str)
 | []=>some []
 | (.inr x,_)::r=>(keysS r).map (x::·)
 | _=>none
theorem keysS_map {U:AS}{H:Hp}:∀{ks:List (Key×PV)}{kvs:List (Key×V)}{ns:List Str},RepK U H ks kvs→keysS ks=some ns→kvs.map (·.1)=ns.map Sum.inr
 | [],kvs,ns,r,e=>by
  cases e;rw [repK_nil.mp r];rfl
 | (.inl i,p)::ks,kvs,ns,r,e=>by cases e
 | (.inr x,p)::ks,kvs,ns,r,e=>by
  obtain ⟨ms,hm,rfl⟩:=Zb.mp e;obtain ⟨v,kr,rfl,_,hr⟩:=repK_cons.mp r;rw [Zh,Zh,keysS_map hr hm]
def pSrtDs:List PV→Option PV
 | [.dct ks]=>(keysS ks).bind fun ns=>if decide (ns.length < 64)=true then some (.lst ((srtS ns).map PV.str)) else none
 | _=>none
theorem Reps.of_strs {U:AS}{H:Hp}:∀(ns:List Str),Reps U H (ns.map PV.str) (ns.map V.str)
 | []=>reps_nil.mpr rfl
 | n::ns=>reps_cons.mpr ⟨_,_,rfl,rep_str.mpr rfl,Reps.of_strs ns⟩
theorem rl_srtDs:RLV .fr rSrtDs pSrtDs:=by
 intro U H ps z vs Q d hb e k
 match ps,e with
 | [.dct ks],e =>
  obtain ⟨ns,hns,e⟩:=Za.mp e;obtain ⟨h,rfl⟩:=some_if e;obtain ⟨v,rfl,a,kvs,rfl,ha,rk⟩:=hb.one;refine ⟨a,kvs,ns,rfl,ha,keysS_map rk hns,of_decide_eq_true h,fun ns' hp hs l hl=>?_⟩;rw [permS (hp.trans (srtS_perm ns).symm) (sortS_pw hs) (srtS_pw ns)];obtain ⟨e2,r2⟩:=new_lst d hl (Reps.of_strs (srtS ns));exact k _ _ U e2 r2
theorem c_srtDs {X:Cx}(hc:X.calm=true):C2 X (.builtin "sorted") .fr pSrtDs:=⟨_,call_sortedDs hc,rl_srtDs⟩
end L2
namespace HT
open PySem PyProof.Rows
end HT
namespace L2
open PySem PySem.Spec PyProof.Rows
end L2
namespace L2
open PySem PySem.W PyProof.Rows
section
variable {n:Nat}(h0:0 < n)
include h0
end
open PySem.Spec
end L2
namespace L2
open PySem
open PySem.W PyProof.Rows
structure WOrd (lt:Nat→Nat→Bool):Prop where
 as:∀a b,lt a b=true→lt b a=false
 tr:∀a b c,lt b a=false→lt c b=false→lt c a=false
section
variable {lt:Nat→Nat→Bool}(W:WOrd lt)
include W
end
end L2
namespace PySem
open PyProof.Rows
open PySem.W PySem.Spec
end PySem
namespace L2
open PySem PySem.Spec PyProof.Rows PySem.W
end L2
namespace L2
open PySem PySem.W PyProof.Rows
section
variable {X:Cx}{m ma mb mc:Md}{a b c e:Expr}{es:List Expr}{pos p p2 ap:Pos}{f g h:VX}{fa fb:VL}{k n i j:Nat}{x y:Str}{l:List Str}
theorem hu1_of {A:Around}{k:Nat}(hr:Room k A):A.units+1 < cLine:=Nat.lt_of_le_of_lt (Nat.add_le_add_left (by decide:1≤64) _) hr.units
theorem c_srtDz (hc:X.calm=true):C2 X (.builtin "sorted") .fr pSrtDz:=⟨_,call_sortedD hc,rl_srtDz⟩
theorem qdnew:QE X .fr (.Dict [] [] p) (fun _=>some (.dct [])):=⟨_,pe_dnewK,ve_dnew⟩
theorem qdisp1 (ha:QE X ma a f) (hb:QE X .shr b g):QE X .fr (.Dict [some a] [b] p) (xDisp1 f g):=by
 obtain ⟨_,a1,a2⟩:=ha.h;obtain ⟨_,b1,b2⟩:=hb.h;exact ⟨_,pe_disp (pps_cons a1 b1 pps_nil) rfl rfl (fun z=>nomatch z) (Nat.le_of_ble_eq_true rfl),ve_disp1 a2 b2⟩
theorem qtdin (hr:Room k X.A) (ha:QE X ma a f) (hb:QE X mb b g) (hm:behindInMarks .In b=false):QT X (.Compare a [.In] [b] p) (bOf (xDIn false f g)):=by
 obtain ⟨_,a1,a2⟩:=ha.h;obtain ⟨_,b1,b2⟩:=hb.h;exact ⟨_,pt_cmp (pc_din (hu1_of hr) a1 b1) hm,vt_val (ve_din a2 b2)⟩
theorem qtdnotin (hr:Room k X.A) (ha:QE X ma a f) (hb:QE X mb b g) (hm:behindInMarks .NotIn b=false):QT X (.Compare a [.NotIn] [b] p) (bOf (xDIn true f g)):=by
 obtain ⟨_,a1,a2⟩:=ha.h;obtain ⟨_,b1,b2⟩:=hb.h;exact ⟨_,pt_cmp (pc_dnotin (hu1_of hr) a1 b1) hm,vt_val (ve_dnotin a2 b2)⟩
theorem qdput (hr:Room k X.A) (q:PE X (.Name x p) (tVar i)) (hk:QE X m b g) (ha:QE X .shr a f) (hs:swapsWith a (some (.Subscript (.Name x p) b ap)) pos.line X.env=pure false:=by rfl):QS X (.Assign [.Subscript (.Name x p) b ap] a pos) (vDPut i g f):=by
 obtain ⟨_,a1,a2⟩:=ha.h;obtain ⟨_,b1,b2⟩:=hk.h;exact ⟨_,ps_dput (hu1_of hr) q b1 a1 hs,vs_dput b2 a2⟩
theorem qdupd (q:PE X (.Name x p) (tVar i)) (ha:QE X .shr a f)
  (hbase:attributeBase (.Name x p) "update" X.env (eval (.Name x p) X.env)=eval (.Name x p) X.env:=by rfl)
  (hfew:((backTo p2 (starEach [a] X.env)).all (fun x=>!x.1)&&(backToKw p2 (keywordEach [] X.env)).all (fun x=>x.1.isSome)&&decide ([a].length + ([]:List Keyword).length + (if ([]:List Keyword).isEmpty then 0 else 1) < 30))=true:=by rfl)
  (hline:(ap.endLine==p2.line)=true:=by rfl) (hs:starEach [a] X.env=(false,eval a X.env)::starEach [] X.env:=by rfl) (hplain:(backTo p2 (starEach [] X.env)).any (·.1)=false:=by rfl) (hsw:swapsWith (.Call (.Attribute (.Name x p) "update" ap) [a] [] p2) none pos.line X.env=pure false:=by rfl) :
  QS X (.Expr (.Call (.Attribute (.Name x p) "update" ap) [a] [] p2) pos) (vDUpd i f):=qm1 ⟨_,mt_dupd,fun h=>vs_dupd h⟩ PySem.F.plainAttrs_dict PySem.F.slot_dict_update PySem.F.type_dict_update q ha hbase hfew hline hs hplain hsw
end
inductive Sh where|s|l (h:Sh)|t (h:Nat→Sh)|o (C:Addr) (nm:List Str) (h:Nat→Sh)
def DItems (R:Nat→PV→V→List Addr→Prop):Nat→List PV→List V→List Addr→Prop
 | _,[],xs,fs=>xs = []∧fs = []
 | n,p::ps,xs,fs=>∃x r f g,xs=x::r∧R n p x f∧DItems R (n+1) ps r g∧fs=f++g
def DRep (U:AS) (H:Hp):Sh→PV→V→List Addr→Prop
 | .s,p,v,fs=>Rep U H p v∧fs = []
 | .l h,p,v,fs=>∃a xs ps g,v=.ref a∧p=.lst ps∧H a=some (.lst xs)∧DItems (fun _=>DRep U H h) 0 ps xs g∧fs=a::g
 | .t h,p,v,fs=>∃a xs ps,v=.ref a∧p=.tup ps∧H a=some (.tup xs)∧DItems (fun n=>DRep U H (h n)) 0 ps xs fs
 | .o C nm h,p,v,fs=>∃a dx xs ps g,v=.ref a∧p=.obj C nm ps∧H a=some (.ins C dx (nm.zip xs))∧nm.length=ps.length∧DItems (fun n=>DRep U H (h n)) 0 ps xs g∧fs=a::g
section
variable {R R':Nat→PV→V→List Addr→Prop}
theorem DItems.imp:∀{ps:List PV}{n:Nat}{xs:List V}{fs:List Addr},(∀m p x f,R m p x f→(∀b∈f,b∈fs)→R' m p x f)→DItems R n ps xs fs→DItems R' n ps xs fs
 | [],n,xs,fs,_,d=>d
 | p::ps,n,xs,fs,h,d=>by
  obtain ⟨x,r,f,g,rfl,h1,h2,rfl⟩:=d;exact ⟨x,r,f,g,rfl,h _ _ _ _ h1 fun b hb=>List.mem_append_left _ hb,DItems.imp (fun m p x f q z=>h m p x f q fun b hb=>List.mem_append_right _ (z b hb)) h2,rfl⟩
theorem DItems.length:∀{ps:List PV}{n:Nat}{xs:List V}{fs:List Addr},DItems R n ps xs fs→xs.length=ps.length
 | [],n,xs,fs,d=>by rw [d.1];rfl
 | p::ps,n,xs,fs,d=>by
  obtain ⟨x,r,f,g,rfl,h1,h2,rfl⟩:=d;simp [DItems.length h2]
theorem DItems.reps {U:AS}{H:Hp}:∀{ps:List PV}{n:Nat}{xs:List V}{fs:List Addr},(∀m p x f,R m p x f→(∀b∈f,b∈fs)→Rep U H p x)→DItems R n ps xs fs→Reps U H ps xs
 | [],n,xs,fs,_,d=>reps_nil.mpr d.1
 | p::ps,n,xs,fs,h,d=>by
  obtain ⟨x,r,f,g,rfl,h1,h2,rfl⟩:=d;exact reps_cons.mpr ⟨x,r,rfl,h _ _ _ _ h1 fun b hb=>List.mem_append_left _ hb,DItems.reps (fun m p x f q z=>h m p x f q fun b hb=>List.mem_append_right _ (z b hb)) h2⟩
theorem DItems.at_:∀{ps:List PV}{n k:Nat}{xs:List V}{fs:List Addr}{p:PV},DItems R n ps xs fs→ps[k]?=some p →
  ∃x f1 g f2,xs[k]?=some x∧R (n+k) p x g∧fs=f1++g++f2∧∀(R':Nat→PV→V→List Addr→Prop) p' g',(∀m q y f,R m q y f→(∀b∈f,b∈f1∨b∈f2)→R' m q y f)→R' (n+k) p' x g'→DItems R' n (ps.set k p') xs (f1++g'++f2)
 | [],n,k,xs,fs,p,d,e=>by simp at e
 | q::ps,n,0,xs,fs,p,d,e=>by
  obtain ⟨x,r,f,g,rfl,h1,h2,rfl⟩:=d;simp at e;subst e;refine ⟨x,[],f,g,rfl,h1,rfl,fun R' p' g' hi hp=>?_⟩;exact ⟨x,r,g',g,rfl,hp,DItems.imp (fun m p x f q z=>hi m p x f q fun b hb=>.inr (z b hb)) h2,rfl⟩
 | q::ps,n,k+1,xs,fs,p,d,e=>by
  obtain ⟨x,r,f,g,rfl,h1,h2,rfl⟩:=d;obtain ⟨y,f1,gg,f2,e1,e2,rfl,e4⟩:=DItems.at_ (k:=k) h2 (by simpa using e);refine ⟨y,f++f1,gg,f2,by simpa using e1,by rw [show n + (k+1)=n+1+k by omega];exact e2,by simp,fun R' p' g' hi hp=>?_⟩;refine ⟨x,r,f,f1++g'++f2,rfl,hi _ _ _ _ h1 fun b hb=>.inl (List.mem_append_left _ hb),e4 R' p' g' (fun m q y f q2 z=>hi m q y f q2 fun b hb=>(z b hb).elim (fun z=>.inl (List.mem_append_right _ z)) .inr) (by rw [show n+1+k=n + (k+1) by omega];exact hp),by simp⟩
theorem DItems.snoc:∀{ps:List PV}{n:Nat}{xs:List V}{fs f:List Addr}{p:PV}{x:V},DItems R n ps xs fs→R (n+ps.length) p x f→DItems R n (ps++[p]) (xs++[x]) (fs++f)
 | [],n,xs,fs,f,p,x,d,h=>by
  obtain ⟨rfl,rfl⟩:=d;exact ⟨x,[],f,[],rfl,h,⟨rfl,rfl⟩,by simp⟩
 | q::ps,n,xs,fs,f,p,x,d,h=>by
  obtain ⟨y,r,f1,g,rfl,h1,h2,rfl⟩:=d;refine ⟨y,r++[x],f1,g++f,rfl,h1,DItems.snoc h2 (by rw [show n+1+ps.length=n + (q::ps).length by simp;omega];exact h),by simp⟩
end
theorem DRep.keeps {U U':AS}{H H':Hp}(k:Keeps U H U' H'):∀{h:Sh}{p:PV}{v:V}{fs:List Addr},DRep U H h p v fs→(∀b∈fs,∀o,H b=some o→H' b=some o)→DRep U' H' h p v fs
 | .s,p,v,fs,d,_=>⟨Rep.keeps k _ _ d.1,d.2⟩
 | .l h,p,v,fs,d,c=>by
  obtain ⟨a,xs,ps,g,rfl,rfl,e,di,rfl⟩:=d;exact ⟨a,xs,ps,g,rfl,rfl,c a Zf _ e,DItems.imp (fun m p x f q z=>DRep.keeps k q fun b hb=>c b (Ze _ (z b hb))) di,rfl⟩
 | .t h,p,v,fs,d,c=>by
  obtain ⟨a,xs,ps,rfl,rfl,e,di⟩:=d;exact ⟨a,xs,ps,rfl,rfl,k.tup a xs e,DItems.imp (fun m p x f q z=>DRep.keeps k q fun b hb=>c b (z b hb)) di⟩
 | .o C nm h,p,v,fs,d,c=>by
  obtain ⟨a,dx,xs,ps,g,rfl,rfl,e,hl,di,rfl⟩:=d;exact ⟨a,dx,xs,ps,g,rfl,rfl,c a Zf _ e,hl,DItems.imp (fun m p x f q z=>DRep.keeps k q fun b hb=>c b (Ze _ (z b hb))) di,rfl⟩
theorem Keeps.up {U V:AS}{H:Hp}(m:∀a,U a→V a):Keeps U H V H:=⟨m,fun _ _ _ h=>h,fun _ _ _ h=>h,fun _ _ _ h=>h,fun _ _ h=>h⟩
theorem DRep.rep {U W:AS}{H:Hp}(m:∀a,U a→W a):∀{h:Sh}{p:PV}{v:V}{fs:List Addr},DRep U H h p v fs→(∀b∈fs,W b)→Rep W H p v
 | .s,p,v,fs,d,_=>Rep.keeps (Keeps.up m) _ _ d.1
 | .l h,p,v,fs,d,c=>by
  obtain ⟨a,xs,ps,g,rfl,rfl,e,di,rfl⟩:=d;exact rep_lst.mpr ⟨a,xs,rfl,c a Zf,e,DItems.reps (fun m' p x f q z=>DRep.rep m q fun b hb=>c b (Ze _ (z b hb))) di⟩
 | .t h,p,v,fs,d,c=>by
  obtain ⟨a,xs,ps,rfl,rfl,e,di⟩:=d;exact rep_tup.mpr ⟨a,xs,rfl,e,DItems.reps (fun m' p x f q z=>DRep.rep m q fun b hb=>c b (z b hb)) di⟩
 | .o C nm h,p,v,fs,d,c=>by
  obtain ⟨a,dx,xs,ps,g,rfl,rfl,e,hl,di,rfl⟩:=d;exact rep_obj.mpr ⟨a,dx,xs,rfl,c a Zf,e,hl,DItems.reps (fun m' p x f q z=>DRep.rep m q fun b hb=>c b (Ze _ (z b hb))) di⟩
def shrA:Option (PV×Fl)→Option (PV×Fl)
 | some (p,_)=>some (p,.shr)
 | none=>none
def vw (i:Nat) (p:PV) (ρ:PEnv):PEnv:=(ρ.map shrA).set i (some (p,.shr))
theorem SR.all {U O:AS}{H:Hp}{σ:St}{ρ:PEnv}(s:SR U O H σ ρ):SR (fun a=>H a≠none) (fun _=>False) H σ (ρ.map shrA):=by
 refine ⟨by simp [s.len],fun _ h=>h,fun _ h=>h.elim,fun _ _ h=>h,fun i p fl h=>?_,fun i j p q a ne h1 h2 h3 h4=>?_⟩
 ·rw [Zj] at h
  obtain ⟨o,ho,e⟩:=Zb.mp h;cases o with
  | none=>cases e
  | some x =>
   obtain ⟨q,fl0⟩:=x;cases e;obtain ⟨v,hv,ok⟩:=s.slot i p fl0 ho;refine ⟨v,hv,?_⟩;cases fl0 with
   | shr=>exact Rep.keeps (Keeps.up s.dU) _ _ ok
   | own=>obtain ⟨a,rfl,oa,tp⟩:=ok;exact Bor.dm s.dU tp.bor
   | bor=>exact Bor.dm s.dU ok.1
 ·rw [Zj] at h1
  obtain ⟨o,ho,e⟩:=Zb.mp h1;cases o with
  | none=>cases e
  | some x=>cases e
theorem set_id {α:Type}:∀{l:List α}{i:Nat}{x:α},l[i]?=some x→l.set i x=l
 | [],_,_,h=>by simp at h
 | y::l,0,x,h=>by simp at h;simp [h]
 | y::l,i+1,x,h=>by simp at h;simp [set_id h]
structure SD (U P:AS) (H:Hp) (σ:St) (ρ:PEnv) (i:Nat) (h:Sh) (p:PV) (a:Addr):Prop where
 h:∃O fs,SR U O H σ ρ∧ρ[i]?=some (some (.adr a,.shr))∧DRep U H h p (.ref a) fs∧fs.Nodup∧(∀b∈fs,¬U b∧¬O b∧Mutb H b)∧∀b,P b↔O b∨b∈fs
section
variable {U P U':AS}{H H':Hp}{σ:St}{ρ:PEnv}{i:Nat}{h:Sh}{p:PV}{a:Addr}
theorem Mutb.dom {b:Addr}(m:Mutb H b):H b≠none:=by obtain ⟨o,e,_⟩:=m;rw [e];intro z;cases z
theorem SD.sig (s:SD U P H σ ρ i h p a):σ[i]?=some (some (.ref a)):=by
 obtain ⟨O,fs,s,tk,_⟩:=s.h;obtain ⟨v,hv,ok⟩:=s.slot i _ _ tk;rw [hv,rep_adr.mp (show Rep U H (.adr a) v from ok)]
theorem SD.view (s:SD U P H σ ρ i h p a):SR (fun a=>H a≠none) (fun _=>False) H σ (vw i p ρ):=by
 have hs:=s.sig;obtain ⟨O,fs,s,tk,d,nd,ds,_⟩:=s.h;have:=s.all.setS (i:=i) (p:=p) (v:=.ref a) (d.rep s.dU fun b hb=>(ds b hb).2.2.dom);rw [set_id hs] at this;exact this
theorem SD.dU (s:SD U P H σ ρ i h p a):∀a,U a→H a≠none:=by
 obtain ⟨O,fs,s,_⟩:=s.h;exact s.dU
theorem SD.ext (s:SD U P H σ ρ i h p a) (e:Ext U H U' H'):SD U' P H' σ ρ i h p a:=by
 obtain ⟨O,fs,s,tk,d,nd,ds,hP⟩:=s.h;refine ⟨O,fs,s.ext e,tk,d.keeps e.keeps fun b _ o q=>e.same b o q,nd,fun b hb=>?_,hP⟩;obtain ⟨d1,d2,o,d3,d4⟩:=ds b hb;refine ⟨fun z=>?_,d2,o,e.same _ _ d3,d4⟩;rcases e.new b z with z|z
 ·exact d1 z
 ·rw [d3] at z;cases z
end
inductive DO where|nx (ρ:PEnv) (p:PV)|rt (q:PV)
def PostD (U P:AS) (H:Hp) (i:Nat) (h:Sh) (a:Addr) (D:Ends):DO→Prop
 | .nx ρ' p'=>∀U' P' H' σ',SD U' P' H' σ' ρ' i h p' a→Tr U P H U' P' H'→D.nx σ' H'
 | .rt q=>∀U' P' H' v,Tr U P H U' P' H'→Rep U' H' q v→D.rt v H'
abbrev DF:=PEnv→PV→Option DO
abbrev DB:=PEnv→PV→Option Out
def VD (i:Nat) (h:Sh) (t:TS) (G:DF):Prop:=∀(U P:AS) (H:Hp) (σ:St) (ρ:PEnv) (p:PV) (a:Addr) (D:Ends) (o:DO),SD U P H σ ρ i h p a→G ρ p=some o→PostD U P H i h a D o→t D σ H
def VDB (i:Nat) (h:Sh) (t:TS) (G:DB):Prop:=∀(U P:AS) (H:Hp) (σ:St) (ρ:PEnv) (p:PV) (a:Addr) (D:Ends) (o:Out),SD U P H σ ρ i h p a→G ρ p=some o→Post U P H D o→t D σ H
theorem PostD.pre {U P U1 P1:AS}{H H1:Hp}{i:Nat}{h:Sh}{a:Addr}{D:Ends}{o:DO}(t:Tr U P H U1 P1 H1) (q:PostD U P H i h a D o):PostD U1 P1 H1 i h a D o:=by
 cases o with
 | nx ρ' p'=>exact fun U' P' H' σ' s r=>q U' P' H' σ' s (t.trans r)
 | rt v=>exact fun U' P' H' v r k=>q U' P' H' v (t.trans r) k
section
variable {i:Nat}{h:Sh}{t u:TS}{G:DF}{B:DB}{F:VF}
def dThen (G:DF) (B:DB):DB:=fun ρ p=>match G ρ p with
 | some (.nx ρ' p')=>B ρ' p'
 | some (.rt q)=>some (.rt q false)
 | none=>none
theorem db_cons (hg:VD i h t G) (hb:VDB i h u B):VDB i h (tSeq t u) (dThen G B):=by
 intro U P H σ ρ p a D o s e q;unfold dThen at e;cases z:G ρ p with
 | none=>rw [z] at e;cases e
 | some o1 =>
  rw [z] at e;refine hg U P H σ ρ p a { D with nx:=u D } o1 s z ?_;cases o1 with
  | nx ρ1 p1=>exact fun U1 P1 H1 σ1 s1 r1=>hb U1 P1 H1 σ1 ρ1 p1 a D o s1 e (q.pre r1)
  | rt v=>cases e;exact fun U' P' H' v r k=>q U' P' H' v r k
theorem SR.addU {U O:AS}{H:Hp}{σ:St}{ρ:PEnv}{fs:List Addr}(s:SR U O H σ ρ) (hf:∀b∈fs,¬O b∧H b≠none):SR (fun b=>U b∨b∈fs) O H σ ρ:=by
 have k:Keeps U H (fun b=>U b∨b∈fs) H:=Keeps.up fun _ h=>.inl h;refine ⟨s.len,fun b z=>z.elim (s.dU b) fun z=>(hf b z).2,s.dO,fun b z o=>z.elim (fun z=>s.dis b z o) fun z=>(hf b z).1 o,fun j q fl e=>?_,s.inj⟩;obtain ⟨v,hv,ok⟩:=s.slot j q fl e;refine ⟨v,hv,?_⟩;cases fl with
 | shr=>exact Rep.keeps k _ _ ok
 | own=>obtain ⟨a,e1,e2,e3⟩:=ok;exact ⟨a,e1,e2,e3.keeps k fun _ h=>h⟩
 | bor=>exact ⟨Bor.keeps k (fun _ _ h=>h) ok.1,ok.2⟩
def dEnd (i:Nat) (F:VF):DB:=fun ρ p=>F (ρ.set i (some (p,.shr)))
theorem db_end (hf:VS t F):VDB i h t (dEnd i F):=by
 intro U P H σ ρ p a D o s e q;have sg:=s.sig;obtain ⟨O,fs,s,tk,d,nd,ds,hP⟩:=s.h;have s1:=s.addU (fs:=fs) fun b hb=>⟨(ds b hb).2.1,(ds b hb).2.2.dom⟩
 have s2:=s1.setS (i:=i) (p:=p) (v:=.ref a) (d.rep (fun _ h=>.inl h) fun b hb=>.inr hb);rw [set_id sg] at s2;refine hf _ O H σ _ D o s2 e (q.pre ⟨fun _ _ h _=>h,fun _ h=>.inl h,fun b z=>z.elim .inl fun z=>.inr (.inl ((hP b).mpr (.inr z))),fun b z=>.inl ((hP b).mpr (.inl z)),fun b z=>z.elim (s.dU b) fun z=>(ds b z).2.2.dom,fun _ h=>h⟩)
def dLift (i:Nat) (F:VF):DF:=fun ρ p=>match F ρ with
 | some (.nx ρ')=>match ρ[i]?,ρ'[i]? with
  | some (some (.adr a,.shr)),some (some (.adr b,.shr))=>if a=b then some (.nx ρ' p) else none
  | _,_=>none
 | some (.rt q false)=>some (.rt q)
 | _=>none
theorem vd_lift (hf:VS t F):VD i h t (dLift i F):=by
 intro U P H σ ρ p a D o s e q;obtain ⟨O,fs,s,tk,d,nd,ds,hP⟩:=s.h;unfold dLift at e;have up:∀{U' O':AS}{H':Hp},Tr U O H U' O' H'→Tr U P H U' (fun b=>O' b∨b∈fs) H':=fun {U' O' H'} tr =>
  ⟨fun b o h n=>tr.fr b o h fun z=>n ((hP b).mpr (.inl z)),tr.mono,fun b z=>(tr.new b z).elim .inl fun z=>z.elim (fun z=>.inr (.inl ((hP b).mpr (.inl z)))) fun z=>.inr (.inr z),fun b z=>z.elim (fun z=>(tr.own b z).elim (fun z=>.inl ((hP b).mpr (.inl z))) .inr) fun z=>.inl ((hP b).mpr (.inr z)),tr.dU,tr.dm⟩
 cases z:F ρ with
 | none=>rw [z] at e;cases e
 | some o1 =>
  rw [z] at e;cases o1 with
  | bk ρ1=>cases e
  | ct ρ1=>cases e
  | rt v fr =>
   cases fr with
   | true=>cases e
   | false =>
    cases e;exact hf U O H σ ρ _ _ s z fun U' O' H' w tr ro=>q U' _ H' w (up tr) ro
  | nx ρ1 =>
   simp only [tk] at e;refine hf U O H σ ρ _ _ s z fun U' O' H' σ' s' tr=>?_;split at e
   ·rename_i a1 b1 e1 e2
    cases e1;by_cases hab:a=b1
    ·subst hab
     rw [if_pos rfl] at e;cases e;refine q U' _ H' σ' ⟨O',fs,s',e2,d.keeps (tr.keeps s.dis s.dO) fun b hb o ho=>tr.fr b o ho (ds b hb).2.1,nd,fun b hb=>?_,fun _=>Iff.rfl⟩ (up tr);obtain ⟨d1,d2,o,d3,d4⟩:=ds b hb;refine ⟨fun z=>?_,fun z=>?_,o,tr.fr _ _ d3 d2,d4⟩
     ·rcases tr.new b z with z|z|z
      ·exact d1 z
      ·exact d2 z
      ·rw [d3] at z;cases z
     ·rcases tr.own b z with z|z
      ·exact d2 z
      ·rw [d3] at z;cases z
    ·rw [if_neg hab] at e;cases e
   ·cases e
def dSkip:DF:=fun ρ p=>some (.nx ρ p)
def dSeq (G1 G2:DF):DF:=fun ρ p=>match G1 ρ p with
 | some (.nx ρ' p')=>G2 ρ' p'
 | o=>o
end
def nb:PEnv→Bool
 | []=>true
 | some (_,.bor)::_=>false
 | _::ρ=>nb ρ
theorem nb_slot:∀{ρ:PEnv}{k:Nat}{p:PV},nb ρ=true→ρ[k]?≠some (some (p,.bor))
 | [],k,p,_,e=>by simp at e
 | o::ρ,0,p,h,e=>by
  simp at e;subst e;simp [nb] at h
 | o::ρ,k+1,p,h,e=>by
  have:nb ρ=true:=by
   unfold nb at h;split at h
   ·rename_i z;cases z
   ·cases h
   ·rename_i z;cases z;exact h
  exact nb_slot this (by simpa using e)
theorem SR.side {U O:AS}{H:Hp}{σ:St}{ρ:PEnv}{b:Addr}{o:HO}(s:SR U O H σ ρ) (n:nb ρ=true) (nu:¬U b) (no:¬O b) (hb:Mutb H b) (ho:∀xs,o≠.tup xs):SR U O (upd H b o) σ ρ∧Keeps U H U (upd H b o):=by
 have ne:∀c,U c→c≠b:=fun c hc z=>nu (z ▸ hc);have nO:∀c,O c→c≠b:=fun c hc z=>no (z ▸ hc);obtain ⟨u,hu,hut⟩:=hb;have k:Keeps U H U (upd H b o):=by
  refine ⟨fun _ h=>h,fun c ys u hc=>?_,fun c ys u hc=>?_,fun c ys u hc=>?_,fun c ys hc=>?_⟩
  ·rw [upd_ne (ne c u)];exact hc
  ·rcases hc with hc|⟨oo,hc⟩
   ·exact .inl (by rw [upd_ne (ne c u)];exact hc)
   ·exact .inr ⟨oo,by rw [upd_ne (ne c u)];exact hc⟩
  ·rcases hc with hc|⟨oo,hc⟩
   ·exact .inl (by rw [upd_ne (ne c u)];exact hc)
   ·exact .inr ⟨oo,by rw [upd_ne (ne c u)];exact hc⟩
  ·rw [upd_ne (show c≠b from fun z=>by subst z;rw [hu] at hc;cases hc;exact hut _ rfl)];exact hc
 refine ⟨⟨s.len,fun c hc=>by rw [upd_ne (ne c hc)];exact s.dU c hc,fun c hc=>?_,s.dis,fun j q fl e=>?_,s.inj⟩,k⟩
 ·obtain ⟨o',h1,h2⟩:=s.dO c hc
  exact ⟨o',by rw [upd_ne (nO c hc)];exact h1,h2⟩
 ·obtain ⟨v,hv,ok⟩:=s.slot j q fl e
  refine ⟨v,hv,?_⟩;cases fl with
  | shr=>exact Rep.keeps k _ _ ok
  | own=>obtain ⟨a,e1,e2,e3⟩:=ok;exact ⟨a,e1,e2,e3.keeps k fun o' h'=>by rw [upd_ne (nO a e2)];exact h'⟩
  | bor=>exact absurd e (nb_slot n)
theorem DRep.childO {U:AS}{H:Hp}{C:Addr}{nm:List Str}{h:Nat→Sh}{p c:PV}{a:Addr}{fs:List Addr}{n:Nat}{ps:List PV}(d:DRep U H (.o C nm h) p (.ref a) fs) (hp:p=.obj C nm ps) (hn:ps[n]?=some c) :
  ∃dx xs x f1 g f2,H a=some (.ins C dx (nm.zip xs))∧a∈f1∧nm.length=ps.length∧xs.length=ps.length∧xs[n]?=some x∧DRep U H (h n) c x g∧fs=f1++g++f2 ∧
   ∀(U':AS) (H':Hp) c' g',Keeps U H U' H'→(∀b,b∈f1∨b∈f2→∀o,H b=some o→H' b=some o)→DRep U' H' (h n) c' x g'→DRep U' H' (.o C nm h) (.obj C nm (ps.set n c')) (.ref a) (f1++g'++f2):=by
 obtain ⟨a',dx,xs,qs,g,ea,ep,e,hl,di,rfl⟩:=d;cases ea;rw [hp] at ep;cases ep;obtain ⟨x,f1,g1,f2,e1,e2,rfl,e4⟩:=di.at_ hn;rw [Nat.zero_add] at e2 e4;refine ⟨dx,xs,x,a::f1,g1,f2,e,Zf,hl,di.length,e1,e2,by simp,fun U' H' c' g' k ag d'=>?_⟩;refine ⟨a,dx,xs,_,f1++g'++f2,rfl,rfl,ag a (.inl Zf) _ e,by simpa using hl,e4 _ c' g' (fun m q y f r z=>DRep.keeps k r fun b hb=>ag b ((z b hb).elim (fun z=>.inl (Ze _ z)) .inr)) d',by simp⟩
theorem nodup_mid {f1 g f2:List Addr}{b:Addr}(nd:(f1++g++f2).Nodup) (hb:b∈g):∀c,c∈f1∨c∈f2→c≠b:=by
 intro c hc z;subst z;rw [List.nodup_append,List.nodup_append] at nd;obtain ⟨⟨_,_,h1⟩,_,h2⟩:=nd;rcases hc with hc|hc
 ·exact h1 c hc c hb rfl
 ·exact h2 c (List.mem_append_right _ hb) c hc rfl
def Fresh (H:Hp) (U':AS) (H':Hp) (fs:List Addr):Prop:=∀b∈fs,H b=none∧¬U' b∧Mutb H' b
def VNE (h:Sh) (te:TE) (f:VX):Prop:=∀(U O:AS) (H:Hp) (σ:St) (ρ:PEnv) (Q:VK) (p:PV),SR U O H σ ρ→f ρ=some p→(∀a U' H' fs,Ext U H U' H'→DRep U' H' h p (.ref a) fs→fs.Nodup→Fresh H U' H' fs→Q (.ref a) H')→te σ H Q
def VN (i:Nat) (h:Sh) (t:TS) (f:VX):Prop:=∀(U O:AS) (H:Hp) (σ:St) (ρ:PEnv) (D:Ends) (p:PV),SR U O H σ ρ→f ρ=some p→(∀a U' H' fs,Ext U H U' H'→DRep U' H' h p (.ref a) fs→fs.Nodup→Fresh H U' H' fs→D.nx (σ.set i (some (.ref a))) H')→t D σ H
def dAll {α:Type}(g:Addr→Option α):Option α:=open Classical in if h:∃o,∀a,g a=some o then some (Classical.choose h) else none
theorem dAll_of {α:Type}{g:Addr→Option α}{o:α}(h:∀a,g a=some o):dAll g=some o:=by
 have hh:∃o,∀a,g a=some o:=⟨o,h⟩
 unfold dAll;rw [dif_pos hh];have:=Classical.choose_spec hh (0:Nat);rw [h (0:Nat)] at this;exact this.symm
theorem dAll_some {α:Type}{g:Addr→Option α}{o:α}(h:dAll g=some o) (a:Addr):g a=some o:=by
 unfold dAll at h;split at h
 ·rename_i hh
  cases h;exact Classical.choose_spec hh a
 ·cases h
def vNewB (i:Nat) (f:VX) (G:DB):VF:=fun ρ=>if i < ρ.length then (f ρ).bind fun p=>dAll fun a=>G (ρ.set i (some (.adr a,.shr))) p else none
theorem fresh_keep {U O U':AS}{H H':Hp}{σ:St}{ρ:PEnv}(s:SR U O H σ ρ) {fs:List Addr}(fr:Fresh H U' H' fs):∀b∈fs,¬O b:=fun b hb=>s.noO (fr b hb).1
theorem vs_newB {i:Nat}{h:Sh}{tn t:TS}{f:VX}{G:DB}(hn:VN i h tn f) (hb:VDB i h t G):VS (tSeq tn t) (vNewB i f G):=by
 intro U O H σ ρ D o s e q;unfold vNewB at e;by_cases hl:i < ρ.length
 case neg=>rw [if_neg hl] at e;cases e
 rw [if_pos hl] at e;obtain ⟨p,hp,e⟩:=Za.mp e;refine hn U O H σ ρ _ p s hp fun a U' H' fs ex d nd fr=>?_;have s1:=(s.ext ex).setS (i:=i) (p:=.adr a) (v:=.ref a) (rep_adr.mpr rfl);refine hb U' (fun b=>O b∨b∈fs) H' _ _ p a D o ⟨O,fs,s1,set_same hl,d,nd,fun b z=>⟨(fr b z).2.1,fresh_keep s fr b z,(fr b z).2.2⟩,fun _=>Iff.rfl⟩ (dAll_some e a) (q.pre ?_);have tr:=ex.tr (O:=O);exact ⟨tr.fr,tr.mono,tr.new,fun b z=>z.elim .inl fun z=>.inr (fr b z).1,tr.dU,tr.dm⟩
theorem vn_set {i:Nat}{h:Sh}{te:TE}{f:VX}(he:VNE h te f):VN i h (tAsg te (gName i)) f:=fun U O H σ ρ D p s e k=>he U O H σ ρ _ p s e fun a U' H' fs ex d nd fr=>k a U' H' fs ex d nd fr
theorem dom_upd {H:Hp}{b1:Addr}{u:HO}:∀c,H c≠none→upd H b1 u c≠none:=fun c hc=>by
 by_cases e:c=b1
 ·subst e;rw [upd_same];intro z;cases z
 ·rw [upd_ne e];exact hc
theorem Keeps.trans {U U1 U2:AS}{H H1 H2:Hp}(a:Keeps U H U1 H1) (b:Keeps U1 H1 U2 H2):Keeps U H U2 H2 :=
 ⟨fun c z=>b.mono c (a.mono c z),fun c xs u z=>b.lst c xs (a.mono c u) (a.lst c xs u z),fun c xs u z=>b.rd c xs (a.mono c u) (a.rd c xs u z),fun c xs u z=>b.dk c xs (a.mono c u) (a.dk c xs u z),fun c xs z=>b.tup c xs (a.tup c xs z)⟩
section
variable {X:Cx}{m ma mb mc:Md}{a b c e elt target iter:Expr}{es ifs:List Expr}{pos p p2 p3 ap:Pos}{f g:VX}{fa:VL}{k n i j:Nat}{x y:Str}{l:List Str}{h:Sh}{st:Stmt}{sts ss tt:List Stmt}{G G1 G2:DF}{B:DB}{F:VF}
structure QN (X:Cx) (st:Stmt) (i:Nat) (h:Sh) (f:VX):Prop where
 h:∃t,PS X st t∧VN i h t f
structure QD (X:Cx) (st:Stmt) (i:Nat) (h:Sh) (G:DF):Prop where
 h:∃t,PS X st t∧VD i h t G
structure QDs (X:Cx) (st:List Stmt) (i:Nat) (h:Sh) (G:DF):Prop where
 h:∃t,PSs X st t∧VD i h t G
structure QDL (X:Cx) (st:List Stmt) (i:Nat) (h:Sh) (G:DB):Prop where
 h:∃t,PSs X st t∧VDB i h t G
theorem qnew (hn:QN X st i h f) (hb:QDL X sts i h B):QB X (st::sts) (vNewB i f B):=by
 obtain ⟨_,n1,n2⟩:=hn.h;obtain ⟨_,b1,b2⟩:=hb.h;exact ⟨_,pss_cons n1 b1,vs_newB n2 b2⟩
theorem qdlc (hn:QD X st i h G) (hb:QDL X sts i h B):QDL X (st::sts) i h (dThen G B):=by
 obtain ⟨_,n1,n2⟩:=hn.h;obtain ⟨_,b1,b2⟩:=hb.h;exact ⟨_,pss_cons n1 b1,db_cons n2 b2⟩
theorem qdle (hb:QB X sts F):QDL X sts i h (dEnd i F):=by
 obtain ⟨_,b1,b2⟩:=hb.h;exact ⟨_,b1,db_end b2⟩
theorem qdlift (hb:QS X st F):QD X st i h (dLift i F):=by
 obtain ⟨_,b1,b2⟩:=hb.h;exact ⟨_,b1,vd_lift b2⟩
theorem qds1 (hb:QD X st i h G):QDs X [st] i h G:=by
 obtain ⟨_,b1,b2⟩:=hb.h;exact ⟨_,pss_one b1,b2⟩
variable {P:Program}{w:World}{K:PySem.W.Frag}{mg:Str→Option Value}{base:Heap}
end
end L2
namespace HT
open PySem PyProof.Rows
end HT
namespace L2
open PySem PySem.Spec PyProof.Rows
theorem qdget {X:Cx}{ma mb:Md}{a b:Expr}{p:Pos}{f g:VX}{k:Nat}(hr:Room k X.A) (ha:QE X ma a f) (hb:QE X mb b g) (hs:NoSl b):QE X .shr (.Subscript a b p) (xDGet f g):=by
 obtain ⟨_,a1,a2⟩:=ha.h;obtain ⟨_,b1,b2⟩:=hb.h;exact ⟨_,pe_dget (hu1_of hr) a1 b1 hs,ve_dget a2 b2⟩
open PySem.SeqAt
end L2
namespace L2
open PySem PySem.Spec PyProof.Rows
end L2
namespace PySem
open PyProof.Rows PySem.W PySem.Spec
end PySem
namespace L2
open PySem PySem.Spec PyProof.Rows PySem.W
end L2
namespace HT
open PySem PySem.Spec PyProof.Rows
end HT
namespace L2
open PySem PySem.W PySem.Spec PyProof.Rows
def dLoop (i:Nat) (tg:VTg) (body:DF):List PV→DF
 | [],ρ,p=>some (.nx ρ p)
 | x::xs,ρ,p=>match tg x ρ with
  | none=>none
  | some ρ1=>match ρ[i]?,ρ1[i]? with
   | some (some (.adr a,.shr)),some (some (.adr b,.shr))=>if a=b then (match body ρ1 p with
    | some (.nx ρ2 p2)=>dLoop i tg body xs ρ2 p2
    | some (.rt q)=>some (.rt q)
    | none=>none) else none
   | _,_=>none
def dFor (i:Nat) (it:VL) (tg:VTg) (body:DF):DF:=fun ρ p=>(it ρ).bind fun xs=>dLoop i tg body xs ρ p
section
variable {i:Nat}{h:Sh}
theorem vd_for {wi:TI}{g:TG}{tb:TS}{it:VL}{tg:VTg}{body:DF}(hi:VI wi it) (hg:VG g tg) (hb:VD i h tb body):VD i h (tFor wi g tb) (dFor i it tg body):=by
 intro U P H σ ρ p a D o sd e q;obtain ⟨xs,hxs,e⟩:=Za.mp e;obtain ⟨O,fs,s,tok,d,nd,ds,hP⟩:=sd.h;refine hi U O H σ ρ _ xs s hxs fun J H1 U1 ex wk=>?_;have sd1:=sd.ext ex;have q1:PostD U1 P H1 i h a D o:=q.pre ex.tr;have dis1:∀b,U1 b→¬P b:=fun b hu hp=>by
  rcases (hP b).mp hp with z|z
  ·exact (s.ext ex).dis b hu z
  ·obtain ⟨O1,fs1,s1,_,_,_,ds1,hP1⟩:=sd1.h
   rcases (hP1 b).mp hp with z'|z'
   ·exact s1.dis b hu z'
   ·exact (ds1 b z').1 hu
 have dP1:∀b,P b→Mutb H1 b:=fun b hp=>by
  obtain ⟨O1,fs1,s1,_,_,_,ds1,hP1⟩:=sd1.h;rcases (hP1 b).mp hp with z|z
  ·exact s1.dO b z
  ·exact (ds1 b z).2.2
 refine ⟨fun k m σ' H'=>∃U' P' ρ' p',SD U' P' H' σ' ρ' i h p' a∧Tr U1 P H1 U' P' H'∧k≤xs.length∧m=xs.length - k∧dLoop i tg body (xs.drop k) ρ' p'=some o,⟨_,U1,P,ρ,p,sd1,.refl sd1.dU,Nat.zero_le _,rfl,by simpa using e⟩,?_⟩;rintro k m σ' H' ⟨U',P',ρ',p',s',tr,hi',rfl,e'⟩;have kp:Keeps U1 H1 U' H':=tr.keeps dis1 dP1;cases hx:xs[k]? with
 | none =>
  have hl:xs.length≤k:=List.getElem?_eq_none_iff.mp hx;have hii:k=xs.length:=by omega
  subst hii;rw [List.drop_length] at e';unfold dLoop at e';cases e';exact .inl ⟨wk.stop U' H' kp,q1 U' P' H' σ' s' tr⟩
 | some x =>
  have hl:=(Zg.mp hx).1;obtain ⟨hgo,hy⟩:=wk.go k U' H' kp s'.dU x hx;rw [drop_get hx] at e';refine .inr ⟨hgo,fun σ2 H2=>∃m',m' < xs.length - k∧∃U' P' ρ' p',SD U' P' H2 σ2 ρ' i h p' a∧Tr U1 P H1 U' P' H2∧k+1≤xs.length∧m'=xs.length - (k+1)∧dLoop i tg body (xs.drop (k+1)) ρ' p'=some o,fun σ2 H2 h=>h,fun v H2 yl=>?_⟩;obtain ⟨U2,ex2,rp⟩:=hy v H2 yl;unfold dLoop at e';cases z:tg x ρ' with
  | none=>rw [z] at e';cases e'
  | some ρ1 =>
   rw [z] at e';have sd2:=s'.ext ex2;obtain ⟨O2,fs2,s2,tok2,d2,nd2,ds2,hP2⟩:=sd2.h;refine hg U2 O2 H2 σ' ρ' ρ1 x v _ s2 rp z fun σ3 s3=>?_;have tr3:=tr.trans (ex2.tr (O:=P'));simp only [tok2] at e';split at e'
   case h_2=>cases e'
   rename_i a1 b1 ea eb;cases ea;by_cases hab:a=b1
   case neg=>rw [if_neg hab] at e';cases e'
   subst hab;rw [if_pos rfl] at e';have sd3:SD U2 P' H2 σ3 ρ1 i h p' a:=⟨O2,fs2,s3,eb,d2,nd2,ds2,hP2⟩
   cases zb:body ρ1 p' with
   | none=>simp only [zb] at e';cases e'
   | some ob =>
    simp only [zb] at e';refine hb U2 P' H2 σ3 ρ1 p' a _ ob sd3 zb ?_;cases ob with
    | nx ρ4 p4=>exact fun U4 O4 H4 σ4 s4 t4=>⟨_,by omega,U4,O4,ρ4,p4,s4,tr3.trans t4,hl,rfl,e'⟩
    | rt v=>cases e';exact q1.pre tr3
end
section
variable {X:Cx}{i j:Nat}{h:Sh}{m ma mb mc:Md}{a b e:Expr}{es:List Expr}{f f1 f2 g:VX}{p p2 p4 pa pb px ap pos:Pos}{x:Str}
theorem qdfor {s:List Stmt}{target iter:Expr}{G:DF}{it:VL}{tg:VTg}(hi:QI X target iter it) (hg:QG X target tg) (hb:QDs X s i h G) (hp:PassesOwn (model X.prog X.w) X.A X.env X.xe) (hc:X.calm=true) (hs:∀x,foldedSetIterable iter X.env x=pure x):QD X (.For target iter s [] pos) i h (dFor i it tg G):=by
 obtain ⟨_,c1,c2⟩:=hi.h;obtain ⟨_,a1,a2⟩:=hg.h;obtain ⟨_,b1,b2⟩:=hb.h;exact ⟨_,ps_for hp hc c1 a1 b1 hs,vd_for c2 a2 b2⟩
end
end L2
namespace L2
open PySem PySem.W PyProof.Rows
open PySem.Spec
section
variable {i j:Nat}{h:Sh}
def dSetC (i j:Nat) (f:VX):DF:=fun ρ p=>if i=j then none else (f (vw i p ρ)).bind fun q=>if cf q then some (.nx (ρ.set j (some (q,.shr))) p) else none
theorem vd_setC {te:TE}{f:VX}(he:VE .shr te f):VD i h (tAsg te (gName j)) (dSetC i j f):=by
 intro U P H σ ρ p a D o sd e q;unfold dSetC at e;by_cases hij:i=j
 ·rw [if_pos hij] at e;cases e
 rw [if_neg hij] at e;obtain ⟨z,hz,e⟩:=Za.mp e;obtain ⟨hc,rfl⟩:=some_if e;refine he _ _ H σ _ _ z sd.view hz fun v H' U' ex r=>?_;obtain ⟨O,fs0,s,tok,d,nd0,ds,hP⟩:=sd.h;have ex0:Ext U H U H':=Ext.onlyU (U2:=U') s.dU ex.same;have s3:=(s.ext ex0).setS (i:=j) (p:=z) (v:=v) (Rep.cf (U:=U') z v hc r);refine q U P H' _ ⟨O,fs0,s3,?_,d.keeps ex0.keeps fun c _ o ho=>ex.same c o ho,nd0,fun c hc=>?_,hP⟩ (ex0.tr)
 ·rw [Zf1 (Ne.symm hij)];exact tok
 ·obtain ⟨d1,d2,u,d3,d4⟩:=ds c hc
  exact ⟨d1,d2,u,ex.same _ _ d3,d4⟩
end
section
variable {X:Cx}{m ma mb mc:Md}{a b c e:Expr}{es:List Expr}{pos p p2 p3 ap:Pos}{f g fk:VX}{fa:VL}{k n i j:Nat}{x y:Str}{h:Sh}
theorem qdsetC (hN:X.N.Nodup) (ha:QE X .shr a f) (hj:X.N[j]?=some y) (hy:Loc X.env.scope y) (hs:swapsWith a (some (.Name y p)) pos.line X.env=pure false) (hf:X.fn y=true∨X.env.scope.names.lookup y=some .local):QD X (.Assign [.Name y p] a pos) i h (dSetC i j f):=by
 obtain ⟨_,a1,a2⟩:=ha.h;exact ⟨_,ps_set hN hj hy a1 hs hf,vd_setC a2⟩
end
end L2
namespace L2
open PySem PySem.Spec PyProof.Rows
section
variable {X:Cx}{pins:List (Addr×Obj)}{σ:St}{H:Hp}{s:Shared}{d:Addr}{kvs:List (Key×V)}{o:Obj}
theorem Inv.swap {u u':HO}(I:Inv X pins σ H s) (hd:H d=some u) (h0:∀xs,u≠.tup xs) (h1:∀x,u≠.own x) (h2:∀o v,X.H₀ d≠some (.frz o v)) (h3:∀ps,u≠.tbl ps) (h4:ObjOk X.prog X.w H s.heap d u'):Inv X pins σ (upd H d u') s:=by
 have ne:∀b,H b=none→b≠d:=fun b n z=>by subst z;rw [hd] at n;cases n
 have nt:∀b xs,H b=some (.tup xs)→b≠d:=fun b xs n z=>by subst z;rw [hd] at n;cases n;exact h0 _ rfl
 have no:∀b x,H b=some (.own x)→b≠d:=fun b x n z=>by subst z;rw [hd] at n;cases n;exact h1 _ rfl
 refine ⟨I.ok,I.os,I.bare,⟨I.base.keep,I.base.slot,fun b ob q n hx=>?_,I.base.there,fun b xs q=>?_,fun b ob v q=>?_,fun b ps q=>?_⟩,I.loc,I.cell,?_,fun x c e=>?_,fun p hp=>?_,fun b v q=>?_,I.len⟩
 ·rw [upd_ne (ne b (I.base.free b ob q n hx))];exact I.base.free b ob q n hx
 ·have:=I.base.tups b xs q
  rw [upd_ne (nt b xs this)];exact this
 ·have:=I.base.frzs b ob v q
  have hb:b≠d:=fun z=>by subst z;exact h2 _ _ q
  rw [upd_ne hb];exact this
 ·obtain ⟨more,e⟩:=I.base.tbls b ps q
  have hb:b≠d:=fun z=>by subst z;rw [hd] at e;cases e;exact h3 _ rfl
  exact ⟨more,by rw [upd_ne hb];exact e⟩
 ·rw [upd_ne (ne _ I.free)];exact I.free
 ·rw [upd_ne (ne _ (I.freeC x c e))];exact I.freeC x c e
 ·obtain ⟨p1,p2,p3⟩:=I.pin p hp
  exact ⟨p1,by rw [upd_ne (ne _ p2)];exact p2,p3⟩
 ·by_cases hb:b=d
  ·subst hb
   rw [upd_same] at q;cases q;exact h4.stay (fun _ _ _ e=>e) (fun c r=>by rw [upd_ne (no c _ r)];exact r) fun c xs r=>by rw [upd_ne (nt c xs r)];exact r
  ·rw [upd_ne hb] at q
   exact (I.hok b v q).stay (fun _ _ _ e=>e) (fun c r=>by rw [upd_ne (no c _ r)];exact r) fun c xs r=>by rw [upd_ne (nt c xs r)];exact r
theorem Inv.notFrz (I:Inv X pins σ H s) (hd:H d=some (.dK kvs)):∀o v,X.H₀ d≠some (.frz o v):=fun o v z=>by
 have:=I.base.frzs d o v z;rw [hd] at this;cases this
theorem Inv.freezeU (I:Inv X pins σ H s) (hd:H d=some (.dK kvs)):∃o,Inv X pins σ (upd H d (.frz o (.dK kvs))) s:=by
 have h:=I.hok d _ hd;obtain ⟨_,_,vs,_,o,es,ep,ho,_⟩:=id h;exact ⟨o,I.swap hd (fun _ z=>nomatch z) (fun _ z=>nomatch z) (I.notFrz hd) (fun _ z=>nomatch z) ⟨ho,h⟩⟩
theorem Inv.melt (I:Inv X pins σ H s) (hd:H d=some (.frz o (.dK kvs))) (h2:∀o v,X.H₀ d≠some (.frz o v)):Inv X pins σ (upd H d (.dK kvs)) s:=by
 have h:=I.hok d _ hd;exact I.swap hd (fun _ z=>nomatch z) (fun _ z=>nomatch z) h2 (fun _ z=>nomatch z) h.2
end
section
variable {X:Cx}
def teU (i:Nat) (te:TE):TE:=fun σ H Q=>∃d kvs,σ[i]?=some (some (.ref d))∧((H d=some (.dK kvs)∧∀o,te σ (upd H d (.frz o (.dK kvs))) fun v H'=>H' d=some (.frz o (.dK kvs))∧Q v (upd H' d (.dK kvs)))∨((∃o,H d=some (.frz o (.dK kvs)))∧te σ H Q))
theorem pe_frzU {e:Expr}{te:TE}{i:Nat}(he:PE X e te):PE X e (teU i te):=by
 intro pins s σ H Q I h;obtain ⟨d,kvs,_,h|h⟩:=h
 ·obtain ⟨hd,h⟩:=h
  obtain ⟨o,I1⟩:=I.freezeU hd;refine thn (he pins s σ _ _ I1 (h o)) fun v s1 ⟨x,H1,I2,r1,q1,q2⟩=>?_;exact ⟨x,_,I2.melt q1 (I.notFrz hd),r1,q2⟩
 ·exact he pins s σ H Q I h.2
end
open PySem.W
def kP:Key→PV
 | .inl i=>.int i
 | .inr x=>.str x
theorem kP_rep {U:AS}{H:Hp}(k:Key):Rep U H (kP k) (kV k):=by
 cases k with
 | inl i=>exact rep_int.mpr rfl
 | inr x=>exact rep_str.mpr rfl
structure WalkD (U0:AS) (H0:Hp) (d:Addr) (fz:HO) (J:It) (xs:List PV):Prop where
 go:∀(i:Nat) (U:AS) (H:Hp),Keeps U0 H0 U H→H d=some fz→(∀a,U a→H a≠none)→∀x,xs[i]?=some x→J.go i H∧∀v H',J.yld i H v H'→∃U',Ext U H U' H'∧Rep U' H' x v
 stop:∀(U:AS) (H:Hp),Keeps U0 H0 U H→H d=some fz→J.stop xs.length H
def compJ (J:It) (src:List (Option Nat)) (g:TG) (tif:TT) (te:TE) (σ:St) (H1:Hp) (Q:VK):Prop:=∃W:Nat→Nat→List V→St→Hp→Prop,(∃m,W 0 m [] (startC src σ) H1) ∧
 CompW J g tif te (fun ys H'=>∀D,H' D=none→Q (.ref D) (upd H' D (.lst ys))) W
theorem comp_walk {src:List (Option Nat)}{g:TG}{tif:TT}{te:TE}{tg:VTg}{cond:VB}{elt:VX}{J:It}{xs zs:List PV}{U O:AS}{H:Hp}{σ:St}{ρ:PEnv}{Q:VK}{d:Addr}{fz:HO}(hg:VG g tg) (hc:VT tif cond) (he:VE .shr te elt) (s:SR U O H σ ρ) (hd:H d=some fz) (wk:WalkD U H d fz J xs) (hs:small? xs.length=true) (e:vCompL tg cond elt xs (startR src ρ)=some zs)
  (k:∀v H' U',Ext U H U' H'→Res .fr H U' H' (.lst zs) v→Q v H'):compJ J src g tif te σ H Q:=by
 have sz:∀n,n≤xs.length→n≤sizeLine:=fun n h=>Nat.le_trans h (small_le hs);refine ⟨fun i m ys τ H'=>∃U' ρ' ps,SR U' (fun _=>False) H' τ ρ'∧Ext U H U' H'∧i≤xs.length∧m=xs.length - i∧ys.length≤i∧Reps U' H' ps ys∧(vCompL tg cond elt (xs.drop i) ρ').map (ps++·)=some zs,
  ⟨_,U,startR src ρ,[],s.comp src,.refl s.dU,Nat.zero_le _,rfl,Nat.le_refl _,reps_nil.mpr rfl,by simpa using e⟩,?_⟩
 rintro i m ys τ H' ⟨U',ρ',ps,s',ex',hi',rfl,hy,rp,e'⟩;have kp:=ex'.keeps;have hd':H' d=some fz:=ex'.same _ _ hd;cases hx:xs[i]? with
 | none =>
  have hl:xs.length≤i:=List.getElem?_eq_none_iff.mp hx;have hii:i=xs.length:=by omega
  subst hii;rw [List.drop_length] at e';unfold vCompL at e';simp at e';subst e';refine .inl ⟨wk.stop U' H' kp hd',sz _ hy,fun D hD=>?_⟩;obtain ⟨e2,r2⟩:=new_lst ex'.dU hD rp;exact k _ _ U' (ex'.trans e2) (Res.pre (U1:=U) ex'.same r2)
 | some x =>
  have hl:=(Zg.mp hx).1;obtain ⟨hgo,hyl⟩:=wk.go i U' H' kp hd' s'.dU x hx;rw [drop_get hx] at e';refine .inr ⟨hgo,Nat.lt_of_le_of_lt hy (Nat.lt_of_lt_of_le hl (small_le hs)),fun v H2 yl=>?_⟩;obtain ⟨U2,ex2,rv⟩:=hyl v H2 yl;unfold vCompL at e';cases z1:tg x ρ' with
  | none=>rw [z1] at e';cases e'
  | some ρ1 =>
   rw [z1] at e';refine hg U2 _ H2 τ ρ' ρ1 x v _ (s'.ext ex2) rv z1 fun τ3 s3=>?_;cases z2:cond ρ1 with
   | none=>simp only [z2] at e';cases e'
   | some b =>
    simp only [z2] at e';refine hc U2 _ H2 τ3 ρ1 _ b s3 z2 fun H4 U4 ex4=>?_;have ex24:=ex2.trans ex4;cases b with
    | false=>exact ⟨_,by omega,U4,ρ1,ps,s3.ext ex4,ex'.trans ex24,hl,rfl,by omega,Reps.keeps ex24.keeps _ _ rp,e'⟩
    | true =>
     cases z3:elt ρ1 with
     | none=>simp only [z3] at e';cases e'
     | some y =>
      simp only [z3] at e';refine he U4 _ H4 τ3 ρ1 _ y (s3.ext ex4) z3 fun w H5 U5 ex5 r5=>?_;refine ⟨_,by omega,U5,ρ1,ps++[y],(s3.ext ex4).ext ex5,(ex'.trans ex24).trans ex5,hl,rfl,by simp;omega,Reps.append (Reps.keeps (ex24.trans ex5).keeps _ _ rp) (Reps.one r5),?_⟩;rw [Option.map_map] at e';rw [←e'];congr 1;funext l;simp
theorem repK_at {U:AS}{H:Hp}:∀{ks:List (Key×PV)}{kvs:List (Key×V)}{i:Nat}{k:Key}{p:PV},RepK U H ks kvs→ks[i]?=some (k,p)→∃v,kvs[i]?=some (k,v)∧Rep U H p v
 | [],kvs,i,k,p,h,e=>by simp at e
 | (k0,p0)::ks,kvs,0,k,p,h,e=>by
  obtain ⟨v,r,rfl,h1,h2⟩:=repK_cons.mp h;simp at e;obtain ⟨rfl,rfl⟩:=e;exact ⟨v,rfl,h1⟩
 | (k0,p0)::ks,kvs,i+1,k,p,h,e=>by
  obtain ⟨v,r,rfl,h1,h2⟩:=repK_cons.mp h;obtain ⟨w,e1,e2⟩:=repK_at (i:=i) h2 (by simpa using e);exact ⟨w,by simpa using e1,e2⟩
theorem walk_items {U:AS}{H:Hp}{ks:List (Key×PV)}{kvs:List (Key×V)}{d:Addr}{o:Obj}(r:RepK U H ks kvs):WalkD U H d (.frz o (.dK kvs)) (Iti d o kvs) (ks.map fun k=>PV.tup [kP k.1,k.2]):=by
 have hl:=r.length;refine ⟨fun i U' H' kp hd dU x hx=>?_,fun U' H' kp hd=>⟨by rw [Zd,hl],hd⟩⟩;rw [Zj] at hx;obtain ⟨⟨k,p⟩,hk,rfl⟩:=Zb.mp hx;have hi:=(Zg.mp hk).1;obtain ⟨v,e1,e2⟩:=repK_at (RepK.keeps kp _ _ r) hk;refine ⟨⟨by omega,hd⟩,fun w H2 ⟨k',v',t,e3,e4,ht,e5⟩=>?_⟩;subst e4 e5;rw [e1] at e3;cases e3;have ex:Ext U' H' U' (upd H' t (.tup [kV k,v])):=.laid dU ht;exact ⟨U',ex,rep_tup.mpr ⟨t,[kV k,v],rfl,upd_same,reps_cons.mpr ⟨_,_,rfl,kP_rep k,reps_cons.mpr ⟨_,_,rfl,Rep.keeps ex.keeps _ _ e2,reps_nil.mpr rfl⟩⟩⟩⟩
section
variable {U O U' O':AS}{H H':Hp}{σ:St}{ρ:PEnv}{d:Addr}{kvs:List (Key×V)}{o:Obj}
theorem keeps_frz (hd:H d=some (.dK kvs)):Keeps U H U (upd H d (.frz o (.dK kvs))):=by
 refine ⟨fun _ h=>h,fun c xs u hc=>?_,fun c xs u hc=>?_,fun c xs u hc=>?_,fun c xs hc=>?_⟩
 ·rw [upd_ne (show c≠d from fun z=>by subst z;rw [hd] at hc;cases xs<;>cases hc)];exact hc
 ·have hne:c≠d:=fun z=>by
   subst z;rcases hc with hc|⟨o',hc⟩<;>(rw [hd] at hc;cases hc)
  rcases hc with hc|⟨o',hc⟩
  ·exact .inl (by rw [upd_ne hne];exact hc)
  ·exact .inr ⟨o',by rw [upd_ne hne];exact hc⟩
 ·by_cases hne:c=d
  ·subst hne
   rcases hc with hc|⟨o',hc⟩
   ·rw [hd] at hc;cases hc
    exact .inr ⟨o,upd_same⟩
   ·rw [hd] at hc;cases hc
  ·rcases hc with hc|⟨o',hc⟩
   ·exact .inl (by rw [upd_ne hne];exact hc)
   ·exact .inr ⟨o',by rw [upd_ne hne];exact hc⟩
 ·rw [upd_ne (show c≠d from fun z=>by subst z;rw [hd] at hc;cases hc)];exact hc
theorem keeps_melt (hd:H d=some (.frz o (.dK kvs))):Keeps U H U (upd H d (.dK kvs)):=by
 refine ⟨fun _ h=>h,fun c xs u hc=>?_,fun c xs u hc=>?_,fun c xs u hc=>?_,fun c xs hc=>?_⟩
 ·rw [upd_ne (show c≠d from fun z=>by subst z;rw [hd] at hc;cases xs<;>cases hc)];exact hc
 ·have hne:c≠d:=fun z=>by
   subst z;rcases hc with hc|⟨o',hc⟩<;>(rw [hd] at hc;cases hc)
  rcases hc with hc|⟨o',hc⟩
  ·exact .inl (by rw [upd_ne hne];exact hc)
  ·exact .inr ⟨o',by rw [upd_ne hne];exact hc⟩
 ·by_cases hne:c=d
  ·subst hne
   rcases hc with hc|⟨o',hc⟩
   ·rw [hd] at hc;cases hc
   ·rw [hd] at hc;cases hc
    exact .inl upd_same
  ·rcases hc with hc|⟨o',hc⟩
   ·exact .inl (by rw [upd_ne hne];exact hc)
   ·exact .inr ⟨o',by rw [upd_ne hne];exact hc⟩
 ·rw [upd_ne (show c≠d from fun z=>by subst z;rw [hd] at hc;cases hc)];exact hc
theorem Bor.re {u:HO}{p:PV}{v:V}(k:Keeps U H U (upd H d u)) (hl:∀c:Cell,H d≠some c.ho) (hr:∀kvs,Rd H d (.dK kvs)→Rd (upd H d u) d (.dK kvs)) (hq:∀xs,¬Rd H d (.lst xs)) (h:Bor U H p v):Bor U (upd H d u) p v:=by
 have rk:∀{a:Addr}{w:List (Key×V)},Rd H a (.dK w)→Rd (upd H d u) a (.dK w):=fun {a w} r=>by
  by_cases e:a=d
  ·subst e;exact hr w r
  ·rcases r with r|⟨o',r⟩
   ·exact .inl (by rw [upd_ne e];exact r)
   ·exact .inr ⟨o',by rw [upd_ne e];exact r⟩
 have rl:∀{a:Addr}{w:List V},Rd H a (.lst w)→Rd (upd H d u) a (.lst w):=fun {a w} r=>by
  have e:a≠d:=fun z=>hq w (z ▸ r);rcases r with r|⟨o',r⟩
  ·exact .inl (by rw [upd_ne e];exact r)
  ·exact .inr ⟨o',by rw [upd_ne e];exact r⟩
 cases p with
 | lst ps=>obtain ⟨a,xs,e,r,q⟩:=h;exact ⟨a,xs,e,by rw [upd_ne (show a≠d from fun z=>hl (.l xs) (z ▸ r))];exact r,Reps.keeps k _ _ q⟩
 | dtt ks=>obtain ⟨a,xs,e,r,q⟩:=h;exact ⟨a,xs,e,by rw [upd_ne (show a≠d from fun z=>hl (.t xs) (z ▸ r))];exact r,RepT.keeps k _ _ q⟩
 | dct ks=>obtain ⟨a,xs,e,r,q⟩:=h;exact ⟨a,xs,e,rk r,RepK.keeps k _ _ q⟩
 | scr ns=>obtain ⟨a,e,r⟩:=h;exact ⟨a,e,rl r⟩
 | _=>exact Rep.keeps k _ _ h
theorem SR.recell {u:HO}(s:SR U O H σ ρ) (ud:U d) (hl:∀c:Cell,H d≠some c.ho) (k:Keeps U H U (upd H d u)) (hr:∀kvs,Rd H d (.dK kvs)→Rd (upd H d u) d (.dK kvs)) (hq:∀xs,¬Rd H d (.lst xs)):SR U O (upd H d u) σ ρ:=by
 have nod:∀a,O a→a≠d:=fun a oa z=>s.dis d ud (z ▸ oa);refine ⟨s.len,fun a h=>dom_upd a (s.dU a h),fun a h=>?_,s.dis,fun i p fl e=>?_,s.inj⟩
 ·obtain ⟨o,h1,h2⟩:=s.dO a h
  exact ⟨o,by rw [upd_ne (nod a h)];exact h1,h2⟩
 ·obtain ⟨v,hv,ok⟩:=s.slot i p fl e
  refine ⟨v,hv,?_⟩;cases fl with
  | shr=>exact Rep.keeps k _ _ ok
  | own =>
   obtain ⟨a,e1,e2,e3⟩:=ok;exact ⟨a,e1,e2,e3.keeps k fun o' h'=>by rw [upd_ne (nod a e2)];exact h'⟩
  | bor=>exact ⟨Bor.re k hl hr hq ok.1,ok.2⟩
theorem SR.frz (s:SR U O H σ ρ) (ud:U d) (hd:H d=some (.dK kvs)):SR U O (upd H d (.frz o (.dK kvs))) σ ρ:=by
 refine s.recell ud (fun xs z=>by rw [hd] at z;cases xs<;>cases z) (keeps_frz hd) (fun v r=>?_) fun xs r=>?_
 ·rcases r with r|⟨o',r⟩
  ·rw [hd] at r;cases r;exact .inr ⟨o,upd_same⟩
  ·rw [hd] at r;cases r
 ·rcases r with r|⟨o',r⟩<;>(rw [hd] at r;cases r)
end
structure WkR (i:Nat) (wi:TI) (Jt:Addr→Obj→List (Key×V)→It) (xf:List (Key×PV)→List PV):Prop where
 wi:∀(σ:St) (H:Hp) (d:Addr) (o:Obj) (kvs:List (Key×V)) (R:It→Hp→Prop),σ[i]?=some (some (.ref d))→H d=some (.frz o (.dK kvs))→R (Jt d o kvs) H→wi σ H R
 wk:∀(U:AS) (H:Hp) (ks:List (Key×PV)) (kvs:List (Key×V)) (d:Addr) (o:Obj),RepK U H ks kvs→WalkD U H d (.frz o (.dK kvs)) (Jt d o kvs) (xf ks)
theorem wk_items {i:Nat}:WkR i (iItems (tVar i)) Iti (fun ks=>ks.map fun k=>PV.tup [kP k.1,k.2]):=⟨fun σ H d o kvs R h1 h2 q=>⟨.ref d,h1,d,o,kvs,rfl,h2,q⟩,fun U H ks kvs d o r=>walk_items r⟩
def itD (xf:List (Key×PV)→List PV) (i:Nat):VL:=fun ρ=>match ρ[i]? with
 | some (some (.dct ks,.shr))=>some (xf ks)
 | _=>none
theorem itD_at {xf:List (Key×PV)→List PV}{i:Nat}{ρ:PEnv}{xs:List PV}(h:itD xf i ρ=some xs):∃ks,ρ[i]?=some (some (.dct ks,.shr))∧xs=xf ks:=by
 unfold itD at h;split at h
 ·rename_i ks e;cases h;exact ⟨ks,e,rfl⟩
 ·cases h
section
variable {i:Nat}{wi:TI}{Jt:Addr→Obj→List (Key×V)→It}{xf:List (Key×PV)→List PV}{g:TG}{tg:VTg}
theorem ve_compD {src:List (Option Nat)}{tif:TT}{te:TE}{cond:VB}{elt:VX}(w:WkR i wi Jt xf) (hg:VG g tg) (hc:VT tif cond) (he:VE .shr te elt):VE .fr (teU i (tComp src wi g tif te)) (xComp src (itD xf i) tg cond elt):=by
 intro U O H σ ρ Q z s e k;obtain ⟨xs,hxs,e⟩:=Za.mp e;by_cases hs:small? xs.length=true
 case neg=>rw [if_neg hs] at e;cases e
 rw [if_pos hs] at e;obtain ⟨zs,ez,rfl⟩:=Zb.mp e;obtain ⟨ks,hks,rfl⟩:=itD_at hxs;obtain ⟨v,hv,ok⟩:=s.slot i _ _ hks;have ok':Rep U H (.dct ks) v:=ok;simp only [Rep] at ok';obtain ⟨d,kvs,rfl,ud,hd,rk⟩:=ok';refine ⟨d,kvs,hv,?_⟩;rcases hd with hd|⟨o,hd⟩
 ·refine .inl ⟨hd,fun o=>?_⟩
  have sf:=s.frz (o:=o) ud hd;refine w.wi σ _ d o kvs _ hv upd_same (comp_walk (d:=d) (Q:=fun v H'=>H' d=some (.frz o (.dK kvs))∧Q v (upd H' d (.dK kvs))) hg hc he sf upd_same (w.wk U _ ks kvs d o (RepK.keeps (keeps_frz hd) _ _ rk)) hs ez fun v H' U' ex r=>?_);have hd':H' d=some (.frz o (.dK kvs)):=ex.same _ _ upd_same;refine ⟨hd',k v _ U' ⟨fun a ob ha=>?_,ex.mono,fun a ua=>?_,fun a ua=>dom_upd a (ex.dU a ua)⟩ ?_⟩
  ·by_cases hne:a=d
   ·subst hne;rw [hd] at ha;cases ha;exact upd_same
   ·rw [upd_ne hne];exact ex.same _ _ (by rw [upd_ne hne];exact ha)
  ·rcases ex.new a ua with z|z
   ·exact .inl z
   ·by_cases hne:a=d
    ·subst hne;rw [upd_same] at z;cases z
    ·rw [upd_ne hne] at z;exact .inr z
  ·obtain ⟨b,eb,hb,nu,tp⟩:=r
   have hne:b≠d:=fun z=>by subst z;rw [upd_same] at hb;cases hb
   refine ⟨b,eb,by rw [upd_ne hne] at hb;exact hb,nu,tp.keeps (keeps_melt hd') fun o' h'=>by rw [upd_ne hne];exact h'⟩
 ·exact .inr ⟨⟨o,hd⟩,w.wi σ _ d o kvs _ hv hd (comp_walk (d:=d) hg hc he s hd (w.wk U _ ks kvs d o rk) hs ez k)⟩
end
def rLenD:List V→Hp→VK→Prop:=fun xs H Q=>∃a kvs,xs = [V.ref a]∧Rd H a (.dK kvs)∧Q (.int kvs.length) H
theorem call_lenDr {X:Cx}:CallR X (.builtin "len") rLenD:=by
 intro pins s σ H xs us Q I r h;obtain ⟨a,kvs,rfl,ha,q⟩:=h;obtain ⟨u,rfl,ru⟩:=vals1 r;cases ru;exact d_len I ha fun t s' I'=>⟨.int kvs.length,H,I',⟨t,rfl⟩,q⟩
def pLenD:List PV→Option PV
 | [.dct ks]=>some (.int ks.length)
 | _=>none
theorem rl_lenD:RLV .shr rLenD pLenD:=by
 intro U H ps z vs Q d hb e k
 match ps,e with
 | [.dct ks],e =>
  cases e;obtain ⟨v,rfl,a,kvs,rfl,ha,rx⟩:=hb.one;refine ⟨a,kvs,rfl,ha,?_⟩;rw [rx.length];exact k _ H U (.refl d) (repI U H _)
theorem c_lenD {X:Cx}:C2 X (.builtin "len") .shr pLenD:=⟨_,call_lenDr,rl_lenD⟩
def ixs (ks:List (Key×PV)):List PV:=ks.map fun k=>PV.tup [kP k.1,k.2]
section
variable {X:Cx}{elt target iter:Expr}{es ifs:List Expr}{pos p p2 apos cpos:Pos}{f:VX}{i n:Nat}{x:Str}
theorem qcompI {scope:Scope}{outer:List (Str×NameKind)}{N:List Str}{src:List (Option Nat)}{tg:VTg}{cond:VB}(cs:CSc X outer N) (hok:compOkA scope outer N (.Tuple es n p) src=true) (q:PE X (.Name x p2) (tVar i))
  (hbase:attributeBase (.Name x p2) "items" X.env (eval (.Name x p2) X.env)=eval (.Name x p2) X.env) (hline:(apos.endLine==cpos.line)=true)
  (hg:∀C s H fp,(cxComp X scope (compN (.Tuple es n p) src N) C s H fp).N.Nodup→QG (cxComp X scope (compN (.Tuple es n p) src N) C s H fp) (.Tuple es n p) tg) (hif:∀C s H fp,QF (cxComp X scope (compN (.Tuple es n p) src N) C s H fp) ifs cond) (he:∀C s H fp,QE (cxComp X scope (compN (.Tuple es n p) src N) C s H fp) .shr elt f)
  (hc:X.calm=true) (hs:∀x',foldedSetIterable (.Call (.Attribute (.Name x p2) "items" apos) [] [] cpos) X.env x'=pure x') :
  QE X .fr (.ListComp elt [⟨.Tuple es n p,.Call (.Attribute (.Name x p2) "items" apos) [] [] cpos,ifs,0⟩] scope pos) (xComp src (itD ixs i) tg cond f):=by
 obtain ⟨S,nd⟩:=compOkA_of cs hok;obtain ⟨_,g1,g2⟩:=QG.all (Y:=fun (z:Addr×Shared×Hp×List Addr)=>cxComp X scope (compN (.Tuple es n p) src N) z.1 z.2.1 z.2.2.1 z.2.2.2) fun z=>hg _ _ _ _ nd;obtain ⟨_,f1,f2⟩:=QF.all (Y:=fun (z:Addr×Shared×Hp×List Addr)=>cxComp X scope (compN (.Tuple es n p) src N) z.1 z.2.1 z.2.2.1 z.2.2.2) fun z=>hif _ _ _ _;obtain ⟨_,e1,e2⟩:=QE.all (Y:=fun (z:Addr×Shared×Hp×List Addr)=>cxComp X scope (compN (.Tuple es n p) src N) z.1 z.2.1 z.2.2.1 z.2.2.2) fun z=>he _ _ _ _;exact ⟨_,pe_frzU (i:=i) (pe_comp S hc (pi_items q hbase hline) (fun C s H fp=>g1 (C,s,H,fp)) (fun C s H fp=>f1 (C,s,H,fp)) (fun C s H fp=>e1 (C,s,H,fp)) hs),ve_compD wk_items g2 f2 e2⟩
end
end L2
namespace HT
open PySem PyProof.Rows
end HT
namespace L2
open PySem PySem.W PySem.Spec PyProof.Rows
end L2
namespace PySem
open PyProof.Rows PySem.W PySem.Spec
section
variable {t:SetTable}{pl:List Nat}{ha:Nat→Int}{h:Int}(hpl:t.place=pl.toArray) (hd:t.dummies = #[]) (hp:pl.Pairwise (· < ·)) (hne:∀i,ha i≠h)
include hpl hd hp hne
end
open PySem.Calls
end PySem
namespace L2
open PySem PySem.Spec PyProof.Rows PySem.W
end L2
namespace PySem
open PyProof.Rows PySem.W PySem.Spec
end PySem
namespace L2
open PySem PySem.Spec PyProof.Rows PySem.W
class HC where c:Addr
def fldOf:List Str→List PV→Str→Option PV
 | n::ns,p::ps,f=>if f==n then some p else fldOf ns ps f
 | _,_,_=>none
def pFld (C:Addr) (f:Str):PV→Option PV
 | .obj C' nm ps=>if C'=C then fldOf nm ps f else none
 | _=>none
theorem fld_at {U:AS}{H:Hp}{f:Str}:∀{nm:List Str}{ps:List PV}{xs:List V}{p:PV},Reps U H ps xs→fldOf nm ps f=some p→∃v,(nm.zip xs).lookup f=some v∧Rep U H p v
 | [],ps,xs,p,r,e=>by simp [fldOf] at e
 | n::ns,[],xs,p,r,e=>by simp [fldOf] at e
 | n::ns,q::ps,xs,p,r,e=>by
  obtain ⟨x,r',rfl,h1,h2⟩:=reps_cons.mp r;unfold fldOf at e;rw [List.zip_cons_cons,List.lookup_cons];cases z:f==n with
  | true=>rw [z,if_pos rfl] at e;cases e;exact ⟨x,rfl,h1⟩
  | false=>rw [z,if_neg Zl] at e;exact fld_at h2 e
theorem zip_no {f:Str}:∀{nm:List Str}{xs:List V},nm.contains f=false→(nm.zip xs).lookup f=none
 | [],xs,_=>by simp
 | n::ns,[],_=>by simp
 | n::ns,x::xs,h=>by
  rw [List.contains_cons,Bool.or_eq_false_iff] at h;rw [List.zip_cons_cons,List.lookup_cons,h.1];exact zip_no h.2
theorem ve_fld {K:PySem.W.Frag}{C:Addr}{f:Str}{m:Md}{ta:TE}{fe:VX}(c:Cls K C) (n:NoAttr K C f) (h:VE m ta fe):VE .shr (tFld K ta f) (x1 (pFld C f) fe):=by
 intro U O H σ ρ Q z s e k;obtain ⟨p,hp,e⟩:=Za.mp e;refine h.bor U O H σ ρ _ p s hp fun v H1 U1 ex1 r1=>?_;cases p with
 | obj C' nm ps =>
  have e:(if C'=C then fldOf nm ps f else none)=some z:=e;by_cases hC:C'=C
  case neg=>rw [if_neg hC] at e;cases e
  rw [if_pos hC] at e;subst hC;obtain ⟨a,dx,xs,rfl,ua,ha,hl,rx⟩:=rep_obj.mp (show Rep U1 H1 (.obj C' nm ps) v from r1);obtain ⟨w,hw,rw'⟩:=fld_at (nm:=nm) (f:=f) (p:=z) rx (by simpa [pFld] using e);exact ⟨a,C',dx,_,w,rfl,ha,c,n,hw,k w H1 U1 ex1 rw'⟩
 | _=>cases e
def isC (C:Addr) (m:Str):List PV→Bool
 | .obj C' nm _::_=>decide (C'=C)&&!(nm.contains m)
 | _=>false
def onC (C:Addr) (m:Str) (f:List PV→Option PV):List PV→Option PV:=fun ps=>if isC C m ps then f ps else none
theorem onC_some {C:Addr}{m:Str}{f:List PV→Option PV}{ps:List PV}{p:PV}(h:onC C m f ps=some p):isC C m ps=true∧f ps=some p:=by
 unfold onC at h;cases b:isC C m ps with
 | true=>rw [b,if_pos rfl] at h;exact ⟨rfl,h⟩
 | false=>rw [b,if_neg Zl] at h;cases h
theorem spV_onC {C:Addr}{m:Str}{fr:Bool}{f:List PV→Option PV}:∀vs H Q E,spV fr (onC C m f) vs H Q E→spV fr f vs H Q E:=fun vs H Q E ⟨U,ps,p,d,r,e,k⟩=>⟨U,ps,p,d,r,(onC_some e).2,k⟩
theorem meth_pre {C:Addr}{m:Str}{sp:Sp}{ma:Md}{ta:TE}{t:TA}{fo:VX}{fa:VL}{E:XK}(ho:VE ma ta fo) (ha:VA false t fa) {U O:AS}{H:Hp}{σ:St}{ρ:PEnv}{Q:VK}{ps:List PV}(s:SR U O H σ ρ) (e:lCons fo fa ρ=some ps) (hc:isC C m ps=true)
  (k:∀vs H1 U1,Ext U H U1 H1→Reps U1 H1 ps vs→sp vs H1 Q E):tMeth C m sp [] E ta t σ H Q:=by
 obtain ⟨p,hp,e⟩:=Za.mp e;obtain ⟨qs,hq,e⟩:=Za.mp e;cases e;refine ho.bor U O H σ ρ _ p s hp fun v H1 U1 ex1 r1=>?_;cases p with
 | obj C' nm xs =>
  simp only [isC,Zc1,decide_eq_true_eq,Bool.not_eq_true'] at hc;obtain ⟨rfl,hn⟩:=hc;have r1:Rep U1 H1 (.obj C' nm xs) v:=r1;obtain ⟨a,dx,ys,rfl,ua,ea,hl,rx⟩:=rep_obj.mp r1;refine ⟨a,dx,_,rfl,ea,zip_no hn,ha U1 O H1 σ ρ _ qs (s.ext ex1) hq fun vs H2 U2 ex2 r2=>?_⟩;rw [List.append_nil];exact k _ H2 U2 (ex1.trans ex2) (reps_cons.mpr ⟨_,_,rfl,Rep.keeps ex2.keeps _ _ r1,r2⟩)
 | _=>cases hc
theorem ve_methS {C:Addr}{m:Str}{f:List PV→Option PV}{ma:Md}{ta:TE}{t:TA}{fo:VX}{fa:VL}{E:XK}(hf:∀ps p,f ps=some p→isC C m ps=true) (ho:VE ma ta fo) (ha:VA false t fa):VE .shr (tMeth C m (spV false f) [] E ta t) (xL f (lCons fo fa)):=by
 intro U O H σ ρ Q z s e k;obtain ⟨ps,hp,e⟩:=Za.mp e;exact meth_pre ho ha s hp (hf _ _ e) fun vs H1 U1 ex1 r1=>⟨U1,ps,z,ex1.dU,r1,e,fun v H2 U2 ex2 r2=>k v H2 U2 (ex1.trans ex2) r2⟩
structure DfM (K:PySem.W.Frag) (C:Addr) (m qual:Str) (st:Stmt) (ps:List Str):Prop where
 h:∃a d,Meth K C m a∧Fun K m qual st a d∧Binds K d ps []
 c:Cls K C
structure CM (P:Program) (w:World) (K:PySem.W.Frag) (mg:Str→Option Value) (base:Heap) (CX:CXT) (C:Addr) (m:Str) (k:Nat) (sp:Sp):Prop where
 h:∃a d ps,FnOk P w K mg base CX k a d ps sp∧Meth K C m a∧Binds K d ps []
 c:Cls K C
section
variable {X:Cx}{m ma mb mc:Md}{a b c e o elt target iter:Expr}{es ifs:List Expr}{pos p p2 ap:Pos}{f g h:VX}{fo:VX}{fa fb:VL}{k n i j:Nat}{x y:Str}{l:List Str}{C:Addr}{pl:Sem Bool}
theorem qfld (c:Cls X.K C) (n:NoAttr X.K C y) (h:QE X ma o fo) (hb:attributeBase o y X.env (eval o X.env)=eval o X.env:=by rfl):QE X .shr (.Attribute o y pos) (x1 (pFld C y) fo):=by
 obtain ⟨_,a1,a2⟩:=h.h;exact ⟨_,pe_fld a1 hb,ve_fld c n a2⟩
theorem qmethS0 {f:List PV→Option PV}(F:CM X.prog X.w X.K X.mg X.base CX0 C y k (spV false (onC C y f))) (hr:Room j X.A) (hk:k≤j) (ho:QE X ma o fo)
  (ht:eval (.Call (.Attribute o y ap) [] [] pos) X.env=(do
   let ov ←eval o X.env
   standAt ap.atName
   let (f,first) ←holding [ov] (getMethod ov y pl)
   callWith pos f first (backTo pos (starEach [] X.env)) (backToKw pos (keywordEach [] X.env))):=by rfl) :
  QE X .shr (.Call (.Attribute o y ap) [] [] pos) (xL (onC C y f) (lCons fo lNil)):=by
 obtain ⟨_,_,_,F1,F2,F3⟩:=F.h;obtain ⟨_,o1,o2⟩:=ho.h;exact ⟨_,pe_meth0 o1 F.c F2 F1 (hr.mono hk) F3 .nil pass0 ht,ve_methS (fun _ _ h=>(onC_some h).1) o2 va_nil⟩
variable {P:Program}{w:World}{K:PySem.W.Frag}{mg:Str→Option Value}{base:Heap}{F:VF}{G:VR}{cl:Nat→Addr}
theorem okM {st:Stmt}{N ps:List Str}{fr:Bool}{qual:Str}(D:DfM K C x qual st ps) (S:FnScope N ps (defScope st))
  (hb:∀(a:Addr) (cdv:Value) (A:Around) (outer:List Env) (s:Shared) (H:Hp) (E:XK),Room k (cxOf CX0 P w K mg base N qual (defScope st) a cdv A outer s H E).nox.A→CSc (cxOf CX0 P w K mg base N qual (defScope st) a cdv A outer s H E).nox (defScope st).names N→(cxOf CX0 P w K mg base N qual (defScope st) a cdv A outer s H E).nox.N.Nodup →
   QB (cxOf CX0 P w K mg base N qual (defScope st) a cdv A outer s H E).nox (defBody st) F):CM P w K mg base CX0 C x (k+1) (spV fr (onC C x (fnM ps.length N.length fr F))):=by
 obtain ⟨a,d,h1,h2,h3⟩:=D.h;refine ⟨⟨a,d,ps,FnOk.imp ?_ spV_onC,h1,h3⟩,D.c⟩;refine h2.ok S (spV_len rfl) fun cdv A outer s H vs Q E hr h=>?_;obtain ⟨_,q1,q2⟩:=(hb a cdv A outer s H E hr ⟨fun _=>rfl,rfl⟩ S.nd).h;exact ⟨_,q1,fnV q2 h⟩
end
theorem SR.trF {U O U':AS}{H H':Hp}{σ:St}{ρ:PEnv}{fs fs':List Addr}(s:SR U O H σ ρ) (n:nb ρ=true) (tr:Tr U (fun b=>b∈fs) H U' (fun b=>b∈fs') H') (hf:∀b∈fs,¬U b∧¬O b∧Mutb H b):SR U' O H' σ ρ:=by
 have k:Keeps U H U' H':=tr.keeps (fun a u z=>(hf a z).1 u) fun a z=>(hf a z).2.2;have cell:∀a,O a→∀o,H a=some o→H' a=some o:=fun a oa o e=>tr.fr a o e fun z=>(hf a z).2.1 oa;refine ⟨s.len,tr.dU,fun a oa=>?_,fun a u oa=>?_,fun j q fl e=>?_,s.inj⟩
 ·obtain ⟨o,h1,h2⟩:=s.dO a oa
  exact ⟨o,cell a oa o h1,h2⟩
 ·rcases tr.new a u with z|z|z
  ·exact s.dis a z oa
  ·exact (hf a z).2.1 oa
  ·exact (s.dO a oa).dom z
 ·obtain ⟨v,hv,ok⟩:=s.slot j q fl e
  refine ⟨v,hv,?_⟩;cases fl with
  | shr=>exact Rep.keeps k _ _ ok
  | own=>obtain ⟨a,e1,e2,e3⟩:=ok;exact ⟨a,e1,e2,e3.keeps k fun o h'=>cell a e2 o h'⟩
  | bor=>exact absurd e (nb_slot n)
def spM (h:Sh) (f:PV→List PV→Option (PV×PV)):Sp:=fun vs H Q _=>∃U a fs p ws ps q p',vs=.ref a::ws∧(∀b,U b→H b≠none)∧DRep U H h p (.ref a) fs∧fs.Nodup∧(∀b∈fs,¬U b∧Mutb H b)∧Reps U H ps ws∧f p ps=some (q,p') ∧
 ∀v U' H' fs',Tr U (fun b=>b∈fs) H U' (fun b=>b∈fs') H'→DRep U' H' h p' (.ref a) fs'→fs'.Nodup→(∀b∈fs',¬U' b∧Mutb H' b)→Rep U' H' q v→Q v H'
def fnMut (k n:Nat) (G:DF) (f:VX):PV→List PV→Option (PV×PV):=fun p ps=>if ps.length+1=k then dAll (fun a=>match G (initR n (.adr a::ps)) p with
 | some (.nx ρ' p')=>(f (vw 0 p' ρ')).bind fun q=>if cf q then some (q,p') else none
 | _=>none) else none
theorem spM_len {h:Sh}{k n:Nat}{G:DF}{f:VX}{ps:List Str}(hk:ps.length=k):∀vs H Q E,spM h (fnMut k n G f) vs H Q E→vs.length=ps.length:=by
 rintro vs H Q E ⟨U,a,fs,p,ws,qs,q,p',rfl,d,_,_,_,r,e,_⟩;unfold fnMut at e;split at e
 ·rename_i h;rw [Zq,r.length,h,hk]
 ·cases e
section
variable {i:Nat}{C:Addr}{nm:List Str}{hs:Nat→Sh}{m:Str}{E:XK}{t:TA}{fa:VL}{f:PV→List PV→Option (PV×PV)}
theorem callM {Q:VK}{U P:AS}{H:Hp}{σ:St}{ρ:PEnv}{p:PV}{a:Addr}{ps:List PV}{q p':PV}(hm:nm.contains m=false) (ha:VA false t fa) (sd:SD U P H σ ρ i (.o C nm hs) p a) (hn:nb ρ=true) (hps:fa ρ=some ps) (hf:f p ps=some (q,p'))
  (k:∀v U' P' H',SD U' P' H' σ ρ i (.o C nm hs) p' a→Tr U P H U' P' H'→Rep U' H' q v→Q v H'):tMeth C m (spM (.o C nm hs) f) [] E (tVar i) t σ H Q:=by
 have sg:=sd.sig;obtain ⟨O,fs,s,tk,d,nd,ds,hP⟩:=sd.h;obtain ⟨a',dx,xs,qs,g,ea,rfl,ec,hl,di,rfl⟩:=id d;cases ea;refine ⟨.ref a,sg,a,dx,_,rfl,ec,zip_no hm,ha U O H σ ρ _ ps s hps fun vs H1 U1 ex1 r1=>?_⟩;rw [List.append_nil];have sd1:=sd.ext ex1;have s1:=s.ext ex1;have ds1:∀b∈a::g,¬U1 b∧¬O b∧Mutb H1 b:=fun b hb=>by
  obtain ⟨d1,d2,o,d3,d4⟩:=ds b hb;refine ⟨fun z=>?_,d2,o,ex1.same _ _ d3,d4⟩;rcases ex1.new b z with z|z
  ·exact d1 z
  ·rw [d3] at z;cases z
 refine ⟨U1,a,a::g,_,vs,ps,q,p',rfl,s1.dU,d.keeps ex1.keeps fun b _ o ho=>ex1.same b o ho,nd,fun b hb=>⟨(ds1 b hb).1,(ds1 b hb).2.2⟩,r1,hf,fun v U' H' fs' tr d' nd' ds' rv=>?_⟩;have s':=s1.trF hn tr ds1;have nO:∀b∈fs',¬O b:=fun b hb z=>by
  rcases tr.own b hb with w|w
  ·exact (ds1 b w).2.1 z
  ·exact s1.noO w z
 refine k v U' (fun b=>O b∨b∈fs') H' ⟨O,fs',s',tk,d',nd',fun b hb=>⟨(ds' b hb).1,nO b hb,(ds' b hb).2⟩,fun _=>Iff.rfl⟩ ?_ rv;have trx:=ex1.tr (O:=P);refine trx.trans ⟨fun b o hb n=>tr.fr b o hb fun z=>n ((hP b).mpr (.inr z)),tr.mono,fun b z=>(tr.new b z).elim .inl fun z=>z.elim (fun z=>.inr (.inl ((hP b).mpr (.inr z)))) fun z=>.inr (.inr z),fun b z=>z.elim (fun z=>.inl ((hP b).mpr (.inl z))) fun z=>(tr.own b z).elim (fun z=>.inl ((hP b).mpr (.inr z))) .inr,tr.dU,tr.dm⟩
end
def fldIx:List Str→Str→Option Nat
 | [],_=>none
 | n::ns,f=>if f==n then some 0 else (fldIx ns f).map (· + 1)
theorem fldIx_at {f:Str}:∀{nm:List Str}{n:Nat}{xs:List V}{x:V},fldIx nm f=some n→xs[n]?=some x→(nm.zip xs).lookup f=some x
 | [],n,xs,x,e,_=>by cases e
 | y::ns,n,[],x,e,h=>by simp at h
 | y::ns,n,z::xs,x,e,h=>by
  unfold fldIx at e;rw [List.zip_cons_cons,List.lookup_cons];cases q:f==y with
  | true =>
   rw [q,if_pos rfl] at e;cases e;simp at h;rw [h]
  | false =>
   rw [q,if_neg Zl] at e;obtain ⟨k,hk,rfl⟩:=Zb.mp e;exact fldIx_at hk (by simpa using h)
def dAppO (n:Nat) (f:VX):DF:=fun ρ p=>if nb ρ then (f ρ).bind fun q=>match p with
 | .obj C nm ps=>(match ps[n]? with
  | some (.lst qs)=>if small? qs.length then some (.nx ρ (.obj C nm (ps.set n (.lst (qs++[q]))))) else none
  | _=>none)
 | _=>none else none
section
variable {i n:Nat}{C:Addr}{nm:List Str}{hs:Nat→Sh}{y:Str}{Kf K:PySem.W.Frag}{te:TE}{f:VX}
theorem vd_appO (hn:fldIx nm y=some n) (hsh:hs n=.l .s) (c:Cls K C) (na:NoAttr K C y) (he:VE .shr te f):VD i (.o C nm hs) (tDrop (tBM Kf "list" rAppend (tFld K (tVar i) y) (tCons te tNil))) (dAppO n f):=by
 intro U P H σ ρ p a D o s e q;have sg:=s.sig;obtain ⟨O,fs,sr,tok,d,nd,ds,hP⟩:=s.h;unfold dAppO at e;by_cases hnb:nb ρ=true
 case neg=>rw [if_neg hnb] at e;cases e
 rw [if_pos hnb] at e;obtain ⟨w,hy,e⟩:=Za.mp e;obtain ⟨ps,rfl⟩:∃ps,p=.obj C nm ps:=by
  obtain ⟨_,_,_,ps,_,_,e,_⟩:=d;exact ⟨ps,e⟩
 dsimp only at e;split at e
 case h_2=>cases e
 rename_i qs hq;obtain ⟨hsm,rfl⟩:=some_if e;obtain ⟨dx,xs,x,f1,g,f2,hcell,hf1,hln,hxl,hx,dc,rfl,back⟩:=d.childO rfl hq;rw [hsh] at dc;obtain ⟨b1,ys,qs',g',rfl,eq,hb1,di,rfl⟩:=dc;cases eq;refine ⟨.ref a,sg,a,C,dx,_,.ref b1,rfl,hcell,c,na,fldIx_at hn hx,.inl ⟨rfl,ys,SqL.of hb1⟩,he U O H σ ρ _ w sr hy fun w2 H2 U2 ex2 r2=>?_⟩;have s2:=sr.ext ex2;have hb2:=ex2.same _ _ hb1;have mem:b1∈f1++(b1::g')++f2:=by simp
 have dd:∀c∈f1++(b1::g')++f2,¬U2 c∧¬O c∧Mutb H2 c:=fun c hc=>by
  obtain ⟨d1,d2,o,d3,d4⟩:=ds c hc;refine ⟨fun z=>?_,d2,o,ex2.same _ _ d3,d4⟩;rcases ex2.new c z with z|z
  ·exact d1 z
  ·rw [d3] at z;cases z
 obtain ⟨s3,k3⟩:=s2.side (o:=.lst (ys++[w2])) hnb (dd b1 mem).1 (dd b1 mem).2.1 (dd b1 mem).2.2 (fun _ z=>nomatch z);refine ⟨b1,ys,w2,rfl,rfl,hb2,by rw [di.length];exact small_lt hsm,?_⟩;have di2:DItems (fun _=>DRep U2 (upd H2 b1 (.lst (ys++[w2]))) .s) 0 (qs++[w]) (ys++[w2]) (g'++[]):=by
  refine DItems.snoc (DItems.imp (fun m p x f r z=>?_) di) ⟨Rep.keeps k3 _ _ r2,rfl⟩;exact ⟨Rep.keeps k3 _ _ (Rep.keeps ex2.keeps _ _ r.1),r.2⟩
 rw [List.append_nil] at di2;have newD:=back U2 (upd H2 b1 (.lst (ys++[w2]))) (.lst (qs++[w])) (b1::g') (ex2.keeps.trans k3) (fun c hc o ho=>by
  rw [upd_ne (nodup_mid nd (g:=b1::g') (by simp) c hc)];exact ex2.same _ _ ho) (by rw [hsh];exact ⟨b1,ys++[w2],qs++[w],g',rfl,rfl,upd_same,di2,rfl⟩)
 have mutb:∀c,Mutb H2 c→Mutb (upd H2 b1 (.lst (ys++[w2]))) c:=fun c m=>by
  by_cases e:c=b1
  ·subst e;exact ⟨_,upd_same,fun _ z=>nomatch z⟩
  ·obtain ⟨o,m1,m2⟩:=m
   exact ⟨o,by rw [upd_ne e];exact m1,m2⟩
 have tr3:Tr U2 P H2 U2 P (upd H2 b1 (.lst (ys++[w2]))):=by
  refine ⟨fun c o hc n=>?_,fun _ h=>h,fun _ h=>.inl h,fun _ h=>.inl h,s3.dU,fun c hc=>?_⟩
  ·rw [upd_ne (show c≠b1 from fun z=>n ((hP c).mpr (.inr (by rw [z];exact mem))))];exact hc
  ·by_cases e:c=b1
   ·subst e;rw [upd_same];intro z;cases z
   ·rw [upd_ne e];exact hc
 exact q U2 P _ σ ⟨O,f1++(b1::g')++f2,s3,tok,newD,nd,fun c hc=>⟨(dd c hc).1,(dd c hc).2.1,mutb c (dd c hc).2.2⟩,hP⟩ (ex2.tr.trans tr3)
end
def hNm:List Str:=["elders","trees"]
def hSh (C:Addr):Sh:=.o C hNm fun _=>.l .s
def hist (C:Addr) (web trees:List PV):PV:=.obj C hNm [.lst web,.lst trees]
def spI (C:Addr):Sp:=fun vs H Q _=>∃x dx,vs = [.ref x]∧H x=some (.ins C dx [])∧∀e t H',H e=none→H t=none→e≠t→H' x=some (.ins C dx [("elders",.ref e),("trees",.ref t)])→H' e=some (.lst [])→H' t=some (.lst [])→(∀b o,H b=some o→b≠x→H' b=some o)→Q .non H'
theorem vne_make {C:Addr}{E:XK}:VNE (hSh C) (tMake C (spI C) [] E tNil) (fun _=>some (hist C [] [])):=by
 intro U O H σ ρ Q p s e k;cases e;intro x dx hx hdx ne;have u1:∀b o,H b=some o→upd (upd H dx (.own x)) x (.ins C dx []) b=some o∧b≠x:=fun b o hb=>by
  have n1:b≠x:=ne_of_none hb hx;have n2:b≠dx:=ne_of_none hb hdx;exact ⟨by rw [upd_ne n1,upd_ne n2];exact hb,n1⟩
 have back:∀b,upd (upd H dx (.own x)) x (.ins C dx []) b=none→H b=none∧b≠x:=fun b hb=>by
  have n1:b≠x:=fun z=>by rw [z,upd_same] at hb;cases hb
  have n2:b≠dx:=fun z=>by rw [upd_ne n1,z,upd_same] at hb;cases hb
  rw [upd_ne n1,upd_ne n2] at hb;exact ⟨hb,n1⟩
 refine ⟨x,dx,rfl,upd_same,fun e t H' he ht hne h1 h2 h3 hk=>⟨rfl,?_⟩⟩;obtain ⟨he0,hex⟩:=back e he;obtain ⟨ht0,htx⟩:=back t ht;have same:Same H H':=fun b o hb=>hk b o (u1 b o hb).1 (u1 b o hb).2;have ex:Ext U H U H':=Ext.onlyU (U2:=U) s.dU same;refine k x U H' [x,e,t] ex ?_ ?_ ?_
 ·refine ⟨x,dx,[.ref e,.ref t],[.lst [],.lst []],[e,t],rfl,rfl,h1,rfl,?_,rfl⟩
  exact ⟨.ref e,[.ref t],[e],[t],rfl,⟨e,[],[],[],rfl,rfl,h2,⟨rfl,rfl⟩,rfl⟩,⟨.ref t,[],[t],[],rfl,⟨t,[],[],[],rfl,rfl,h3,⟨rfl,rfl⟩,rfl⟩,⟨rfl,rfl⟩,rfl⟩,rfl⟩
 ·simp [hex.symm,htx.symm,hne]
 ·intro b hb
  simp only [Zk,List.not_mem_nil,or_false] at hb;rcases hb with rfl|rfl|rfl
  ·exact ⟨hx,nU s.dU hx,_,h1,fun _ z=>nomatch z⟩
  ·exact ⟨he0,nU s.dU he0,_,h2,fun _ z=>nomatch z⟩
  ·exact ⟨ht0,nU s.dU ht0,_,h3,fun _ z=>nomatch z⟩
def VMr (i:Nat) (h:Sh) (t:TS) (G:DF) (f:VX):Prop:=∀(U P:AS) (H:Hp) (σ:St) (ρ:PEnv) (p:PV) (a:Addr) (D:Ends) (ρ':PEnv) (p' q:PV),SD U P H σ ρ i h p a→G ρ p=some (.nx ρ' p')→f (vw i p' ρ')=some q→cf q=true →
 (∀U' P' H' v σ' ρ'',SD U' P' H' σ' ρ'' i h p' a→Tr U P H U' P' H'→Rep U' H' q v→D.rt v H')→t D σ H
section
variable {i:Nat}{h:Sh}{t u:TS}{te:TE}{G G1 G2:DF}{f:VX}
theorem vmr_ret (he:VE .shr te f):VMr i h (tRet te) dSkip f:=by
 intro U P H σ ρ p a D ρ' p' q s e hq hc k;cases e;refine he _ _ H σ _ _ q s.view hq fun v H2 U2 ex r2=>?_;have ex0:=Ext.onlyU (U2:=U2) s.dU ex.same;exact k U P H2 v σ ρ (s.ext ex0) ex0.tr (Rep.cf (U:=U2) q v hc r2)
theorem vmr_seq (h1:VD i h t G1) (h2:VMr i h u G2 f):VMr i h (tSeq t u) (dSeq G1 G2) f:=by
 intro U P H σ ρ p a D ρ' p' q s e hq hc k;unfold dSeq at e;cases z:G1 ρ p with
 | none=>rw [z] at e;cases e
 | some o1 =>
  rw [z] at e;cases o1 with
  | rt v=>cases e
  | nx ρ1 p1 =>
   refine h1 U P H σ ρ p a { D with nx:=u D } _ s z fun U1 P1 H1 σ1 s1 r1=>?_;exact h2 U1 P1 H1 σ1 ρ1 p1 a D ρ' p' q s1 e hq hc fun U' P' H' v σ' ρ'' s' tr r=>k U' P' H' v σ' ρ'' s' (r1.trans tr) r
theorem fnVMr {N:List Str}{k:Nat}{vs:List V}{H:Hp}{Q:VK}{E:XK}(hG:VMr 0 h t G f) (hsp:spM h (fnMut k N.length G f) vs H Q E):t { nx:=fun _ H'=>Q .non H',rt:=Q } (start N vs) H:=by
 obtain ⟨U,a,fs,p,ws,ps,q,p',rfl,d,dr,nd,ds,r,e,kk⟩:=hsp;unfold fnMut at e;split at e
 case isFalse=>cases e
 have s:=SR.init (N:=N) d (reps_cons.mpr ⟨.ref a,ws,rfl,rep_adr.mpr rfl,r⟩);have sd:SD U (fun b=>b∈fs) H (start N (.ref a::ws)) (initR N.length (.adr a::ps)) 0 h p a:=⟨fun _=>False,fs,s,rfl,dr,nd,fun b hb=>⟨(ds b hb).1,fun z=>z,(ds b hb).2⟩,fun b=>by simp⟩
 have e:=dAll_some e a;cases z:G (initR N.length (.adr a::ps)) p with
 | none=>rw [z] at e;cases e
 | some o =>
  rw [z] at e;cases o with
  | rt q=>cases e
  | nx ρ1 p1 =>
   obtain ⟨q1,hq,e⟩:=Za.mp e;obtain ⟨hc,e⟩:=some_if e;cases e;refine hG U _ H _ _ p a _ _ _ q sd z hq hc fun U1 P1 H1 v σ1 ρ2 s1 tr1 r1=>?_;obtain ⟨O2,fs2,s2,tk,d2,nd2,ds2,hP⟩:=s1.h;exact kk v U1 H1 fs2 ⟨tr1.fr,tr1.mono,tr1.new,fun b z=>tr1.own b ((hP b).mpr (.inr z)),tr1.dU,tr1.dm⟩ d2 nd2 (fun b hb=>⟨(ds2 b hb).1,(ds2 b hb).2.2⟩) r1
end
structure QMr (X:Cx) (st:List Stmt) (i:Nat) (h:Sh) (G:DF) (f:VX):Prop where
 h:∃t,PSs X st t∧VMr i h t G f
structure DfI (K:PySem.W.Frag) (C:Addr) (st:Stmt):Prop where
 h:∃f fd,Mk K C f∧Fun K "__init__" "History.__init__" st f fd∧Binds K fd ["self"] []
 c:Cls K C
 e:NoAttr K C "elders"
 t:NoAttr K C "trees"
structure CMk (P:Program) (w:World) (K:PySem.W.Frag) (mg:Str→Option Value) (base:Heap) (C:Addr) (x:Str) (k:Nat):Prop where
 h:∃f fd,Mk K C f∧FnOk P w K mg base CX0 k f fd ["self"] (spI C)∧Binds K fd ["self"] []
 m:mg x=some (.ref C)
section
variable {X:Cx}{m ma mb mc:Md}{a b c e o elt target iter:Expr}{es ifs:List Expr}{pos p p1 p2 p3 ap:Pos}{f g h:VX}{fo:VX}{fa fb:VL}{k n i j:Nat}{x y z:Str}{l:List Str}{C:Addr}{pl:Sem Bool}{sh:Sh}{st:Stmt}{sts:List Stmt}{G G1 G2:DF}
theorem qmr1 (ha:QE X .shr a f):QMr X [.Return (some a) p] i sh dSkip f:=by
 obtain ⟨_,a1,a2⟩:=ha.h;exact ⟨_,pss_one (ps_ret a1),vmr_ret a2⟩
theorem qmrc (h1:QD X st i sh G1) (h2:QMr X sts i sh G2 f):QMr X (st::sts) i sh (dSeq G1 G2) f:=by
 obtain ⟨_,a1,a2⟩:=h1.h;obtain ⟨_,b1,b2⟩:=h2.h;exact ⟨_,pss_cons a1 b1,vmr_seq a2 b2⟩
theorem qnmake (M:CMk X.prog X.w X.K X.mg X.base C x k) (hr:Room j X.A) (hk:k+1≤j) (hN:X.N.Nodup) (hi:X.N[i]?=some y) (hx:Loc X.env.scope y) (hs:swapsWith (.Call (.Name x p) [] [] pos) (some (.Name y p2)) p3.line X.env=pure false) (hf:X.fn y=true∨X.env.scope.names.lookup y=some .local) (hg:Gl X x:=by rfl) (hdb:(x==("__debug__" : Str))=false:=by decide) :
  QN X (.Assign [.Name y p2] (.Call (.Name x p) [] [] pos) p3) i (hSh C) (fun _=>some (hist C [] [])):=by
 obtain ⟨_,_,m1,m2,m3⟩:=M.h;exact ⟨_,ps_set hN hi hx (pe_make0 m1 m2 (hr.mono hk) hg M.m m3 .nil pass0 hdb) hs hf,vn_set vne_make⟩
theorem qdappO (c:Cls X.K C) (na:NoAttr X.K C y) (q:PE X (.Name x p) (tVar i)) (ha:QE X .shr a f) (hn:fldIx hNm y=some n)
  (hb1:attributeBase (.Name x p) y X.env (eval (.Name x p) X.env)=eval (.Name x p) X.env)
  (hbase:attributeBase (.Attribute (.Name x p) y p1) "append" X.env (eval (.Attribute (.Name x p) y p1) X.env)=eval (.Attribute (.Name x p) y p1) X.env)
  (hfew:((backTo p2 (starEach [a] X.env)).all (fun x=>!x.1)&&(backToKw p2 (keywordEach [] X.env)).all (fun x=>x.1.isSome)&&decide ([a].length + ([]:List Keyword).length + (if ([]:List Keyword).isEmpty then 0 else 1) < 30))=true)
  (hline:(ap.endLine==p2.line)=true) (hs:starEach [a] X.env=(false,eval a X.env)::starEach [] X.env) (hplain:(backTo p2 (starEach [] X.env)).any (·.1)=false) (hsw:swapsWith (.Call (.Attribute (.Attribute (.Name x p) y p1) "append" ap) [a] [] p2) none pos.line X.env=pure false) :
  QD X (.Expr (.Call (.Attribute (.Attribute (.Name x p) y p1) "append" ap) [a] [] p2) pos) i (hSh C) (dAppO n f):=by
 obtain ⟨_,a1,a2⟩:=ha.h;exact ⟨_,ps_expr (pe_bmK rfl PySem.F.plainAttrs_list PySem.F.slot_list_append PySem.F.type_list_append mt_append (pe_fld q hb1) (pa_cons a1 pa_nil hs) hbase hfew hline hs hplain) hsw,vd_appO hn rfl c na a2⟩
variable {P:Program}{w:World}{K:PySem.W.Frag}{mg:Str→Option Value}{base:Heap}
theorem okMM {N ps:List Str}{qual:Str}(D:DfM K C x qual st ps) (S:FnScope N ps (defScope st))
  (hb:∀(a:Addr) (cdv:Value) (A:Around) (outer:List Env) (s:Shared) (H:Hp) (E:XK),Room k (cxOf CX0 P w K mg base N qual (defScope st) a cdv A outer s H E).nox.A→CSc (cxOf CX0 P w K mg base N qual (defScope st) a cdv A outer s H E).nox (defScope st).names N→(cxOf CX0 P w K mg base N qual (defScope st) a cdv A outer s H E).nox.N.Nodup →
   QMr (cxOf CX0 P w K mg base N qual (defScope st) a cdv A outer s H E).nox (defBody st) 0 sh G f):CM P w K mg base CX0 C x (k+1) (spM sh (fnMut ps.length N.length G f)):=by
 obtain ⟨a,d,h1,h2,h3⟩:=D.h;refine ⟨⟨a,d,ps,?_,h1,h3⟩,D.c⟩;refine h2.ok S (spM_len rfl) fun cdv A outer s H vs Q E hr h=>?_;obtain ⟨_,q1,q2⟩:=(hb a cdv A outer s H E hr ⟨fun _=>rfl,rfl⟩ S.nd).h;exact ⟨_,q1,fnVMr q2 h⟩
end
theorem okInit {P:Program}{w:World}{K:PySem.W.Frag}{mg:Str→Option Value}{base:Heap}{C:Addr}{st:Stmt}{p1 p2 p3 p4 p5 p6 p7 p8:Pos}(D:DfI K C st) (S:FnScope ["self"] ["self"] (defScope st))
  (hst:defBody st = [.Assign [.Attribute (.Name "self" p1) "elders" p2] (.List [] p3) p4,.Assign [.Attribute (.Name "self" p5) "trees" p6] (.List [] p7) p8])
  (hs1:∀a cdv A outer s H E,swapsWith (.List [] p3) (some (.Attribute (.Name "self" p1) "elders" p2)) p4.line (cxOf CX0 P w K mg base ["self"] "History.__init__" (defScope st) a cdv A outer s H E).env=pure false)
  (hs2:∀a cdv A outer s H E,swapsWith (.List [] p7) (some (.Attribute (.Name "self" p5) "trees" p6)) p8.line (cxOf CX0 P w K mg base ["self"] "History.__init__" (defScope st) a cdv A outer s H E).env=pure false) (hm:mg "History" = some (.ref C))
  (hv:Vis (defScope st) "self"):CMk P w K mg base C "History" 1:=by
 obtain ⟨f,fd,hM,hF,hB⟩:=D.h;refine ⟨⟨f,fd,hM,?_,hB⟩,hm⟩;refine hF.ok S (fun vs H Q E h=>?_) (fun cdv A outer s H vs Q E hr h=>?_)
 ·obtain ⟨x,dx,rfl,_⟩:=h
  rfl
 ·obtain ⟨x,dx,rfl,hx,k⟩:=h
  rw [hst];refine ⟨_,pss_cons (ps_fld (pe_var (i:=0) rfl hv) (pe_lst pa_nil) (hs1 f cdv A outer s H E)) (pss_one (ps_fld (pe_var (i:=0) rfl hv) (pe_lst pa_nil) (hs2 f cdv A outer s H E))),?_⟩;refine ⟨by show 0≤sizeLine;exact Nat.zero_le _,fun e he=>?_⟩;have nxe:x≠e:=ne_of_none hx he;refine ⟨_,rfl,x,C,dx,[],rfl,(by rw [upd_ne nxe];exact hx),D.c,D.e,(by show 0 < 1000;decide),?_⟩;refine ⟨by show 0≤sizeLine;exact Nat.zero_le _,fun t ht=>?_⟩;have ntx:x≠t:=fun z=>by rw [←z,upd_same] at ht;cases ht
  have nte:e≠t:=fun z=>by rw [←z,upd_ne nxe.symm,upd_same] at ht;cases ht
  have ht0:H t=none:=by rw [upd_ne ntx.symm,upd_ne nte.symm] at ht;exact ht
  refine ⟨_,rfl,x,C,dx,_,rfl,(by rw [upd_ne ntx,upd_same]),D.c,D.t,(by show 1 < 1000;decide),?_⟩;refine k e t _ he ht0 nte (Eq.trans upd_same (congrArg (fun l=>some (HO.ins C dx l)) ?_)) ?_ ?_ fun b o hb nb=>?_
  ·show (if ("elders" : Str) = "trees" then _ else (("elders" : Str),V.ref e)::[(("trees" : Str),V.ref t)])=_
   rw [if_neg (by decide +kernel)]
  ·rw [upd_ne nxe.symm,upd_ne nte,upd_ne nxe.symm,upd_same]
  ·rw [upd_ne ntx.symm,upd_same]
  ·rw [upd_ne nb,upd_ne (ne_of_none hb ht0),upd_ne nb,upd_ne (ne_of_none hb he)];exact hb
end L2
namespace HT
open PySem PyProof.Rows
end HT
namespace L2
open PySem PySem.W PySem.Spec PyProof.Rows
end L2
namespace PySem
open PyProof.Rows PySem.W PySem.Spec
end PySem
namespace L2
open PySem PySem.Spec PyProof.Rows PySem.W
end L2
namespace PySem
open PyProof.Rows PySem.W PySem.Spec
end PySem
namespace L2
open PySem PySem.Spec PyProof.Rows PySem.W
def onX (C:Addr) (m:Str) (g:List PV→Option Nat):List PV→Option Nat:=fun ps=>if isC C m ps then g ps else none
theorem onX_some {C:Addr}{m:Str}{g:List PV→Option Nat}{ps:List PV}{n:Nat}(h:onX C m g ps=some n):isC C m ps=true∧g ps=some n:=by
 unfold onX at h;cases b:isC C m ps with
 | true=>rw [b,if_pos rfl] at h;exact ⟨rfl,h⟩
 | false=>rw [b,if_neg Zl] at h;cases h
theorem spX_onX {C:Addr}{m:Str}{cl:Nat→Addr}{g:List PV→Option Nat}:∀vs H Q E,spX cl (onX C m g) vs H Q E→spX cl g vs H Q E:=fun vs H Q E ⟨U,ps,n,d,r,e,k⟩=>⟨U,ps,n,d,r,(onX_some e).2,k⟩
theorem ex_meth {cl:Nat→Addr}{X:Cx}{k:Nat}{f C:Addr}{fd:FuncData}{ps:List Str}{g:List PV→Option Nat}{y:Str}{ap pos:Pos}{o e:Expr}{es:List Expr}{ma:Md}{ta:TE}{t:TA}{fo:VX}{fa:VL}{pl:Sem Bool}(hx:NoX X) (hex:X.ex = [])
  (F:FnOk X.prog X.w X.K X.mg X.base (CX1 X.prog X.w) k f fd ps (spX cl g)) (hf:∀ps n,g ps=some n→isC C y ps=true) (hr:Room k X.A) (c:Cls X.K C) (hm:Meth X.K C y f) (hb:Binds X.K fd ps [])
  (ho:PE X o ta) (vo:VE ma ta fo) (ha:PA X (e::es) t) (hv:VA false t fa) (hst:starEach (e::es) X.env=(false,eval e X.env)::starEach es X.env) (hpl:(backTo pos (starEach es X.env)).any (·.1)=false)
  (ht:eval (.Call (.Attribute o y ap) (e::es) [] pos) X.env=(do
   let ov ←eval o X.env
   standAt ap.atName
   let (f,first) ←holding [ov] (getMethod ov y pl)
   callWith pos f first (backTo pos (starEach (e::es) X.env)) (backToKw pos (keywordEach [] X.env)))) :
  EX cl X (.Call (.Attribute o y ap) (e::es) [] pos) (gCall g (lCons fo fa)):=by
 intro pins s σ H U O ρ n I sr eg;obtain ⟨qs,hq,eg⟩:=Za.mp eg;have h:=meth_pre (C:=C) (m:=y) (sp:=fun vs H1 _ _=>∃U1,Ext U H U1 H1∧Reps U1 H1 qs vs) (E:=fun _ _ _=>False) (Q:=fun _ _=>False) vo hv sr hq (hf _ _ eg) fun vs H1 U1 ex r=>⟨U1,ex,r⟩
 refine PySem.W.methodCall_KW (pl:=pl) (wpAny_mono (ho pins s σ H _ I h) (fun u s1 ⟨x,H1,I1,rx,a,dx,fs,ex,ea,l,q⟩=>?_) fun e' s' q=>(hx e' s' q).elim) ht;subst ex;obtain rfl:u=Value.ref a:=rx;refine getmeth_ok I1 ea c hm l ?_;refine PySem.W.callWith_K (first:=[.ref a]) (h₀:=X.base) I.ok.mod.kin hm.kp (wpAny_mono (ha pos pins s1 σ H1 _ I1 q) (fun us s2 ⟨vs,H2,I2,r,U1,ex,rp⟩=>⟨I2.kIn,?_⟩) fun e' s' q=>(hx e' s' q).elim) hst hpl;rw [List.append_nil] at rp;have r:Vals (.ref a::vs) (.ref a::us):=.cons rfl r;have hsp:spX cl g (.ref a::vs) H2 (fun _ _=>False) (fun c _ H'=>c=.ref (cl n)∧∃U',Ext U1 H2 U' H'):=⟨U1,qs,n,ex.dU,rp,eg,fun H' U' ex'=>⟨rfl,U',ex'⟩⟩
 have hl:(Value.ref a::us).length=ps.length:=by rw [←r.length];exact F.len _ _ _ _ hsp
 have hbb:=hb s2 (.ref a::us) I2.kIn (by rw [List.append_nil];exact hl);rw [List.append_nil] at hbb;refine wpAny_call (codeAny_mono (F.run X.A X.stack s2 H2 ⟨.ref a::us,[]⟩ (.ref a::us) (.ref a::vs) _ _ hr I2.env0 hbb r hsp) fun rr s' hq'=>?_);cases rr with
 | error e' =>
  have hq2:CX1 X.prog X.w X.stack H2 s2 (fun c _ H'=>c=.ref (cl n)∧∃U',Ext U1 H2 U' H') e' s':=hq';obtain ⟨a,C,H',B,t0,rfl,I',fl,kp,ec,U',ex'⟩:=I2.raised (P:=X.prog) (w:=X.w) hex hq2;cases ec;have exx:=ex.trans ex';exact ⟨U',O,H',σ,sr.ext exx,exx.tr,.inl ⟨a,B,t0,rfl,I',fl,kp⟩⟩
 | ok fl =>
  cases fl with
  | ret u=>obtain ⟨_,_,_,_,_,_,_,q⟩:=hq';exact False.elim q
  | next=>exact False.elim hq'
  | brk=>exact False.elim hq'
  | cont=>exact False.elim hq'
section
variable {X:Cx}{m ma mb mc:Md}{a b c e o elt target iter:Expr}{es ifs:List Expr}{pos p p2 ap:Pos}{f g h:VX}{fo:VX}{fa fb:VL}{k n i j:Nat}{x y:Str}{l:List Str}{C:Addr}{pl:Sem Bool}{cl:Nat→Addr}{u:PEnv→Option Nat}
theorem rmeth {g:List PV→Option Nat}(hx:NoX X) (F:CM X.prog X.w X.K X.mg X.base (CX1 X.prog X.w) C y k (spX cl (onX C y g))) (hr:Room j X.A) (hk:k≤j) (ho:QE X ma o fo) (ha:QA X false (e::es) fa) (hex:X.ex = []:=by rfl) (hst:starEach (e::es) X.env=(false,eval e X.env)::starEach es X.env:=by rfl) (hpl:(backTo pos (starEach es X.env)).any (·.1)=false:=by rfl)
  (ht:eval (.Call (.Attribute o y ap) (e::es) [] pos) X.env=(do
   let ov ←eval o X.env
   standAt ap.atName
   let (f,first) ←holding [ov] (getMethod ov y pl)
   callWith pos f first (backTo pos (starEach (e::es) X.env)) (backToKw pos (keywordEach [] X.env))):=by rfl) :
  RE cl X (.Call (.Attribute o y ap) (e::es) [] pos) (gCall (onX C y g) (lCons fo fa)):=by
 obtain ⟨_,_,_,F1,F2,F3⟩:=F.h;obtain ⟨_,a1,a2⟩:=ha.h;obtain ⟨_,o1,o2⟩:=ho.h;exact ⟨ex_meth hx hex F1 (fun _ _ h=>(onX_some h).1) (hr.mono hk) F.c F2 F3 o1 o2 a1 a2 hst hpl ht⟩
variable {P:Program}{w:World}{K:PySem.W.Frag}{mg:Str→Option Value}{base:Heap}{G:VR}
theorem badM {st:Stmt}{N ps:List Str}{qual:Str}(D:DfM K C x qual st ps) (S:FnScope N ps (defScope st))
  (hb:∀(a:Addr) (cdv:Value) (A:Around) (outer:List Env) (s:Shared) (H:Hp) (E:XK),Room k (cxOf CX0 P w K mg base N qual (defScope st) a cdv A outer s H E).nox.A→CSc (cxOf CX0 P w K mg base N qual (defScope st) a cdv A outer s H E).nox (defScope st).names N→(cxOf CX0 P w K mg base N qual (defScope st) a cdv A outer s H E).nox.N.Nodup →
   NoX (cxOf CX0 P w K mg base N qual (defScope st) a cdv A outer s H E).nox→RB true true cl (cxOf CX0 P w K mg base N qual (defScope st) a cdv A outer s H E).nox (defBody st) G):CM P w K mg base (CX1 P w) C x (k+1) (spX cl (onX C x (gnM ps.length N.length G))):=by
 obtain ⟨a,d,h1,h2,h3⟩:=D.h;exact ⟨⟨a,d,ps,FnOk.imp (h2.okXp S fun cdv A outer s H E hr=>(hb a cdv A outer s H E hr ⟨fun _=>rfl,rfl⟩ S.nd fun _ _ z=>z).h) spX_onX,h1,h3⟩,D.c⟩
end
end L2
namespace PySem
open PySem.Spec
end PySem
namespace L2
open PySem PySem.Spec
end L2
namespace PySem
open PySem.Spec
end PySem
namespace L2
open PySem PySem.Spec
end L2
namespace PySem
open PySem.Spec
end PySem
namespace L2
open PySem PySem.Spec PyProof.Rows PySem.W
end L2
namespace L2
open PySem
open PySem.Spec
open PyProof.Rows
open PySem.W
def rMulB:R2:=fun x y H Q=>∃(i:Int) (b:Bool),x=.int i∧y=.bl b∧Q (.int (i * if b=true then (1:Int) else 0)) H
def pMulB:PV→PV→Option PV
 | .int i,.bl b=>some (.int (i * if b=true then (1:Int) else 0))
 | _,_=>none
theorem op_mulB {X:Cx}:OpR X (binaryOp .Mult) rMulB:=by
 intro pins s σ H x y v u Q I rx ry h;obtain ⟨i,b,rfl,rfl,q⟩:=h;obtain ⟨t,rfl⟩:=rx;cases ry;exact PySem.IntBool.mul_int_bool ⟨.int _,H,I.tok _,⟨_,rfl⟩,q⟩
theorem r2_mulB:R2V .shr rMulB pMulB:=by
 intro U H p q z v w Q d hp hq e k;cases p<;>cases q<;>simp only [pMulB] at e<;>first|cases e|skip
 rename_i i b;have hv:=bor_int (U:=U) (H:=H) hp;have hw:w=.bl b:=rep_bl.mp (show Rep U H (.bl b) w from hq);subst hv hw;exact ⟨i,b,rfl,rfl,k _ H U (.refl d) (repI U H _)⟩
theorem qbN {X:Cx}{s:List Stmt}:QB X s vNone:=⟨_,pss_never,vs_never⟩
section
variable {cl:Nat→Addr}{X:Cx}{x:Str}{Cj:Addr}{n:Nat}{np pos:Pos}{F:VF}
theorem hb0_hit {b₀:Stmt}{suite:List Stmt}{rest:List ExceptHandler}(hex:X.ex = []) (hg:Gl X x) (hm:X.mg x=some (.ref Cj)) (he:PySem.W.exmOne X.K (.ref (cl n)) (.ref Cj)=some true)
  (hs:∀(a:Addr) (oe:Obj),oe.cls=.ref (cl n)→∃t,PSs (X.held a oe) (b₀::suite) t∧VS t F) (hd:(x==("__debug__" : Str))=false:=by decide):HB2 cl X (.ExceptHandler (some (.Name x np)) none (b₀::suite) pos::rest) n F:=by
 intro pins s σ H U O ρ D a o L sr e q;obtain ⟨B,t0,I,fl,kp⟩:=id L;refine wpAny_handleBy_cons (codeAny_handlers_test (ld_globA I hg hm ?_ hd)) (by intro z;cases z);refine (PySem.W.exm_one I.kIn (look_at fl.there) he).at ?_;refine codeAny_handlers_suite ?_;refine lands_againW fl fun h6 fl6 up6=>?_;have I6:=I.fly hex fl.1 kp fl6.1 up6;obtain ⟨oe,vs,hoe,hoc,hod,_⟩:=fl6.first;have nst:a∉frs X.stack:=fun z=>by
  obtain ⟨_,o',ho',hnf⟩:=I6.stack.mem z;have e:=hoe.symm.trans ho';cases e;exact hnf vs hod
 have nB:∀c,(c→∃o,B.get? a=some o)→¬c:=fun c h z=>by
  obtain ⟨o,e⟩:=h z;rw [fl6.2.1] at e;cases e
 have hHa:H a=none:=by
  cases z:H a with
  | none=>rfl
  | some u=>exact (nB (H a≠none) (fun z=>kp a (.inl z) nst) (by rw [z];intro y;cases y)).elim
 have hla:a≠X.env.locals:=fun z=>by
  obtain ⟨m,⟨o',es,ep,ho',hd',_⟩,_⟩:=I6.loc;rw [←z,hoe] at ho';cases ho';rw [hod] at hd';cases hd'
 have hfa:a∉X.fs:=fun z=>by
  obtain ⟨_,o0,ho0,_⟩:=I.ok.funs.mem z;exact nB (X.s₀.heap.get? a≠none) (fun z=>kp a (.inr (.inl z)) nst) (by rw [ho0];intro y;cases y)
 have I7:Inv (X.held a oe) pins σ H { s with heap:=h6 }:=I6.held ⟨hoe,hHa,hla,hfa,fun v z=>by rw [hod] at z;cases z⟩;obtain ⟨t,ht,hv⟩:=hs a oe hoc;have hq:=hv U O H _ _ D o sr e q;refine wpAny_mono (ht pins _ _ H _ I7 hq) (fun f s9 sp=>?_) fun _ _ z=>z.elim;cases f with
 | next =>
  obtain ⟨σ',H',I9,z⟩:=sp;exact ⟨_,H',I9.unheld I.ok,z⟩
 | brk =>
  obtain ⟨σ',H',I9,z⟩:=sp;exact ⟨_,H',I9.unheld I.ok,z⟩
 | cont =>
  obtain ⟨σ',H',I9,z⟩:=sp;exact ⟨_,H',I9.unheld I.ok,z⟩
 | ret u =>
  obtain ⟨v,σ',H',I9,r,z⟩:=sp;exact ⟨v,_,H',I9.unheld I.ok,r,z⟩
end
theorem hf_gen {i:Nat}{Fs:Addr→VF}{p:PV}(h:∀(a:Addr) (ρ:PEnv),i < ρ.length→Fs a (ρ.set i (some (.adr a,.shr)))=some (.rt p false)):∀(a:Addr) (ρ:PEnv) (o:Out),i < ρ.length→vRet (xC p) false ρ=some o→∃o',Fs a (ρ.set i (some (.adr a,.shr)))=some o'∧o=unsetO i o':=by
 intro a ρ o hl e;have e1:vRet (xC p) false ρ=some (.rt p false):=rfl;rw [e1] at e;cases e;exact ⟨.rt p false,h a ρ hl,rfl⟩
theorem isx_at {i:Nat}{a:Addr}{b:Bool}{ρ:PEnv}(hl:i < ρ.length):x1 (pIsX a b) (xVarS i) (ρ.set i (some (.adr a,.shr)))=some (.bl b):=by
 unfold x1 xVarS;rw [Zk1 hl];exact E_isX a b
section
variable {X:Cx}{k:Nat}{f C D a:Addr}{fd:FuncData}{ps:List Str}{sp:Addr→Sp}{m:Str}{o:Expr}{ap pos:Pos}{ta:TE}{oe:Obj}
theorem pe_methH0 {pl:Sem Bool}(he:PE X o ta) (c:Cls X.K C) (hm:Meth X.K C m f) (F:FnOkH X.prog X.w X.K X.mg X.base k f fd ps D sp) (hr:RoomH k X.A) (hp:(a,oe)∈X.pn) (hoe:oe.cls=.ref D) (hb:Binds X.K fd ps [])
  (ht:eval (.Call (.Attribute o m ap) [] [] pos) X.env=(do
   let ov ←eval o X.env
   standAt ap.atName
   let (f,first) ←holding [ov] (getMethod ov m pl)
   callWith pos f first (backTo pos (starEach [] X.env)) (backToKw pos (keywordEach [] X.env)))) :
  PE X (.Call (.Attribute o m ap) [] [] pos) (tMeth C m (sp a) [] E0 ta tNil):=by
 intro pins s σ H Q I h;refine PySem.W.methodCall_KW (pl:=pl) (thn (he pins s σ H _ I h) fun u s1 ⟨x,H1,I1,rx,b,dx,fs,ex,ea,l,q⟩=>?_) ht;subst ex;obtain rfl:u=Value.ref b:=rx;refine getmeth_ok I1 ea c hm l ?_;refine PySem.W.callWith_K0 (first:=[.ref b]) I1.kIn hm.kp ?_;have q:sp a [.ref b] H1 Q E0:=q;have r:Vals [V.ref b] [Value.ref b]:=.cons rfl .nil;have hl:[Value.ref b].length=ps.length:=by rw [←r.length];exact F.len _ _ _ _ _ q
 obtain ⟨p1,p2,p3,p4,p5⟩:=I1.pin (a,oe) (List.mem_append_left _ hp);have pst:a∉frs X.stack:=by
  rcases I1.ok.stk with z|⟨z,z2⟩
  ·rw [z];exact p4
  ·rw [z]
   unfold frs;rw [List.filterMap_cons,z2];intro m;rcases Zk.mp m with m|m
   ·exact p3 m
   ·exact p4 m
 have bb:BindsTo s1 fd ⟨[.ref b],[]⟩ (ps.zip [.ref b]):=by have:=hb s1 [.ref b] I1.kIn (by rw [List.append_nil];exact hl);rwa [List.append_nil] at this
 refine wpAny_call (codeAny_mono (F.run X.A X.stack s1 H1 ⟨[.ref b],[]⟩ [.ref b] [.ref b] Q E0 a oe hr I1.env0 ⟨p1,p2,pst,p5,hoe⟩ bb r q) fun r s' hq=>?_);cases r with
 | error e=>exact False.elim hq
 | ok fl =>
  cases fl with
  | ret u=>exact I1.after hq
  | next=>exact False.elim hq
  | brk=>exact False.elim hq
  | cont=>exact False.elim hq
end
def dNeM (f:PV→List PV→Option (PV×PV)) (fa:VL) (g:VX) (c:PV):DF:=fun ρ p=>if nb ρ then (fa ρ).bind fun ps=>(f p ps).bind fun qp=>(g ρ).bind fun z=>match qp.1,z with
 | .int i,.int j=>if i=j then some (.nx ρ qp.2) else some (.rt c)
 | _,_=>none else none
section
variable {i:Nat}{C:Addr}{nm:List Str}{hs:Nat→Sh}{m:Str}{E:XK}{t:TA}{fa:VL}{f:PV→List PV→Option (PV×PV)}{te:TE}{g:VX}{c:PV}{tc:TE}
theorem vd_neM (hm:nm.contains m=false) (ha:VA false t fa) (hg:VE .shr te g) (hc:VE .shr tc (xC c)):VD i (.o C nm hs) (tIfS (tTest (tOp rNe (tMeth C m (spM (.o C nm hs) f) [] E (tVar i) t) te)) (tRet tc) tNext) (dNeM f fa g c):=by
 intro U P H σ ρ p a D o sd e q;unfold dNeM at e;by_cases hn:nb ρ=true
 case neg=>rw [if_neg hn] at e;cases e
 rw [if_pos hn] at e;obtain ⟨ps,hps,e1⟩:=Za.mp e;obtain ⟨⟨q0,p'⟩,hf,e2⟩:=Za.mp e1;obtain ⟨z,hz,e3⟩:=Za.mp e2;clear e e1 e2;obtain ⟨x,y,rfl,rfl⟩:∃x y,q0=.int x∧z=.int y:=by
  cases q0<;>cases z<;>simp only at e3<;>first|cases e3|exact ⟨_,_,rfl,rfl⟩
 have e:(if x=y then some (DO.nx ρ p') else some (DO.rt c))=some o:=e3;refine callM hm ha sd hn hps hf fun v U' P' H' sd' tr rv=>?_;obtain rfl:=rep_int.mp rv;obtain ⟨O,fs,s',tk,d,nd,ds,hP⟩:=id sd'.h;refine hg U' O H' σ ρ _ (.int y) s' hz fun w H2 U2 ex2 r2=>?_;obtain rfl:=rep_int.mp (show Rep U2 H2 (.int y) w from r2);have sd2:=sd'.ext ex2;have tr2:=tr.trans (ex2.tr (O:=P'));refine ⟨rfl,_,rfl,?_⟩;by_cases hxy:x=y
 ·subst hxy
  rw [if_pos rfl] at e;cases e;simp only [decide_true,Bool.not_true,Bool.false_eq_true,if_false];exact q U2 P' H2 σ sd2 tr2
 ·rw [if_neg hxy] at e
  cases e;have:¬V.int x=V.int y:=fun z=>hxy (by injection z);simp only [this,decide_false,Bool.not_false,if_true];obtain ⟨O2,fs2,s2,_⟩:=id sd2.h;exact hc U2 O2 H2 σ ρ _ c s2 rfl fun u H3 U3 ex3 r3=>q U3 P' H3 u (tr2.trans (ex3.tr (O:=P'))) r3
end
section
variable {X:Cx}{e b c:Expr}{es:List Expr}{p p1 p2 p3 ap pos:Pos}{fa:VL}{g:VX}{k j i:Nat}{x y:Str}{C:Addr}{pl:Sem Bool}{cv:PV}
theorem qdneM {f:PV→List PV→Option (PV×PV)}(F:CM X.prog X.w X.K X.mg X.base CX0 C y k (spM (hSh C) f)) (hr:Room j X.A) (hk:k≤j) (q:PE X (.Name x p) (tVar i)) (ha:QA X false (e::es) fa) (hb:QE X .shr b g) (hc:QE X .shr c (xC cv)) (hm:hNm.contains y=false) (hst:starEach (e::es) X.env=(false,eval e X.env)::starEach es X.env) (hpl:(backTo pos (starEach es X.env)).any (·.1)=false) (hbm:behindInMarks .NotEq b=false)
  (ht:eval (.Call (.Attribute (.Name x p) y ap) (e::es) [] pos) X.env=(do
   let ov ←eval (.Name x p) X.env
   standAt ap.atName
   let (f,first) ←holding [ov] (getMethod ov y pl)
   callWith pos f first (backTo pos (starEach (e::es) X.env)) (backToKw pos (keywordEach [] X.env))):=by rfl) :
  QD X (.If (.Compare (.Call (.Attribute (.Name x p) y ap) (e::es) [] pos) [.NotEq] [b] p1) [.Return (some c) p2] [] p3) i (hSh C) (dNeM f fa g cv):=by
 obtain ⟨_,_,_,F1,F2,F3⟩:=F.h;obtain ⟨_,a1,a2⟩:=ha.h;obtain ⟨_,b1,b2⟩:=hb.h;obtain ⟨_,c1,c2⟩:=hc.h;exact ⟨_,ps_if (pt_cmpR op_ne (pe_meth q F.c F2 F1 (hr.mono hk) F3 .nil pass0 a1 hst hpl ht) b1 hbm) (pss_one (ps_ret c1)) pss_nil,vd_neM hm a2 b2 c2⟩
end
section
variable {X:Cx}{a elt target iter:Expr}{ifs:List Expr}{p p2 pos pos2 py:Pos}{fa:VL}{l:List Str}{cl:Nat→Addr}{u:PEnv→Option Nat}{y x:Str}{pm r:Bool}
theorem qlrng (hB:Blt X.mg l) (hc:X.calm=true) (ha:QA X true [a] fa) (hl:l.contains "list" = true:=by rfl) (hl2:l.contains "range" = true:=by rfl) (hg:Gl X "list":=by rfl) (hg2:Gl X "range":=by rfl)
  (hs:starEach [.Call (.Name "range" p2) [a] [] pos2] X.env=(false,eval (.Call (.Name "range" p2) [a] [] pos2) X.env)::starEach [] X.env:=by rfl) (hs2:starEach [a] X.env=(false,eval a X.env)::starEach [] X.env:=by rfl) (hp1:(backTo pos (starEach [] X.env)).any (·.1)=false:=by rfl) (hp2:(backTo pos2 (starEach [] X.env)).any (·.1)=false:=by rfl) :
  QE X .fr (.Call (.Name "list" p) [.Call (.Name "range" p2) [a] [] pos2] [] pos) (xL pLstR fa):=by
 obtain ⟨_,a1,a2⟩:=ha.h;exact ⟨_,pe_callTy (call_listR hc) hg (hB.h _ hl) (by decide +kernel) (pa_cons (pe_callTy call_rangeO hg2 (hB.h _ hl2) (by decide +kernel) a1 (by decide) (by decide) hs2 hp2) pa_nil hs) (by decide) (by decide) hs hp1,ve_lrng a2⟩
theorem rcomp1 {scope:Scope}{outer:List (Str×NameKind)}{N:List Str}(cs:CSc X outer N) (hok:compOkA scope outer N (.Name x py) [none]=true) (h:RE cl X iter u) (hs:∀x,foldedSetIterable iter X.env x=pure x:=by intro _;rfl):RE cl X (.ListComp elt [⟨.Name x py,iter,ifs,0⟩] scope p) u:=rcomp cs hok h hs
end
end L2
local macro_rules | `(tactic| tm_at "qO") => `(tactic| first | with_reducible apply L2.o_sub | with_reducible apply L2.o_div | with_reducible apply L2.o_mod | with_reducible apply L2.o_rep | with_reducible apply L2.o_pow )
local macro_rules | `(tactic| tm_at "qOC") => `(tactic| first | with_reducible apply L2.o_eq | with_reducible apply L2.o_ne | with_reducible apply L2.o_lt | with_reducible apply L2.o_le | with_reducible apply L2.o_gt | with_reducible apply L2.o_ge | with_reducible apply L2.o_le_str | with_reducible apply L2.o_notIn_seqK | with_reducible apply L2.o_eqL )
local macro_rules | `(tactic| tm_at "qC") => `(tactic| first | with_reducible apply L2.c_lenD | with_reducible apply L2.c_len | with_reducible apply L2.c_lenS | with_reducible apply L2.c_all | with_reducible apply L2.c_list | with_reducible apply L2.c_tupO | with_reducible apply L2.c_srtDz | with_reducible apply L2.c_srtDs | with_reducible apply L2.c_intB )
local macro_rules | `(tactic| tm_at "qX") => `(tactic| first | with_reducible apply L2.x_list )
local macro_rules | `(tactic| tm_at "q") => `(tactic| first | ((intros; with_reducible show L2.QN _ _ _ _ _); (first | (apply L2.qnmake; assumption) ) <;> tm_at "q") | ((intros; with_reducible show L2.QMr _ _ _ _ _ _); (first | apply L2.qmr1 | apply L2.qmrc) <;> tm_at "q") | ((intros; with_reducible show L2.QD _ _ _ _ _); (first | (apply L2.qdneM; assumption) | (apply L2.qdappO; assumption; assumption) | apply L2.qdsetC | apply L2.qdfor | apply L2.qdlift) <;> tm_at "q") | ((intros; with_reducible show L2.QDs _ _ _ _ _); (first | apply L2.qds1 ) <;> tm_at "q") | ((intros; with_reducible show L2.QDL _ _ _ _ _); (first | apply L2.qdlc | apply L2.qdle) <;> tm_at "q") | ((intros; with_reducible show L2.QE _ _ _ _); (first | exact L2.qint | exact L2.qstr | apply L2.qvS | apply L2.qv | (apply L2.qop; tm_at "qO") | (apply L2.qix; tm_at "qX") | (apply L2.qcmp; tm_at "qOC") | (apply L2.qcS; assumption) | (apply L2.qcF; assumption) | (apply L2.qlrng; assumption) | (apply L2.QE.sh; apply L2.qlrng; assumption) | exact L2.qbl | apply L2.qlst | apply L2.qtup | (apply L2.qmethS0; assumption) | (apply L2.qfld; assumption; assumption) | (apply L2.qb; assumption; tm_at "qC") | (apply L2.qbT; assumption; tm_at "qC") | (apply L2.qcompI; assumption; tm_at "qk") | (apply L2.qcomp; apply L2.qc; assumption; tm_at "qk") | apply L2.qsl | (apply L2.qglob; assumption) | apply L2.qneg | apply L2.qand | apply L2.qor | apply L2.qone | apply L2.qchain | apply L2.qdget | apply L2.qdisp1 | exact L2.qdnew | (apply L2.QE.sh; exact L2.qdnew) | (apply L2.QE.sh; first | apply L2.qlst | (apply L2.qcF; assumption) | (apply L2.qcompI; assumption; tm_at "qk") | (apply L2.qcomp; apply L2.qc; assumption; tm_at "qk") | apply L2.qdisp1 | apply L2.qsl | (apply L2.qop; tm_at "qO") | (apply L2.qmethS0; assumption) | (apply L2.qfld; assumption; assumption) | (apply L2.qb; assumption; tm_at "qC") | (apply L2.qbT; assumption; tm_at "qC") )) <;> tm_at "q") | ((intros; with_reducible show L2.QA _ _ _ _); (first | exact L2.qa0 | apply L2.qaS | apply L2.qaB | apply L2.qks ) <;> tm_at "q") | ((intros; with_reducible show L2.PE _ _ _); (first | apply L2.pv) <;> tm_at "q") | ((intros; with_reducible show L2.QS _ _ _); (first | apply L2.qif | apply L2.qretS | apply L2.qretF | apply L2.qretO | exact L2.qnever | apply L2.qsetS | apply L2.qsetO | apply L2.qfor | apply L2.qdput | apply L2.qdupd | apply L2.qdrop) <;> tm_at "q") | ((intros; with_reducible show L2.QB _ _ _); (first | exact L2.qb0 | apply L2.qb1 | apply L2.qnew | apply L2.qbc | exact L2.qbN) <;> tm_at "q") | ((intros; with_reducible show L2.QT _ _ _); (first | (apply L2.qtcmp; tm_at "qOC") | apply L2.qtdin | apply L2.qtdnotin | apply L2.qtnot | (apply L2.qtw; first | apply L2.qwor ) | apply L2.qtv) <;> tm_at "q") | ((intros; with_reducible show L2.QW _ _ _); (first | apply L2.qwor | apply L2.qwor1 ) <;> tm_at "q") | ((intros; with_reducible show L2.QF _ _ _); (first | exact L2.qf0 | apply L2.qf1) <;> tm_at "q") | ((intros; with_reducible show L2.QI _ _ _ _); (first | apply L2.qil | apply L2.qit | apply L2.qir1 | apply L2.qir3 | apply L2.qie | apply L2.qis) <;> tm_at "q") | ((intros; with_reducible show L2.QG _ _ _); (first | apply L2.qgn | apply L2.qgt) <;> tm_at "q") | ((intros; with_reducible show L2.QGs _ _ _); (first | exact L2.qgs0 | apply L2.qgs1) <;> tm_at "q") | ((intros; with_reducible show L2.QO _ _ _); (first | exact L2.qo0 | apply L2.qo1) <;> tm_at "q") | ((intros; with_reducible show L2.RB _ _ _ _ _ _); (first | exact L2.rb0 | apply L2.rbc | apply L2.rb1) <;> tm_at "q") | ((intros; with_reducible show L2.R1 _ _ _ _ _ _); (first | exact L2.rq0 | apply L2.rif | apply L2.rexpr | apply L2.rret | apply L2.rset | apply L2.rraise) <;> tm_at "q") | ((intros; with_reducible show L2.RE _ _ _ _); (first | (apply L2.rcall; exact fun _ _ z => z; assumption) | (apply L2.rmeth; exact fun _ _ z => z; assumption) | apply L2.rix | (apply L2.rcomp1; assumption) | (apply L2.rcomp; assumption)) <;> tm_at "q") | ((with_reducible show (_ == _) = false); decide) | ((with_reducible show List.contains _ _ = true); decide +kernel) | ((with_reducible show L2.compOkA _ _ _ _ _ = true); decide +kernel) | ((with_reducible show PySem.bootBuiltins _ = _); decide +kernel) | ((with_reducible show L2.OC _ _ _ _); (tm_at "qOC") <;> tm_at "q") | exact rfl | exact fun _ => rfl | assumption | exact Or.inl rfl | exact Or.inr rfl | exact Or.inr (Or.inl rfl) | exact Or.inr (Or.inr rfl) | exact L2.nomark _ | decide | exact PySem.PassesOwn.never | exact fun _ _ z => z | exact fun _ _ => rfl | exact ⟨_, fun _ => ⟨rfl, by decide⟩⟩ | omega | decide +kernel | with_unfolding_all rfl | (apply Or.inl; tm_at "q") | exact fun h hm => L2.pi_rangeD rfl hm h | exact fun _ _ _ _ => rfl | (trace_state; fail))
local macro_rules | `(tactic| tm_at "qk") => `(tactic| decide +kernel)
local macro_rules | `(tactic| tm_at "qsc") => `(tactic| exact ⟨rfl, rfl, rfl, by decide +kernel, rfl, by decide +kernel, by decide +kernel⟩)
local macro_rules | `(tactic| tm_at "qD") => `(tactic| (intros; tm_at "q"))
local macro_rules | `(tactic| tm_at "evd") => `(tactic| (first | omega | (simp only [Zd, Zp, Zq, List.length_nil, List.length_replicate, Zu, Zq1, List.length_drop, List.length_reverse] at *; omega)))
local macro_rules | `(tactic| tm_at "ev") => `(tactic| simp (discharger := tm_at "evd") only [L2.E_seq, L2.E_seq_nx, L2.E_seq_rt, L2.E_seq_bk, L2.E_seq_ct, L2.E_if, L2.E_if_t, L2.E_if_f, L2.E_ifX, L2.E_ifX_t, L2.E_ifX_f, L2.E_and, L2.E_and_t, L2.E_and_f, L2.E_or, L2.E_or_t, L2.E_or_f, L2.E_x1, L2.E_x1s, L2.E_x2, L2.E_x2s, L2.E_xL, L2.E_xLs, L2.E_lc, L2.E_lcs, L2.E_ln, L2.E_c, L2.E_var, L2.E_var_s, L2.E_varS, L2.E_varS_s, L2.E_bOf, L2.E_bOf_s, L2.E_not, L2.E_not_s, L2.E_xB, L2.E_xB_s, L2.E_true, L2.E_ret, L2.E_ret_s, L2.E_retO, L2.E_retO_s, L2.E_setS, L2.E_setO, L2.E_set_s, L2.E_setW, L2.E_setW_l, L2.E_setW_t, L2.E_setW_b, L2.E_setW_n, L2.E_setW_i, L2.E_drop, L2.E_drop_s, L2.E_skip, L2.E_brk, L2.E_cnt, L2.E_app, L2.E_app_s, L2.E_ext, L2.E_ext_s, L2.E_aug, L2.E_aug_s, L2.E_unp, L2.E_unp_s, L2.E_nxO, L2.E_gN, L2.E_gT, L2.E_gA0, L2.E_gA, L2.E_par, L2.E_par_s, L2.E_sl, L2.E_sl_s, L2.E_oN, L2.E_oS, L2.E_oS_s, L2.E_for, L2.E_for_s, L2.E_ch, L2.E_ch_s, L2.E_ch_t, L2.E_ch_f, L2.E_bm, L2.E_bm_s, L2.E_mx, L2.E_mx_s, L2.E_rev, L2.E_rev_s, L2.e_add, L2.e_sub, L2.e_neg, L2.e_eqi, L2.e_eqs, L2.e_eqb, L2.e_nei, L2.e_nes, L2.e_le, L2.e_lt, L2.e_gt, L2.e_ge, L2.e_max2, L2.e_isB, L2.e_isI, L2.e_lenl, L2.e_lent, L2.e_lens, L2.e_lenS, L2.e_ixl, L2.e_ixt, L2.e_notN, L2.e_notNn, L2.e_isN, L2.e_isNs, L2.e_isNl, L2.e_mk0, L2.e_mk1, L2.e_mk2, L2.e_mk3, L2.e_mt0, L2.e_mt1, L2.e_mt2, L2.e_mt3, L2.e_mod, L2.e_div, L2.e_mul, L2.e_mulR, L2.e_ixs, L2.e_ms, L2.e_mk4, L2.e_isiL, L2.e_isiT, L2.e_isiS, L2.e_intB, L2.e_list, L2.e_sm, L2.e_cat, L2.e_all, decide_true, decide_false, Zh, List.map_nil, List.cons_append, List.nil_append, Zq, List.length_nil, Nat.reduceAdd, Nat.reduceSub, List.getElem?_cons_zero, List.getElem?_cons_succ, List.set_cons_zero, List.set_cons_succ, if_true, if_false, Bool.false_eq_true, Bool.not_true, Bool.not_false, Bool.and_false, Bool.and_true, Bool.true_and, Bool.false_and])
namespace K29
open PySem L2
variable [HC]
def top (i:Nat):Stmt:=PySem.Challenge.pw_pasthall_k29_refusals_of_webs.main.body.getD i (.Pass ⟨0,0,0,0⟩)
abbrev s__law_cell_at:Stmt:=top 47
abbrev s_History_many:Stmt:=inClass (top 40) 1
abbrev s_is_line:Stmt:=top 31
abbrev s_is_path:Stmt:=top 35
abbrev s_is_row:Stmt:=top 32
abbrev s_is_tree:Stmt:=top 36
abbrev s_check_tree:Stmt:=top 37
abbrev s_copied_tree:Stmt:=top 38
abbrev s_are_elders:Stmt:=top 9
abbrev s_History_put_version:Stmt:=inClass (top 40) 3
abbrev s__law_full:Stmt:=top 50
abbrev s_is_web:Stmt:=top 10
abbrev s_check_web:Stmt:=top 11
abbrev s_is_version:Stmt:=top 12
abbrev s_check_versions:Stmt:=top 13
abbrev s_elders_of:Stmt:=top 14
abbrev s_above:Stmt:=top 15
abbrev s_below:Stmt:=top 16
abbrev s_between:Stmt:=top 17
abbrev s_check_some:Stmt:=top 20
abbrev s_common_paper:Stmt:=top 24
abbrev s_latest_common:Stmt:=top 23
abbrev s_common_holds:Stmt:=top 27
abbrev s_ways:Stmt:=top 43
abbrev s_must_pass:Stmt:=top 44
abbrev s_first_way:Stmt:=top 45
abbrev s_ends:Stmt:=top 18
abbrev s__law_asked:Stmt:=top 48
abbrev s__law_kind:Stmt:=top 49
abbrev s_law:Stmt:=top 51
abbrev s_History:Stmt:=inClass (top 40) 0
set_option genInjectivity false in
structure Prg (K:PySem.W.Frag) (mg:Str→Option Value) where
 bl:Blt mg ["ValueError","all","enumerate","int","isinstance","len","list","range","sorted","tuple"]
 c_PastError:Addr
 mc_PastError:mg "PastError" = some (.ref c_PastError)
 c_BadTree:Addr
 mc_BadTree:mg "BadTree" = some (.ref c_BadTree)
 c_BadWeb:Addr
 mc_BadWeb:mg "BadWeb" = some (.ref c_BadWeb)
 ec_BadWeb:PySem.W.excIn K c_BadWeb [.type "ValueError",.type "Exception",.type "BaseException",.type "object"] "ValueError.__new__" = true
 c_NoVersion:Addr
 mc_NoVersion:mg "NoVersion" = some (.ref c_NoVersion)
 ec_NoVersion:PySem.W.excIn K c_NoVersion [.type "ValueError",.type "Exception",.type "BaseException",.type "object"] "ValueError.__new__" = true
 c_NoFile:Addr
 mc_NoFile:mg "NoFile" = some (.ref c_NoFile)
 xm_BadWeb_BadWeb:PySem.W.exmOne K (.ref c_BadWeb) (.ref c_BadWeb)=some true
 xm_BadWeb_PastError:PySem.W.exmOne K (.ref c_BadWeb) (.ref c_PastError)=some true
 xm_NoVersion_PastError:PySem.W.exmOne K (.ref c_NoVersion) (.ref c_PastError)=some true
 kb_BadWeb_BadTree:PySem.W.kitOne K (.ref c_BadWeb) (.ref c_BadTree)=some false
 kb_BadWeb_BadWeb:PySem.W.kitOne K (.ref c_BadWeb) (.ref c_BadWeb)=some true
 kb_BadWeb_NoFile:PySem.W.kitOne K (.ref c_BadWeb) (.ref c_NoFile)=some false
 kb_BadWeb_NoVersion:PySem.W.kitOne K (.ref c_BadWeb) (.ref c_NoVersion)=some false
 kb_BadWeb_ValueError:PySem.W.kitOne K (.ref c_BadWeb) (.type "ValueError")=some true
 kb_NoVersion_BadTree:PySem.W.kitOne K (.ref c_NoVersion) (.ref c_BadTree)=some false
 kb_NoVersion_BadWeb:PySem.W.kitOne K (.ref c_NoVersion) (.ref c_BadWeb)=some false
 kb_NoVersion_NoFile:PySem.W.kitOne K (.ref c_NoVersion) (.ref c_NoFile)=some false
 kb_NoVersion_NoVersion:PySem.W.kitOne K (.ref c_NoVersion) (.ref c_NoVersion)=some true
 kb_NoVersion_ValueError:PySem.W.kitOne K (.ref c_NoVersion) (.type "ValueError")=some true
 ex_BadWeb:PySem.W.ExCls K c_BadWeb
 ex_NoVersion:PySem.W.ExCls K c_NoVersion
 g_MOST_LINES:∃u,mg "MOST_LINES" = some u∧RelV (V.int 40) u
 g_MOST_SIGNS:∃u,mg "MOST_SIGNS" = some u∧RelV (V.int 8) u
 g_MOST_FILES:∃u,mg "MOST_FILES" = some u∧RelV (V.int 8) u
 g_MOST_VERSIONS:∃u,mg "MOST_VERSIONS" = some u∧RelV (V.int 40) u
 g_MOST_ELDERS:∃u,mg "MOST_ELDERS" = some u∧RelV (V.int 3) u
 mc_History:mg "History" = some (.ref HC.c)
 DI:DfI K HC.c s_History
 D__law_cell_at:Df K mg "_law_cell_at" s__law_cell_at ["script","k"]
 D_History_many:DfM K HC.c "many" "History.many" s_History_many ["self"]
 D_is_line:Df K mg "is_line" s_is_line ["text"]
 D_is_path:Df K mg "is_path" s_is_path ["text"]
 D_is_row:Df K mg "is_row" s_is_row ["row"]
 D_is_tree:Df K mg "is_tree" s_is_tree ["tree"]
 D_check_tree:Df K mg "check_tree" s_check_tree ["tree"]
 D_copied_tree:Df K mg "copied_tree" s_copied_tree ["tree"]
 D_are_elders:Df K mg "are_elders" s_are_elders ["elders","version"]
 D_History_put_version:DfM K HC.c "put_version" "History.put_version" s_History_put_version ["self","elders","tree"]
 D__law_full:Df K mg "_law_full" s__law_full ["cell"]
 D_is_web:Df K mg "is_web" s_is_web ["web"]
 D_check_web:Df K mg "check_web" s_check_web ["web"]
 D_is_version:Df K mg "is_version" s_is_version ["web","version"]
 D_check_versions:Df K mg "check_versions" s_check_versions ["web","some"]
 D_elders_of:Df K mg "elders_of" s_elders_of ["web","some"]
 D_above:Df K mg "above" s_above ["web","version"]
 D_below:Df K mg "below" s_below ["web","version"]
 D_between:Df K mg "between" s_between ["web","one","other"]
 D_check_some:Df K mg "check_some" s_check_some ["web","some"]
 D_common_paper:Df K mg "common_paper" s_common_paper ["web","some"]
 D_latest_common:Df K mg "latest_common" s_latest_common ["web","some"]
 D_common_holds:Df K mg "common_holds" s_common_holds ["web","some","paper"]
 D_ways:Df K mg "ways" s_ways ["web","one","other"]
 D_must_pass:Df K mg "must_pass" s_must_pass ["web","one","other"]
 D_first_way:Df K mg "first_way" s_first_way ["web","one","other"]
 D_ends:Df K mg "ends" s_ends ["web"]
 D__law_asked:Df K mg "_law_asked" s__law_asked ["web","version","way"]
 D__law_kind:Df K mg "_law_kind" s__law_kind ["web","version","way"]
def Prg.cl {K:PySem.W.Frag}{mg:Str→Option Value}(T:Prg K mg):Nat→Addr
 | 0=>T.c_PastError
 | 1=>T.c_BadTree
 | 2=>T.c_BadWeb
 | 3=>T.c_NoVersion
 | 4=>T.c_NoFile
 | _=>0
theorem Prg.X_BadWeb {K:PySem.W.Frag}{mg:Str→Option Value}(T:Prg K mg):Xc K mg T.cl "BadWeb" 2:=⟨T.mc_BadWeb,T.ec_BadWeb⟩
theorem Prg.X_NoVersion {K:PySem.W.Frag}{mg:Str→Option Value}(T:Prg K mg):Xc K mg T.cl "NoVersion" 3:=⟨T.mc_NoVersion,T.ec_NoVersion⟩
def m__law_cell_at:VF:=(vSeq (vIf (bOf (x2 pLt (xVarS 1) (xL pLen (lCons (xVarS 0) lNil))))
 (vRet (x2 pIxL (xVarS 0) (xVarS 1)) false)
 vSkip)
 (vRet (xC (.int (0))) false))
def f__law_cell_at:List PV→Option PV:=fnM 2 2 false m__law_cell_at
def m_History_many:VF:=(vRet (xL pLen (lCons (x1 (pFld HC.c "elders") (xVarS 0)) lNil)) false)
def f_History_many:List PV→Option PV:=onC HC.c "many" (fnM 1 1 false m_History_many)
def m_is_line:VF:=(vRet (xB (bAnd (bOf (x2 pLe (xL pLenS (lCons (xVarS 0) lNil)) (xC (.int (8))))) (bOf (xL pAll (lCons (xComp [none] (itS (xVarS 0)) (gN 0) bTrue (xChain pLeS pLeS (xC (.str "a")) (xVarS 0) (xC (.str "z")))) lNil))))) false)
def f_is_line:List PV→Option PV:=fnM 1 1 false m_is_line
def m_is_path:VF:=(vRet (xB (bAnd (bOf (x2 pNe (xVarS 0) (xC (.str "")))) (bOf (xL f_is_line (lCons (xVarS 0) lNil))))) false)
def f_is_path:List PV→Option PV:=fnM 1 1 false m_is_path
def m_is_row:VF:=(vRet (xB (bAnd (bOf (x2 pLe (xL pLen (lCons (xVarS 0) lNil)) (xC (.int (40))))) (bOf (xL pAll (lCons (xComp [none] (itL (xVarS 0)) (gN 0) bTrue (xL f_is_line (lCons (xVarS 0) lNil))) lNil))))) false)
def f_is_row:List PV→Option PV:=fnM 1 1 false m_is_row
def m_is_tree:VF:=(vSeq (vIf (bOf (x2 pGt (xL pLenD (lCons (xVarS 0) lNil)) (xC (.int (8)))))
 (vRet (xC (.bl false)) false)
 vSkip)
 (vRet (xL pAll (lCons (xComp [none,none] (itD ixs 0) (gT [0,1]) bTrue (xB (bAnd (bOf (xL f_is_path (lCons (xVarS 0) lNil))) (bOf (xL f_is_row (lCons (xVarS 1) lNil)))))) lNil)) false))
def f_is_tree:List PV→Option PV:=fnM 1 1 false m_is_tree
def m_check_tree:VF:=(vIf (bNot (bOf (xL f_is_tree (lCons (xVarS 0) lNil))))
 vNone
 vSkip)
def f_check_tree:List PV→Option PV:=fnM 1 1 false m_check_tree
def m_copied_tree:VF:=(vSeq (vSetO 1 (fun _=>some (.dct [])))
 (vSeq (vFor (itL (xL pSrtDs (lCons (xVarS 0) lNil))) (gN 2)
 (vDPut 1 (xVarS 2) (xL pList (lCons (xDGet (xVarS 0) (xVarS 2)) lNil))))
 (vRetO 1)))
def f_copied_tree:List PV→Option PV:=fnM 1 3 true m_copied_tree
def m_are_elders:VF:=(vSeq (vSetS 2 (x1 pNeg (xC (.int (1)))))
 (vSeq (vFor (itT (xVarS 0)) (gN 3)
 (vSeq (vIf (bOr (bOf (x2 pLe (xVarS 3) (xVarS 2))) (bOf (x2 pGe (xVarS 3) (xVarS 1))))
 (vRet (xC (.bl false)) false)
 vSkip)
 (vSetS 2 (xVarS 3))))
 (vRet (x2 pLe (xL pLen (lCons (xVarS 0) lNil)) (xC (.int (3)))) false)))
def f_are_elders:List PV→Option PV:=fnM 2 4 false m_are_elders
def m_History_put_version:DF:=(dSeq (dSetC 0 3 (xL f_History_many (lCons (xVar 0) lNil)))
 (dSeq (dLift 0 (vIf (bOr (bOf (x2 pGe (xVarS 3) (xC (.int (40))))) (bNot (bOf (xL f_are_elders (lCons (xVarS 1) (lCons (xVarS 3) lNil))))))
 vNone
 vSkip))
 (dSeq (dLift 0 (vDrop (xL f_check_tree (lCons (xVarS 2) lNil))))
 (dSeq (dAppO 0 (xVarS 1))
 (dSeq (dAppO 1 (xL f_copied_tree (lCons (xVarS 2) lNil)))
 dSkip)))))
def f_History_put_version:PV→List PV→Option (PV×PV):=fnMut 3 4 m_History_put_version (xVarS 3)
def g_History_put_version:VR:=(gSeq (vSetS 3 (xL f_History_many (lCons (xVarS 0) lNil)))
 gNone
 (gIf (bOr (bOf (x2 pGe (xVarS 3) (xC (.int (40))))) (bNot (bOf (xL f_are_elders (lCons (xVarS 1) (lCons (xVarS 3) lNil))))))
 (gRaise 2)
 gNone))
def x_History_put_version:List PV→Option Nat:=onX HC.c "put_version" (gnM 3 4 g_History_put_version)
def m__law_full:VF:=(vNewB 1 (fun _=>some (hist HC.c [] []))
 (dThen (dFor 1 (itR1 (lCons (xC (.int (40))) lNil)) (gN 2)
 (dNeM f_History_put_version (lCons (xL pTupO (lCons (xSl (xComp [none] (itL (xL mkLst (lCons (x2 pSub (x2 pSub (xVarS 2) (xC (.int (1)))) (x2 pMod (xVarS 0) (xC (.int (3))))) (lCons (x2 pSub (xVarS 2) (xC (.int (1)))) lNil)))) (gN 0) (bOf (x2 pGe (xVarS 0) (xC (.int (0))))) (xVarS 0)) (oSome (x1 pNeg (xC (.int (1))))) oNone) lNil)) (lCons (fun _=>some (.dct [])) lNil)) (xVarS 2) (.bl false)))
 (dEnd 1 (vSeq (vTry2 vNone
 (gX (gCall x_History_put_version (lCons (xVarS 1) (lCons (xL mkTup (lCons (xC (.int (39))) lNil)) (lCons (xDisp1 (xC (.str "")) (xL mkLst lNil)) lNil)))))
 (hLk2 [(2,(vRet (x2 pEq (xL f_History_many (lCons (xVarS 1) lNil)) (xC (.int (40)))) false))]))
 (vRet (xC (.bl false)) false)))))
def f__law_full:List PV→Option PV:=fnM 1 3 false m__law_full
def m_is_web:VF:=(vSeq (vIf (bOr (bOf (x2 (pEqL 3 false) (xVarS 0) (xL mkLst lNil))) (bOf (x2 pGt (xL pLen (lCons (xVarS 0) lNil)) (xC (.int (40))))))
 (vRet (xC (.bl false)) false)
 vSkip)
 (vRet (xL pAll (lCons (xComp [none,none] (itE (lCons (xVarS 0) lNil)) (gT [0,1]) bTrue (xL f_are_elders (lCons (xVarS 1) (lCons (xVarS 0) lNil)))) lNil)) false))
def f_is_web:List PV→Option PV:=fnM 1 1 false m_is_web
def m_check_web:VF:=(vIf (bNot (bOf (xL f_is_web (lCons (xVarS 0) lNil))))
 vNone
 vSkip)
def f_check_web:List PV→Option PV:=fnM 1 1 false m_check_web
def g_check_web:VR:=(gIf (bNot (bOf (xL f_is_web (lCons (xVarS 0) lNil))))
 (gRaise 2)
 gNone)
def x_check_web:List PV→Option Nat:=gnM 1 1 g_check_web
def m_is_version:VF:=(vRet (xChain pLe pLt (xC (.int (0))) (xVarS 1) (xL pLen (lCons (xVarS 0) lNil))) false)
def f_is_version:List PV→Option PV:=fnM 2 2 false m_is_version
def m_check_versions:VF:=(vSeq (vDrop (xL f_check_web (lCons (xVarS 0) lNil)))
 (vIf (bNot (bOf (xL pAll (lCons (xComp [none,some 0] (itL (xVarS 1)) (gN 0) bTrue (xL f_is_version (lCons (xVarS 1) (lCons (xVarS 0) lNil)))) lNil))))
 vNone
 vSkip))
def f_check_versions:List PV→Option PV:=fnM 2 2 false m_check_versions
def g_check_versions:VR:=(gSeq (vDrop (xL f_check_web (lCons (xVarS 0) lNil)))
 (gX (gCall x_check_web (lCons (xVarS 0) lNil)))
 (gIf (bNot (bOf (xL pAll (lCons (xComp [none,some 0] (itL (xVarS 1)) (gN 0) bTrue (xL f_is_version (lCons (xVarS 1) (lCons (xVarS 0) lNil)))) lNil))))
 (gRaise 3)
 gNone))
def x_check_versions:List PV→Option Nat:=gnM 2 2 g_check_versions
def m_elders_of:VF:=(vSeq (vSetO 2 (fun _=>some (.dct [])))
 (vSeq (vFor (itL (xVarS 1)) (gN 3)
 (vFor (itT (x2 pIxL (xVarS 0) (xVarS 3))) (gN 4)
 (vDPut 2 (xVarS 4) (xC (.bl true)))))
 (vRetO 2)))
def f_elders_of:List PV→Option PV:=fnM 2 5 true m_elders_of
def m_above:VF:=(vSeq (vDrop (xL f_check_versions (lCons (xVarS 0) (lCons (xL mkLst (lCons (xVarS 1) lNil)) lNil))))
 (vSeq (vSetO 2 (xDisp1 (xVarS 1) (xC (.bl true))))
 (vSeq (vFor (itRD (lCons (xVarS 1) (lCons (x1 pNeg (xC (.int (1)))) (lCons (x1 pNeg (xC (.int (1)))) lNil)))) (gN 3)
 (vIf (bOf (xDIn false (xVarS 3) (xVar 2)))
 (vDUpd 2 (xL f_elders_of (lCons (xVarS 0) (lCons (xL mkLst (lCons (xVarS 3) lNil)) lNil))))
 vSkip))
 (vRet (xL pSrtDz (lCons (xVar 2) lNil)) true))))
def f_above:List PV→Option PV:=fnM 2 4 true m_above
def g_above:VR:=(gX (gCall x_check_versions (lCons (xVarS 0) (lCons (xL mkLst (lCons (xVarS 1) lNil)) lNil))))
def x_above:List PV→Option Nat:=gnM 2 4 g_above
def m_below:VF:=(vSeq (vDrop (xL f_check_versions (lCons (xVarS 0) (lCons (xL mkLst (lCons (xVarS 1) lNil)) lNil))))
 vNone)
def f_below:List PV→Option PV:=fnM 2 4 false m_below
def g_below:VR:=(gX (gCall x_check_versions (lCons (xVarS 0) (lCons (xL mkLst (lCons (xVarS 1) lNil)) lNil))))
def x_below:List PV→Option Nat:=gnM 2 4 g_below
def m_between:VF:=(vSeq (vSetS 3 (xL f_above (lCons (xVarS 0) (lCons (xVarS 1) lNil))))
 (vRet (xComp [none,some 3] (itL (xL f_above (lCons (xVarS 0) (lCons (xVarS 2) lNil)))) (gN 0) (bOf (x2 (pIn true) (xVarS 0) (xVarS 1))) (xVarS 0)) true))
def f_between:List PV→Option PV:=fnM 3 4 true m_between
def g_between:VR:=(gSeq (vSetS 3 (xL f_above (lCons (xVarS 0) (lCons (xVarS 1) lNil))))
 (gX (gCall x_above (lCons (xVarS 0) (lCons (xVarS 1) lNil))))
 (gX (gCall x_above (lCons (xVarS 0) (lCons (xVarS 2) lNil)))))
def x_between:List PV→Option Nat:=gnM 3 4 g_between
def m_check_some:VF:=(vSeq (vDrop (xL f_check_versions (lCons (xVarS 0) (lCons (xVarS 1) lNil))))
 (vIf (bOf (x2 (pEqL 3 false) (xVarS 1) (xL mkLst lNil)))
 vNone
 vSkip))
def f_check_some:List PV→Option PV:=fnM 2 2 false m_check_some
def g_check_some:VR:=(gSeq (vDrop (xL f_check_versions (lCons (xVarS 0) (lCons (xVarS 1) lNil))))
 (gX (gCall x_check_versions (lCons (xVarS 0) (lCons (xVarS 1) lNil))))
 (gIf (bOf (x2 (pEqL 3 false) (xVarS 1) (xL mkLst lNil)))
 (gRaise 3)
 gNone))
def x_check_some:List PV→Option Nat:=gnM 2 2 g_check_some
def m_common_paper:VF:=(vSeq (vDrop (xL f_check_some (lCons (xVarS 0) (lCons (xVarS 1) lNil))))
 vNone)
def f_common_paper:List PV→Option PV:=fnM 2 3 false m_common_paper
def g_common_paper:VR:=(gX (gCall x_check_some (lCons (xVarS 0) (lCons (xVarS 1) lNil))))
def x_common_paper:List PV→Option Nat:=gnM 2 3 g_common_paper
def m_latest_common:VF:=vNone
def f_latest_common:List PV→Option PV:=fnM 2 2 false m_latest_common
def g_latest_common:VR:=(gX (gCall x_common_paper (lCons (xVarS 0) (lCons (xVarS 1) lNil))))
def x_latest_common:List PV→Option Nat:=gnM 2 2 g_latest_common
def m_common_holds:VF:=(vSeq (vDrop (xL f_check_some (lCons (xVarS 0) (lCons (xVarS 1) lNil))))
 vNone)
def f_common_holds:List PV→Option PV:=fnM 3 4 false m_common_holds
def g_common_holds:VR:=(gX (gCall x_check_some (lCons (xVarS 0) (lCons (xVarS 1) lNil))))
def x_common_holds:List PV→Option Nat:=gnM 3 4 g_common_holds
def m_ways:VF:=(vSeq (vDrop (xL f_check_versions (lCons (xVarS 0) (lCons (xL mkLst (lCons (xVarS 1) (lCons (xVarS 2) lNil))) lNil))))
 vNone)
def f_ways:List PV→Option PV:=fnM 3 3 false m_ways
def g_ways:VR:=(gX (gCall x_check_versions (lCons (xVarS 0) (lCons (xL mkLst (lCons (xVarS 1) (lCons (xVarS 2) lNil))) lNil))))
def x_ways:List PV→Option Nat:=gnM 3 3 g_ways
def m_must_pass:VF:=(vSeq (vDrop (xL f_check_versions (lCons (xVarS 0) (lCons (xL mkLst (lCons (xVarS 1) (lCons (xVarS 2) lNil))) lNil))))
 vNone)
def f_must_pass:List PV→Option PV:=fnM 3 5 false m_must_pass
def g_must_pass:VR:=(gX (gCall x_check_versions (lCons (xVarS 0) (lCons (xL mkLst (lCons (xVarS 1) (lCons (xVarS 2) lNil))) lNil))))
def x_must_pass:List PV→Option Nat:=gnM 3 5 g_must_pass
def m_first_way:VF:=(vSeq (vDrop (xL f_check_versions (lCons (xVarS 0) (lCons (xL mkLst (lCons (xVarS 1) (lCons (xVarS 2) lNil))) lNil))))
 vNone)
def f_first_way:List PV→Option PV:=fnM 3 5 false m_first_way
def g_first_way:VR:=(gX (gCall x_check_versions (lCons (xVarS 0) (lCons (xL mkLst (lCons (xVarS 1) (lCons (xVarS 2) lNil))) lNil))))
def x_first_way:List PV→Option Nat:=gnM 3 5 g_first_way
def m_ends:VF:=(vSeq (vDrop (xL f_check_web (lCons (xVarS 0) lNil)))
 (vSeq (vSetS 1 (xL pLstR (lCons (xL pLen (lCons (xVarS 0) lNil)) lNil)))
 (vSeq (vSetS 2 (xL f_elders_of (lCons (xVarS 0) (lCons (xVarS 1) lNil))))
 (vRet (xComp [none,some 2] (itL (xVarS 1)) (gN 0) (bOf (xDIn true (xVarS 0) (xVarS 1))) (xVarS 0)) true))))
def f_ends:List PV→Option PV:=fnM 1 3 true m_ends
def g_ends:VR:=(gX (gCall x_check_web (lCons (xVarS 0) lNil)))
def x_ends:List PV→Option Nat:=gnM 1 3 g_ends
def m__law_asked:VF:=(vSeq (vIf (bOf (x2 pEq (xVarS 2) (xC (.int (0)))))
 (vDrop (xL f_above (lCons (xVarS 0) (lCons (xVarS 1) lNil))))
 vSkip)
 (vSeq (vIf (bOf (x2 pEq (xVarS 2) (xC (.int (1)))))
 (vDrop (xL f_below (lCons (xVarS 0) (lCons (xVarS 1) lNil))))
 vSkip)
 (vSeq (vIf (bOf (x2 pEq (xVarS 2) (xC (.int (2)))))
 (vDrop (xL f_between (lCons (xVarS 0) (lCons (xC (.int (0))) (lCons (xVarS 1) lNil)))))
 vSkip)
 (vSeq (vIf (bOf (x2 pEq (xVarS 2) (xC (.int (3)))))
 (vDrop (xL f_latest_common (lCons (xVarS 0) (lCons (xL mkLst (lCons (xC (.int (0))) (lCons (xVarS 1) lNil))) lNil))))
 vSkip)
 (vSeq (vIf (bOf (x2 pEq (xVarS 2) (xC (.int (4)))))
 (vDrop (xL f_common_paper (lCons (xVarS 0) (lCons (xL mkLst (lCons (xVarS 1) lNil)) lNil))))
 vSkip)
 (vSeq (vIf (bOf (x2 pEq (xVarS 2) (xC (.int (5)))))
 (vDrop (xL f_common_holds (lCons (xVarS 0) (lCons (xL mkLst (lCons (xVarS 1) (lCons (xC (.int (0))) lNil))) (lCons (xL mkTup (lCons (xL mkLst lNil) (lCons (xL mkLst (lCons (xL mkLst lNil) (lCons (xL mkLst lNil) lNil))) lNil))) lNil)))))
 vSkip)
 (vSeq (vIf (bOf (x2 pEq (xVarS 2) (xC (.int (6)))))
 (vDrop (xL f_ways (lCons (xVarS 0) (lCons (xVarS 1) (lCons (xC (.int (0))) lNil)))))
 vSkip)
 (vSeq (vIf (bOf (x2 pEq (xVarS 2) (xC (.int (7)))))
 (vDrop (xL f_must_pass (lCons (xVarS 0) (lCons (xC (.int (0))) (lCons (xVarS 1) lNil)))))
 vSkip)
 (vSeq (vIf (bOf (x2 pEq (xVarS 2) (xC (.int (8)))))
 (vDrop (xL f_first_way (lCons (xVarS 0) (lCons (xVarS 1) (lCons (xC (.int (0))) lNil)))))
 vSkip)
 (vSeq (vIf (bOf (x2 pEq (xVarS 2) (xC (.int (9)))))
 (vDrop (xL f_latest_common (lCons (xVarS 0) (lCons (xL mkLst lNil) lNil))))
 vSkip)
 (vSeq (vIf (bOf (x2 pEq (xVarS 2) (xC (.int (10)))))
 (vDrop (xL f_common_holds (lCons (xVarS 0) (lCons (xL mkLst lNil) (lCons (xL mkTup (lCons (xL mkLst lNil) (lCons (xL mkLst lNil) lNil))) lNil)))))
 vSkip)
 (vSeq (vIf (bOf (x2 pEq (xVarS 2) (xC (.int (11)))))
 (vDrop (xL f_ends (lCons (xVarS 0) lNil)))
 vSkip)
 (vSeq (vIf (bOf (x2 pEq (xVarS 2) (xC (.int (12)))))
 (vDrop (xL f_must_pass (lCons (xVarS 0) (lCons (xVarS 1) (lCons (xC (.int (0))) lNil)))))
 vSkip)
 (vSeq (vIf (bOf (x2 pEq (xVarS 2) (xC (.int (13)))))
 (vDrop (xL f_between (lCons (xVarS 0) (lCons (xVarS 1) (lCons (xC (.int (0))) lNil)))))
 vSkip)
 (vIf (bOf (x2 pEq (xVarS 2) (xC (.int (14)))))
 (vDrop (xL f_common_paper (lCons (xVarS 0) (lCons (xL mkLst lNil) lNil))))
 vSkip)))))))))))))))
def f__law_asked:List PV→Option PV:=fnM 3 3 false m__law_asked
def g__law_asked:VR:=(gSeq (vIf (bOf (x2 pEq (xVarS 2) (xC (.int (0)))))
 (vDrop (xL f_above (lCons (xVarS 0) (lCons (xVarS 1) lNil))))
 vSkip)
 (gIf (bOf (x2 pEq (xVarS 2) (xC (.int (0)))))
 (gX (gCall x_above (lCons (xVarS 0) (lCons (xVarS 1) lNil))))
 gNone)
 (gSeq (vIf (bOf (x2 pEq (xVarS 2) (xC (.int (1)))))
 (vDrop (xL f_below (lCons (xVarS 0) (lCons (xVarS 1) lNil))))
 vSkip)
 (gIf (bOf (x2 pEq (xVarS 2) (xC (.int (1)))))
 (gX (gCall x_below (lCons (xVarS 0) (lCons (xVarS 1) lNil))))
 gNone)
 (gSeq (vIf (bOf (x2 pEq (xVarS 2) (xC (.int (2)))))
 (vDrop (xL f_between (lCons (xVarS 0) (lCons (xC (.int (0))) (lCons (xVarS 1) lNil)))))
 vSkip)
 (gIf (bOf (x2 pEq (xVarS 2) (xC (.int (2)))))
 (gX (gCall x_between (lCons (xVarS 0) (lCons (xC (.int (0))) (lCons (xVarS 1) lNil)))))
 gNone)
 (gSeq (vIf (bOf (x2 pEq (xVarS 2) (xC (.int (3)))))
 (vDrop (xL f_latest_common (lCons (xVarS 0) (lCons (xL mkLst (lCons (xC (.int (0))) (lCons (xVarS 1) lNil))) lNil))))
 vSkip)
 (gIf (bOf (x2 pEq (xVarS 2) (xC (.int (3)))))
 (gX (gCall x_latest_common (lCons (xVarS 0) (lCons (xL mkLst (lCons (xC (.int (0))) (lCons (xVarS 1) lNil))) lNil))))
 gNone)
 (gSeq (vIf (bOf (x2 pEq (xVarS 2) (xC (.int (4)))))
 (vDrop (xL f_common_paper (lCons (xVarS 0) (lCons (xL mkLst (lCons (xVarS 1) lNil)) lNil))))
 vSkip)
 (gIf (bOf (x2 pEq (xVarS 2) (xC (.int (4)))))
 (gX (gCall x_common_paper (lCons (xVarS 0) (lCons (xL mkLst (lCons (xVarS 1) lNil)) lNil))))
 gNone)
 (gSeq (vIf (bOf (x2 pEq (xVarS 2) (xC (.int (5)))))
 (vDrop (xL f_common_holds (lCons (xVarS 0) (lCons (xL mkLst (lCons (xVarS 1) (lCons (xC (.int (0))) lNil))) (lCons (xL mkTup (lCons (xL mkLst lNil) (lCons (xL mkLst (lCons (xL mkLst lNil) (lCons (xL mkLst lNil) lNil))) lNil))) lNil)))))
 vSkip)
 (gIf (bOf (x2 pEq (xVarS 2) (xC (.int (5)))))
 (gX (gCall x_common_holds (lCons (xVarS 0) (lCons (xL mkLst (lCons (xVarS 1) (lCons (xC (.int (0))) lNil))) (lCons (xL mkTup (lCons (xL mkLst lNil) (lCons (xL mkLst (lCons (xL mkLst lNil) (lCons (xL mkLst lNil) lNil))) lNil))) lNil)))))
 gNone)
 (gSeq (vIf (bOf (x2 pEq (xVarS 2) (xC (.int (6)))))
 (vDrop (xL f_ways (lCons (xVarS 0) (lCons (xVarS 1) (lCons (xC (.int (0))) lNil)))))
 vSkip)
 (gIf (bOf (x2 pEq (xVarS 2) (xC (.int (6)))))
 (gX (gCall x_ways (lCons (xVarS 0) (lCons (xVarS 1) (lCons (xC (.int (0))) lNil)))))
 gNone)
 (gSeq (vIf (bOf (x2 pEq (xVarS 2) (xC (.int (7)))))
 (vDrop (xL f_must_pass (lCons (xVarS 0) (lCons (xC (.int (0))) (lCons (xVarS 1) lNil)))))
 vSkip)
 (gIf (bOf (x2 pEq (xVarS 2) (xC (.int (7)))))
 (gX (gCall x_must_pass (lCons (xVarS 0) (lCons (xC (.int (0))) (lCons (xVarS 1) lNil)))))
 gNone)
 (gSeq (vIf (bOf (x2 pEq (xVarS 2) (xC (.int (8)))))
 (vDrop (xL f_first_way (lCons (xVarS 0) (lCons (xVarS 1) (lCons (xC (.int (0))) lNil)))))
 vSkip)
 (gIf (bOf (x2 pEq (xVarS 2) (xC (.int (8)))))
 (gX (gCall x_first_way (lCons (xVarS 0) (lCons (xVarS 1) (lCons (xC (.int (0))) lNil)))))
 gNone)
 (gSeq (vIf (bOf (x2 pEq (xVarS 2) (xC (.int (9)))))
 (vDrop (xL f_latest_common (lCons (xVarS 0) (lCons (xL mkLst lNil) lNil))))
 vSkip)
 (gIf (bOf (x2 pEq (xVarS 2) (xC (.int (9)))))
 (gX (gCall x_latest_common (lCons (xVarS 0) (lCons (xL mkLst lNil) lNil))))
 gNone)
 (gSeq (vIf (bOf (x2 pEq (xVarS 2) (xC (.int (10)))))
 (vDrop (xL f_common_holds (lCons (xVarS 0) (lCons (xL mkLst lNil) (lCons (xL mkTup (lCons (xL mkLst lNil) (lCons (xL mkLst lNil) lNil))) lNil)))))
 vSkip)
 (gIf (bOf (x2 pEq (xVarS 2) (xC (.int (10)))))
 (gX (gCall x_common_holds (lCons (xVarS 0) (lCons (xL mkLst lNil) (lCons (xL mkTup (lCons (xL mkLst lNil) (lCons (xL mkLst lNil) lNil))) lNil)))))
 gNone)
 (gSeq (vIf (bOf (x2 pEq (xVarS 2) (xC (.int (11)))))
 (vDrop (xL f_ends (lCons (xVarS 0) lNil)))
 vSkip)
 (gIf (bOf (x2 pEq (xVarS 2) (xC (.int (11)))))
 (gX (gCall x_ends (lCons (xVarS 0) lNil)))
 gNone)
 (gSeq (vIf (bOf (x2 pEq (xVarS 2) (xC (.int (12)))))
 (vDrop (xL f_must_pass (lCons (xVarS 0) (lCons (xVarS 1) (lCons (xC (.int (0))) lNil)))))
 vSkip)
 (gIf (bOf (x2 pEq (xVarS 2) (xC (.int (12)))))
 (gX (gCall x_must_pass (lCons (xVarS 0) (lCons (xVarS 1) (lCons (xC (.int (0))) lNil)))))
 gNone)
 (gSeq (vIf (bOf (x2 pEq (xVarS 2) (xC (.int (13)))))
 (vDrop (xL f_between (lCons (xVarS 0) (lCons (xVarS 1) (lCons (xC (.int (0))) lNil)))))
 vSkip)
 (gIf (bOf (x2 pEq (xVarS 2) (xC (.int (13)))))
 (gX (gCall x_between (lCons (xVarS 0) (lCons (xVarS 1) (lCons (xC (.int (0))) lNil)))))
 gNone)
 (gIf (bOf (x2 pEq (xVarS 2) (xC (.int (14)))))
 (gX (gCall x_common_paper (lCons (xVarS 0) (lCons (xL mkLst lNil) lNil))))
 gNone)))))))))))))))
def x__law_asked:List PV→Option Nat:=gnM 3 3 g__law_asked
def m__law_kind:VF:=(vSeq (vTry2 (vDrop (xL f__law_asked (lCons (xVarS 0) (lCons (xVarS 1) (lCons (xVarS 2) lNil)))))
 (gX (gCall x__law_asked (lCons (xVarS 0) (lCons (xVarS 1) (lCons (xVarS 2) lNil)))))
 (hLk2 [(2,(vRet (xC (.int (1))) false)),(3,(vRet (xC (.int (2))) false))]))
 (vRet (xC (.int (0))) false))
def f__law_kind:List PV→Option PV:=fnM 3 4 false m__law_kind
def m_law:VF:=(vSeq (vSetS 1 (xL f__law_cell_at (lCons (xVarS 0) (lCons (xC (.int (0))) lNil))))
 (vSeq (vSetS 2 (x2 pIxL (xL mkLst (lCons (xL mkLst lNil) (lCons (xL mkLst (lCons (xL mkTup (lCons (xC (.int (0))) lNil)) lNil)) (lCons (xL mkLst (lCons (xL mkTup lNil) (lCons (xL mkTup (fun _=>some [(.int (0)),(.int (0))])) lNil))) (lCons (xL mkLst (lCons (xL mkTup lNil) (lCons (xL mkTup (lCons (xC (.int (1))) lNil)) lNil))) (lCons (x2 pRep (xL mkLst (lCons (xL mkTup lNil) lNil)) (xC (.int (41)))) (lCons (xL mkLst (lCons (xL mkTup lNil) (lCons (xL mkTup (lCons (x1 pNeg (xC (.int (1)))) lNil)) lNil))) (lCons (xL mkLst (lCons (xL mkTup lNil) (lCons (xL mkTup lNil) (lCons (xL mkTup lNil) (lCons (xL mkTup lNil) (lCons (xL mkTup (fun _=>some [(.int (0)),(.int (1)),(.int (2)),(.int (3))])) lNil)))))) lNil)))))))) (x2 pMod (xVarS 1) (xC (.int (7))))))
 (vSeq (vSetS 3 (x2 pIxL (xL mkLst (lCons (xC (.int (1))) (lCons (x1 pNeg (xC (.int (1)))) (lCons (xC (.int (2))) (lCons (x2 pPow (xC (.int (10))) (xC (.int (9)))) lNil))))) (x2 pMod (x2 pDiv (xVarS 1) (xC (.int (7)))) (xC (.int (4))))))
 (vSeq (vFor (itR1 (lCons (xC (.int (15))) lNil)) (gN 4)
 (vIf (bOr (bOf (x2 pNe (xL f__law_kind (lCons (xVarS 2) (lCons (xVarS 3) (lCons (xVarS 4) lNil)))) (xC (.int (1))))) (bOf (x2 pNe (xL f__law_kind (lCons (xL mkLst (lCons (xL mkTup lNil) lNil)) (lCons (xVarS 3) (lCons (xVarS 4) lNil)))) (x2 pIxL (xL mkLst (fun _=>some [(.int (2)),(.int (0))])) (xL pIntB (lCons (x2 pEq (xVarS 4) (xC (.int (11)))) lNil))))))
 (vRet (xC (.bl false)) false)
 vSkip))
 (vRet (xB (bOr (bOf (x2 pGt (x2 pMod (x2 pDiv (xVarS 1) (xC (.int (28)))) (xC (.int (4)))) (xC (.int (0))))) (bOf (xL f__law_full (lCons (x2 pDiv (xVarS 1) (xC (.int (112)))) lNil))))) false)))))
def f_law:List PV→Option PV:=fnM 1 5 false m_law
section
variable {P:Program}{w:World}{K:PySem.W.Frag}{mg:Str→Option Value}{base:Heap}
theorem sc_History:FnScope ["self"] ["self"] (defScope s_History):=by tm_at "qsc"
theorem mk_History (T:Prg K mg):CMk P w K mg base HC.c "History" 1:=okInit T.DI sc_History rfl (fun _ _ _ _ _ _ _=>rfl) (fun _ _ _ _ _ _ _=>rfl) T.mc_History (Or.inl rfl)
theorem sc__law_cell_at:FnScope ["script","k"] ["script","k"] (defScope s__law_cell_at):=by tm_at "qsc"
theorem ok__law_cell_at (T:Prg K mg):CF P w K mg base CX0 "_law_cell_at" 1 (spV false f__law_cell_at):=by
 have:=T.bl;have:=T.DI.c;have:=T.DI.e;have:=T.DI.t;have:=@mk_History _ P w K mg base T;exact okQ T.D__law_cell_at sc__law_cell_at (by tm_at "qD")
theorem sc_History_many:FnScope ["self"] ["self"] (defScope s_History_many):=by tm_at "qsc"
theorem ok_History_many (T:Prg K mg):CM P w K mg base CX0 HC.c "many" 1 (spV false f_History_many):=by
 have:=T.bl;have:=T.DI.c;have:=T.DI.e;have:=T.DI.t;have:=@mk_History _ P w K mg base T;exact okM T.D_History_many sc_History_many (by tm_at "qD")
theorem sc_is_line:FnScope ["text"] ["text"] (defScope s_is_line):=by tm_at "qsc"
theorem ok_is_line (T:Prg K mg):CF P w K mg base CX0 "is_line" 1 (spV false f_is_line):=by
 have:=T.bl;have:=T.DI.c;have:=T.DI.e;have:=T.DI.t;have:=@mk_History _ P w K mg base T;have:=T.g_MOST_SIGNS;exact okQ T.D_is_line sc_is_line (by tm_at "qD")
theorem sc_is_path:FnScope ["text"] ["text"] (defScope s_is_path):=by tm_at "qsc"
theorem ok_is_path (T:Prg K mg):CF P w K mg base CX0 "is_path" 2 (spV false f_is_path):=by
 have:=T.bl;have:=T.DI.c;have:=T.DI.e;have:=T.DI.t;have:=@mk_History _ P w K mg base T;have:=@ok_is_line _ P w K mg base T;exact okQ T.D_is_path sc_is_path (by tm_at "qD")
theorem sc_is_row:FnScope ["row"] ["row"] (defScope s_is_row):=by tm_at "qsc"
theorem ok_is_row (T:Prg K mg):CF P w K mg base CX0 "is_row" 2 (spV false f_is_row):=by
 have:=T.bl;have:=T.DI.c;have:=T.DI.e;have:=T.DI.t;have:=@mk_History _ P w K mg base T;have:=@ok_is_line _ P w K mg base T;have:=T.g_MOST_LINES;exact okQ T.D_is_row sc_is_row (by tm_at "qD")
theorem sc_is_tree:FnScope ["tree"] ["tree"] (defScope s_is_tree):=by tm_at "qsc"
theorem ok_is_tree (T:Prg K mg):CF P w K mg base CX0 "is_tree" 3 (spV false f_is_tree):=by
 have:=T.bl;have:=T.DI.c;have:=T.DI.e;have:=T.DI.t;have:=@mk_History _ P w K mg base T;have:=@ok_is_path _ P w K mg base T;have:=@ok_is_row _ P w K mg base T;have:=T.g_MOST_FILES;exact okQ T.D_is_tree sc_is_tree (by tm_at "qD")
theorem sc_check_tree:FnScope ["tree"] ["tree"] (defScope s_check_tree):=by tm_at "qsc"
theorem ok_check_tree (T:Prg K mg):CF P w K mg base CX0 "check_tree" 4 (spV false f_check_tree):=by
 have:=T.bl;have:=T.DI.c;have:=T.DI.e;have:=T.DI.t;have:=@mk_History _ P w K mg base T;have:=@ok_is_tree _ P w K mg base T;exact okQ T.D_check_tree sc_check_tree (by tm_at "qD")
theorem sc_copied_tree:FnScope ["tree","files","path"] ["tree"] (defScope s_copied_tree):=by tm_at "qsc"
theorem ok_copied_tree (T:Prg K mg):CF P w K mg base CX0 "copied_tree" 1 (spV true f_copied_tree):=by
 have:=T.bl;have:=T.DI.c;have:=T.DI.e;have:=T.DI.t;have:=@mk_History _ P w K mg base T;exact okQ T.D_copied_tree sc_copied_tree (by tm_at "qD")
theorem sc_are_elders:FnScope ["elders","version","last","elder"] ["elders","version"] (defScope s_are_elders):=by tm_at "qsc"
theorem ok_are_elders (T:Prg K mg):CF P w K mg base CX0 "are_elders" 1 (spV false f_are_elders):=by
 have:=T.bl;have:=T.DI.c;have:=T.DI.e;have:=T.DI.t;have:=@mk_History _ P w K mg base T;have:=T.g_MOST_ELDERS;exact okQ T.D_are_elders sc_are_elders (by tm_at "qD")
theorem sc_History_put_version:FnScope ["self","elders","tree","number"] ["self","elders","tree"] (defScope s_History_put_version):=by tm_at "qsc"
theorem ok_History_put_version (T:Prg K mg):CM P w K mg base CX0 HC.c "put_version" 5 (spM (hSh HC.c) f_History_put_version):=by
 have:=T.bl;have:=T.DI.c;have:=T.DI.e;have:=T.DI.t;have:=@mk_History _ P w K mg base T;have:=@ok_History_many _ P w K mg base T;have:=@ok_are_elders _ P w K mg base T;have:=@ok_check_tree _ P w K mg base T;have:=@ok_copied_tree _ P w K mg base T;have:=T.g_MOST_VERSIONS;have:=T.X_BadWeb;exact okMM T.D_History_put_version sc_History_put_version (by tm_at "qD")
theorem bad_History_put_version (T:Prg K mg):CM P w K mg base (CX1 P w) HC.c "put_version" 5 (spX T.cl x_History_put_version):=by
 have:=T.bl;have:=T.DI.c;have:=T.DI.e;have:=T.DI.t;have:=@mk_History _ P w K mg base T;have:=@ok_History_many _ P w K mg base T;have:=@ok_are_elders _ P w K mg base T;have:=@ok_check_tree _ P w K mg base T;have:=@ok_copied_tree _ P w K mg base T;have:=T.g_MOST_VERSIONS;have:=T.X_BadWeb;exact badM T.D_History_put_version sc_History_put_version (by tm_at "qD")
theorem okH_many (T:Prg K mg):∃a d,Meth K HC.c "many" a∧FnOkH P w K mg base 1 a d ["self"] T.c_BadWeb (fun _=>spV false f_History_many)∧Binds K d ["self"] []:=by
 obtain ⟨a0,d0,h1,h2,h3⟩:=T.D_History_many.h;refine ⟨a0,d0,h1,?_,h3⟩;refine fn_ofH (k:=0) h2 sc_History_many (fun a vs H Q E h=>spV_len (k:=1) (n:=1) (ps:=["self"]) rfl _ _ _ _ (spV_onC _ _ _ _ h)) (fun cdv A outer s H vs Q E a oe hoe hr h=>?_);have sc:=sc_History_many;exact ⟨_,pss_one (ps_ret (pe_callB (cl_len_seqK rfl) (by rfl) (T.bl.h _ (by rfl)) (by decide +kernel) (pa_cons (pe_fld (pv 0) rfl) pa_nil))),fnV (vs_retS (ve_cb rl_len (va_consB (ve_fld T.DI.c T.DI.e (ve_varS (i:=0))) va_nil))) (spV_onC _ _ _ _ h)⟩
theorem sc__law_full:FnScope ["cell","history","k"] ["cell"] (defScope s__law_full):=by tm_at "qsc"
theorem ok__law_full (T:Prg K mg):CF P w K mg base CX0 "_law_full" 6 (spV false f__law_full):=by
 have:=T.bl;have:=T.DI.c;have:=T.DI.e;have:=T.DI.t;have:=@mk_History _ P w K mg base T;have:=@ok_History_put_version _ P w K mg base T;have:=@bad_History_put_version _ P w K mg base T;have:=@ok_History_many _ P w K mg base T;have:=T.X_BadWeb;exact okQ T.D__law_full sc__law_full fun a cdv A outer s H E hr cs nd=>by
  have sc:=sc__law_full;obtain ⟨fa0,fd0,hM,hF,hB⟩:=okH_many (P:=P) (w:=w) (base:=base) T;exact (qnew (by tm_at "q") (qdlc (by tm_at "q") (qdle (qbc (qtry (cl:=T.cl) (fun _ _ z=>z) rfl rfl rfl qbN (by tm_at "q") (hh2_cons (hb0_hit (cl:=T.cl) (n:=2) (F:=(vRet (x2 pEq (xL f_History_many (lCons (xVarS 1) lNil)) (xC (.int (40)))) false)) rfl (by rfl) T.mc_BadWeb T.xm_BadWeb_BadWeb (fun a oe hoe=>⟨_,pss_one (ps_ret (pe_cmpR op_eq (pe_methH0 (pv 1) T.DI.c hM hF ((hr.mono (by decide)).mark _) Zf hoe hB rfl) pe_int (nomark _))),vs_retS (ve_op r2_eq (ve_methS (fun _ _ h=>(onC_some h).1) (ve_varS (i:=1)) va_nil) ve_int)⟩)) hh2_nil)) (by tm_at "q")))))
theorem sc_is_web:FnScope ["web"] ["web"] (defScope s_is_web):=by tm_at "qsc"
theorem ok_is_web (T:Prg K mg):CF P w K mg base CX0 "is_web" 2 (spV false f_is_web):=by
 have:=T.bl;have:=T.DI.c;have:=T.DI.e;have:=T.DI.t;have:=@mk_History _ P w K mg base T;have:=@ok_are_elders _ P w K mg base T;have:=T.g_MOST_VERSIONS;exact okQ T.D_is_web sc_is_web (by tm_at "qD")
theorem sc_check_web:FnScope ["web"] ["web"] (defScope s_check_web):=by tm_at "qsc"
theorem ok_check_web (T:Prg K mg):CF P w K mg base CX0 "check_web" 3 (spV false f_check_web):=by
 have:=T.bl;have:=T.DI.c;have:=T.DI.e;have:=T.DI.t;have:=@mk_History _ P w K mg base T;have:=@ok_is_web _ P w K mg base T;have:=T.X_BadWeb;exact okQ T.D_check_web sc_check_web (by tm_at "qD")
theorem bad_check_web (T:Prg K mg):CF P w K mg base (CX1 P w) "check_web" 3 (spX T.cl x_check_web):=by
 have:=T.bl;have:=T.DI.c;have:=T.DI.e;have:=T.DI.t;have:=@mk_History _ P w K mg base T;have:=@ok_is_web _ P w K mg base T;have:=T.X_BadWeb;exact badQ T.D_check_web sc_check_web (by tm_at "qD")
theorem sc_is_version:FnScope ["web","version"] ["web","version"] (defScope s_is_version):=by tm_at "qsc"
theorem ok_is_version (T:Prg K mg):CF P w K mg base CX0 "is_version" 1 (spV false f_is_version):=by
 have:=T.bl;have:=T.DI.c;have:=T.DI.e;have:=T.DI.t;have:=@mk_History _ P w K mg base T;exact okQ T.D_is_version sc_is_version (by tm_at "qD")
theorem sc_check_versions:FnScope ["web","some"] ["web","some"] (defScope s_check_versions):=by tm_at "qsc"
theorem ok_check_versions (T:Prg K mg):CF P w K mg base CX0 "check_versions" 4 (spV false f_check_versions):=by
 have:=T.bl;have:=T.DI.c;have:=T.DI.e;have:=T.DI.t;have:=@mk_History _ P w K mg base T;have:=@ok_check_web _ P w K mg base T;have:=@ok_is_version _ P w K mg base T;have:=@bad_check_web _ P w K mg base T;have:=T.X_NoVersion;exact okQ T.D_check_versions sc_check_versions (by tm_at "qD")
theorem bad_check_versions (T:Prg K mg):CF P w K mg base (CX1 P w) "check_versions" 4 (spX T.cl x_check_versions):=by
 have:=T.bl;have:=T.DI.c;have:=T.DI.e;have:=T.DI.t;have:=@mk_History _ P w K mg base T;have:=@ok_check_web _ P w K mg base T;have:=@ok_is_version _ P w K mg base T;have:=@bad_check_web _ P w K mg base T;have:=T.X_NoVersion;exact badQ T.D_check_versions sc_check_versions (by tm_at "qD")
theorem sc_elders_of:FnScope ["web","some","found","version","elder"] ["web","some"] (defScope s_elders_of):=by tm_at "qsc"
theorem ok_elders_of (T:Prg K mg):CF P w K mg base CX0 "elders_of" 1 (spV true f_elders_of):=by
 have:=T.bl;have:=T.DI.c;have:=T.DI.e;have:=T.DI.t;have:=@mk_History _ P w K mg base T;exact okQ T.D_elders_of sc_elders_of (by tm_at "qD")
theorem sc_above:FnScope ["web","version","found","number"] ["web","version"] (defScope s_above):=by tm_at "qsc"
theorem ok_above (T:Prg K mg):CF P w K mg base CX0 "above" 5 (spV true f_above):=by
 have:=T.bl;have:=T.DI.c;have:=T.DI.e;have:=T.DI.t;have:=@mk_History _ P w K mg base T;have:=@ok_check_versions _ P w K mg base T;have:=@ok_elders_of _ P w K mg base T;have:=@bad_check_versions _ P w K mg base T;exact okQ T.D_above sc_above (by tm_at "qD")
theorem bad_above (T:Prg K mg):CF P w K mg base (CX1 P w) "above" 5 (spX T.cl x_above):=by
 have:=T.bl;have:=T.DI.c;have:=T.DI.e;have:=T.DI.t;have:=@mk_History _ P w K mg base T;have:=@ok_check_versions _ P w K mg base T;have:=@ok_elders_of _ P w K mg base T;have:=@bad_check_versions _ P w K mg base T;exact badQ T.D_above sc_above (by tm_at "qD")
theorem sc_below:FnScope ["web","version","found","number"] ["web","version"] (defScope s_below):=by tm_at "qsc"
theorem ok_below (T:Prg K mg):CF P w K mg base CX0 "below" 5 (spV false f_below):=by
 have:=T.bl;have:=T.DI.c;have:=T.DI.e;have:=T.DI.t;have:=@mk_History _ P w K mg base T;have:=@ok_check_versions _ P w K mg base T;have:=@bad_check_versions _ P w K mg base T;exact okQ T.D_below sc_below (by tm_at "qD")
theorem bad_below (T:Prg K mg):CF P w K mg base (CX1 P w) "below" 5 (spX T.cl x_below):=by
 have:=T.bl;have:=T.DI.c;have:=T.DI.e;have:=T.DI.t;have:=@mk_History _ P w K mg base T;have:=@ok_check_versions _ P w K mg base T;have:=@bad_check_versions _ P w K mg base T;exact badQ T.D_below sc_below (by tm_at "qD")
theorem sc_between:FnScope ["web","one","other","left_out"] ["web","one","other"] (defScope s_between):=by tm_at "qsc"
theorem ok_between (T:Prg K mg):CF P w K mg base CX0 "between" 6 (spV true f_between):=by
 have:=T.bl;have:=T.DI.c;have:=T.DI.e;have:=T.DI.t;have:=@mk_History _ P w K mg base T;have:=@ok_above _ P w K mg base T;have:=@bad_above _ P w K mg base T;exact okQ T.D_between sc_between (by tm_at "qD")
theorem bad_between (T:Prg K mg):CF P w K mg base (CX1 P w) "between" 6 (spX T.cl x_between):=by
 have:=T.bl;have:=T.DI.c;have:=T.DI.e;have:=T.DI.t;have:=@mk_History _ P w K mg base T;have:=@ok_above _ P w K mg base T;have:=@bad_above _ P w K mg base T;exact badQ T.D_between sc_between (by tm_at "qD")
theorem sc_check_some:FnScope ["web","some"] ["web","some"] (defScope s_check_some):=by tm_at "qsc"
theorem ok_check_some (T:Prg K mg):CF P w K mg base CX0 "check_some" 5 (spV false f_check_some):=by
 have:=T.bl;have:=T.DI.c;have:=T.DI.e;have:=T.DI.t;have:=@mk_History _ P w K mg base T;have:=@ok_check_versions _ P w K mg base T;have:=@bad_check_versions _ P w K mg base T;have:=T.X_NoVersion;exact okQ T.D_check_some sc_check_some (by tm_at "qD")
theorem bad_check_some (T:Prg K mg):CF P w K mg base (CX1 P w) "check_some" 5 (spX T.cl x_check_some):=by
 have:=T.bl;have:=T.DI.c;have:=T.DI.e;have:=T.DI.t;have:=@mk_History _ P w K mg base T;have:=@ok_check_versions _ P w K mg base T;have:=@bad_check_versions _ P w K mg base T;have:=T.X_NoVersion;exact badQ T.D_check_some sc_check_some (by tm_at "qD")
theorem sc_common_paper:FnScope ["web","some","sets"] ["web","some"] (defScope s_common_paper):=by tm_at "qsc"
theorem ok_common_paper (T:Prg K mg):CF P w K mg base CX0 "common_paper" 6 (spV false f_common_paper):=by
 have:=T.bl;have:=T.DI.c;have:=T.DI.e;have:=T.DI.t;have:=@mk_History _ P w K mg base T;have:=@ok_check_some _ P w K mg base T;have:=@bad_check_some _ P w K mg base T;exact okQ T.D_common_paper sc_common_paper (by tm_at "qD")
theorem bad_common_paper (T:Prg K mg):CF P w K mg base (CX1 P w) "common_paper" 6 (spX T.cl x_common_paper):=by
 have:=T.bl;have:=T.DI.c;have:=T.DI.e;have:=T.DI.t;have:=@mk_History _ P w K mg base T;have:=@ok_check_some _ P w K mg base T;have:=@bad_check_some _ P w K mg base T;exact badQ T.D_common_paper sc_common_paper (by tm_at "qD")
theorem sc_latest_common:FnScope ["web","some"] ["web","some"] (defScope s_latest_common):=by tm_at "qsc"
theorem ok_latest_common (T:Prg K mg):CF P w K mg base CX0 "latest_common" 7 (spV false f_latest_common):=by
 have:=T.bl;have:=T.DI.c;have:=T.DI.e;have:=T.DI.t;have:=@mk_History _ P w K mg base T;have:=@ok_common_paper _ P w K mg base T;have:=@bad_common_paper _ P w K mg base T;exact okQ T.D_latest_common sc_latest_common (by tm_at "qD")
theorem bad_latest_common (T:Prg K mg):CF P w K mg base (CX1 P w) "latest_common" 7 (spX T.cl x_latest_common):=by
 have:=T.bl;have:=T.DI.c;have:=T.DI.e;have:=T.DI.t;have:=@mk_History _ P w K mg base T;have:=@ok_common_paper _ P w K mg base T;have:=@bad_common_paper _ P w K mg base T;exact badQ T.D_latest_common sc_latest_common (by tm_at "qD")
theorem sc_common_holds:FnScope ["web","some","paper","sets"] ["web","some","paper"] (defScope s_common_holds):=by tm_at "qsc"
theorem ok_common_holds (T:Prg K mg):CF P w K mg base CX0 "common_holds" 6 (spV false f_common_holds):=by
 have:=T.bl;have:=T.DI.c;have:=T.DI.e;have:=T.DI.t;have:=@mk_History _ P w K mg base T;have:=@ok_check_some _ P w K mg base T;have:=@bad_check_some _ P w K mg base T;exact okQ T.D_common_holds sc_common_holds (by tm_at "qD")
theorem bad_common_holds (T:Prg K mg):CF P w K mg base (CX1 P w) "common_holds" 6 (spX T.cl x_common_holds):=by
 have:=T.bl;have:=T.DI.c;have:=T.DI.e;have:=T.DI.t;have:=@mk_History _ P w K mg base T;have:=@ok_check_some _ P w K mg base T;have:=@bad_check_some _ P w K mg base T;exact badQ T.D_common_holds sc_common_holds (by tm_at "qD")
theorem sc_ways:FnScope ["web","one","other"] ["web","one","other"] (defScope s_ways):=by tm_at "qsc"
theorem ok_ways (T:Prg K mg):CF P w K mg base CX0 "ways" 5 (spV false f_ways):=by
 have:=T.bl;have:=T.DI.c;have:=T.DI.e;have:=T.DI.t;have:=@mk_History _ P w K mg base T;have:=@ok_check_versions _ P w K mg base T;have:=@bad_check_versions _ P w K mg base T;exact okQ T.D_ways sc_ways (by tm_at "qD")
theorem bad_ways (T:Prg K mg):CF P w K mg base (CX1 P w) "ways" 5 (spX T.cl x_ways):=by
 have:=T.bl;have:=T.DI.c;have:=T.DI.e;have:=T.DI.t;have:=@mk_History _ P w K mg base T;have:=@ok_check_versions _ P w K mg base T;have:=@bad_check_versions _ P w K mg base T;exact badQ T.D_ways sc_ways (by tm_at "qD")
theorem sc_must_pass:FnScope ["web","one","other","counts","many"] ["web","one","other"] (defScope s_must_pass):=by tm_at "qsc"
theorem ok_must_pass (T:Prg K mg):CF P w K mg base CX0 "must_pass" 5 (spV false f_must_pass):=by
 have:=T.bl;have:=T.DI.c;have:=T.DI.e;have:=T.DI.t;have:=@mk_History _ P w K mg base T;have:=@ok_check_versions _ P w K mg base T;have:=@bad_check_versions _ P w K mg base T;exact okQ T.D_must_pass sc_must_pass (by tm_at "qD")
theorem bad_must_pass (T:Prg K mg):CF P w K mg base (CX1 P w) "must_pass" 5 (spX T.cl x_must_pass):=by
 have:=T.bl;have:=T.DI.c;have:=T.DI.e;have:=T.DI.t;have:=@mk_History _ P w K mg base T;have:=@ok_check_versions _ P w K mg base T;have:=@bad_check_versions _ P w K mg base T;exact badQ T.D_must_pass sc_must_pass (by tm_at "qD")
theorem sc_first_way:FnScope ["web","one","other","counts","way"] ["web","one","other"] (defScope s_first_way):=by tm_at "qsc"
theorem ok_first_way (T:Prg K mg):CF P w K mg base CX0 "first_way" 5 (spV false f_first_way):=by
 have:=T.bl;have:=T.DI.c;have:=T.DI.e;have:=T.DI.t;have:=@mk_History _ P w K mg base T;have:=@ok_check_versions _ P w K mg base T;have:=@bad_check_versions _ P w K mg base T;exact okQ T.D_first_way sc_first_way (by tm_at "qD")
theorem bad_first_way (T:Prg K mg):CF P w K mg base (CX1 P w) "first_way" 5 (spX T.cl x_first_way):=by
 have:=T.bl;have:=T.DI.c;have:=T.DI.e;have:=T.DI.t;have:=@mk_History _ P w K mg base T;have:=@ok_check_versions _ P w K mg base T;have:=@bad_check_versions _ P w K mg base T;exact badQ T.D_first_way sc_first_way (by tm_at "qD")
theorem sc_ends:FnScope ["web","versions","elders"] ["web"] (defScope s_ends):=by tm_at "qsc"
theorem ok_ends (T:Prg K mg):CF P w K mg base CX0 "ends" 4 (spV true f_ends):=by
 have:=T.bl;have:=T.DI.c;have:=T.DI.e;have:=T.DI.t;have:=@mk_History _ P w K mg base T;have:=@ok_check_web _ P w K mg base T;have:=@ok_elders_of _ P w K mg base T;have:=@bad_check_web _ P w K mg base T;exact okQ T.D_ends sc_ends (by tm_at "qD")
theorem bad_ends (T:Prg K mg):CF P w K mg base (CX1 P w) "ends" 4 (spX T.cl x_ends):=by
 have:=T.bl;have:=T.DI.c;have:=T.DI.e;have:=T.DI.t;have:=@mk_History _ P w K mg base T;have:=@ok_check_web _ P w K mg base T;have:=@ok_elders_of _ P w K mg base T;have:=@bad_check_web _ P w K mg base T;exact badQ T.D_ends sc_ends (by tm_at "qD")
theorem sc__law_asked:FnScope ["web","version","way"] ["web","version","way"] (defScope s__law_asked):=by tm_at "qsc"
theorem ok__law_asked (T:Prg K mg):CF P w K mg base CX0 "_law_asked" 8 (spV false f__law_asked):=by
 have:=T.bl;have:=T.DI.c;have:=T.DI.e;have:=T.DI.t;have:=@mk_History _ P w K mg base T;have:=@ok_above _ P w K mg base T;have:=@ok_below _ P w K mg base T;have:=@ok_between _ P w K mg base T;have:=@ok_common_holds _ P w K mg base T;have:=@ok_common_paper _ P w K mg base T;have:=@ok_ends _ P w K mg base T;have:=@ok_first_way _ P w K mg base T;have:=@ok_latest_common _ P w K mg base T;have:=@ok_must_pass _ P w K mg base T;have:=@ok_ways _ P w K mg base T;have:=@bad_above _ P w K mg base T;have:=@bad_below _ P w K mg base T;have:=@bad_between _ P w K mg base T;have:=@bad_common_holds _ P w K mg base T;have:=@bad_common_paper _ P w K mg base T;have:=@bad_ends _ P w K mg base T;have:=@bad_first_way _ P w K mg base T;have:=@bad_latest_common _ P w K mg base T;have:=@bad_must_pass _ P w K mg base T;have:=@bad_ways _ P w K mg base T;exact okQ T.D__law_asked sc__law_asked (by tm_at "qD")
theorem bad__law_asked (T:Prg K mg):CF P w K mg base (CX1 P w) "_law_asked" 8 (spX T.cl x__law_asked):=by
 have:=T.bl;have:=T.DI.c;have:=T.DI.e;have:=T.DI.t;have:=@mk_History _ P w K mg base T;have:=@ok_above _ P w K mg base T;have:=@ok_below _ P w K mg base T;have:=@ok_between _ P w K mg base T;have:=@ok_common_holds _ P w K mg base T;have:=@ok_common_paper _ P w K mg base T;have:=@ok_ends _ P w K mg base T;have:=@ok_first_way _ P w K mg base T;have:=@ok_latest_common _ P w K mg base T;have:=@ok_must_pass _ P w K mg base T;have:=@ok_ways _ P w K mg base T;have:=@bad_above _ P w K mg base T;have:=@bad_below _ P w K mg base T;have:=@bad_between _ P w K mg base T;have:=@bad_common_holds _ P w K mg base T;have:=@bad_common_paper _ P w K mg base T;have:=@bad_ends _ P w K mg base T;have:=@bad_first_way _ P w K mg base T;have:=@bad_latest_common _ P w K mg base T;have:=@bad_must_pass _ P w K mg base T;have:=@bad_ways _ P w K mg base T;exact badQ T.D__law_asked sc__law_asked (by tm_at "qD")
theorem sc__law_kind:FnScope ["web","version","way","e"] ["web","version","way"] (defScope s__law_kind):=by tm_at "qsc"
theorem ok__law_kind (T:Prg K mg):CF P w K mg base CX0 "_law_kind" 9 (spV false f__law_kind):=by
 have:=T.bl;have:=T.DI.c;have:=T.DI.e;have:=T.DI.t;have:=@mk_History _ P w K mg base T;have:=@ok__law_asked _ P w K mg base T;have:=@bad__law_asked _ P w K mg base T;have:=T.X_BadWeb;have:=T.X_NoVersion;exact okQ T.D__law_kind sc__law_kind fun a cdv A outer s H E hr cs nd=>by
  have sc:=sc__law_kind;exact (qbc (qtry (fun _ _ z=>z) rfl rfl rfl (by tm_at "q") (by tm_at "q") (hh2_cons (hb2_hit (cl:=T.cl) (X:=(cxOf CX0 P w K mg base ["web","version","way","e"] "_law_kind" (defScope s__law_kind) a cdv A outer s H E).nox) (n:=2) (i:=3) (F:=(vRet (xC (.int (1))) false)) (Fs:=fun a=>(vSeq (vIf (bOr (bNot (bOf (x1 (pIsX a true) (xVarS 3)))) (bOr (bOf (x1 (pIsX a false) (xVarS 3))) (bOf (x1 (pIsX a false) (xVarS 3)))))
 (vRet (x1 pNeg (xC (.int (1)))) false)
 vSkip)
 (vRet (x2 pAdd (x2 pMulB (xC (.int (1))) (x1 (pIsX a true) (xVarS 3))) (x2 pMulB (xC (.int (2))) (x1 (pIsX a false) (xVarS 3)))) false))) rfl sc.nd rfl rfl (by rfl) T.mc_PastError T.xm_BadWeb_PastError (fun a oe hoe=>⟨_,(@pss_cons _ _ _ _ _ (ps_if (PW.pt (pw_or (pt_not (pt_val (pe_callB (call_isX (a:=a) (oe:=oe) (C:=T.c_BadWeb) (c:=.ty "ValueError") (u:=.type "ValueError") Zf hoe T.ex_BadWeb (fun _ h=>h) T.kb_BadWeb_ValueError) (by rfl) (T.bl.h _ (by rfl)) (by decide +kernel) (pa_cons (pv 3) (pa_cons (pe_bltn (v:=.ty "ValueError") (by rfl) (T.bl.h _ (by rfl)) (by decide +kernel) rfl) pa_nil))))) (pw_or (pt_val (pe_callB (call_isX (a:=a) (oe:=oe) (C:=T.c_BadWeb) (c:=.ref T.c_BadTree) (u:=.ref T.c_BadTree) Zf hoe T.ex_BadWeb (fun _ h=>h) T.kb_BadWeb_BadTree) (by rfl) (T.bl.h _ (by rfl)) (by decide +kernel) (pa_cons (pv 3) (pa_cons (pe_glob (v:=.ref T.c_BadTree) (by rfl) T.mc_BadTree rfl) pa_nil)))) (pw_or1 (pt_val (pe_callB (call_isX (a:=a) (oe:=oe) (C:=T.c_BadWeb) (c:=.ref T.c_NoFile) (u:=.ref T.c_NoFile) Zf hoe T.ex_BadWeb (fun _ h=>h) T.kb_BadWeb_NoFile) (by rfl) (T.bl.h _ (by rfl)) (by decide +kernel) (pa_cons (pv 3) (pa_cons (pe_glob (v:=.ref T.c_NoFile) (by rfl) T.mc_NoFile rfl) pa_nil)))))))) (@pss_one _ _ _ (ps_ret (pe_un un_neg pe_int))) pss_nil)
   (@pss_one _ _ _ (ps_ret (pe_op op_add (pe_op op_mulB pe_int (pe_callB (call_isX (a:=a) (oe:=oe) (C:=T.c_BadWeb) (c:=.ref T.c_BadWeb) (u:=.ref T.c_BadWeb) Zf hoe T.ex_BadWeb (fun _ h=>h) T.kb_BadWeb_BadWeb) (by rfl) (T.bl.h _ (by rfl)) (by decide +kernel) (pa_cons (pv 3) (pa_cons (pe_glob (v:=.ref T.c_BadWeb) (by rfl) T.mc_BadWeb rfl) pa_nil)))) (pe_op op_mulB pe_int (pe_callB (call_isX (a:=a) (oe:=oe) (C:=T.c_BadWeb) (c:=.ref T.c_NoVersion) (u:=.ref T.c_NoVersion) Zf hoe T.ex_BadWeb (fun _ h=>h) T.kb_BadWeb_NoVersion) (by rfl) (T.bl.h _ (by rfl)) (by decide +kernel) (pa_cons (pv 3) (pa_cons (pe_glob (v:=.ref T.c_NoVersion) (by rfl) T.mc_NoVersion rfl) pa_nil)))))))),(vs_seq (vs_if (vt_or (vt_not (vt_val (ve_isX (ve_varS (i:=3))))) (vt_or (vt_val (ve_isX (ve_varS (i:=3)))) (vt_val (ve_isX (ve_varS (i:=3)))))) (vs_retS (ve_un r1_neg ve_int)) vs_skip)
   (vs_retS (ve_op r2_add (ve_op r2_mulB ve_int (ve_isX (ve_varS (i:=3)))) (ve_op r2_mulB ve_int (ve_isX (ve_varS (i:=3)))))))⟩) (hf_gen fun a ρ hl=>by (exact (have h:=fun b=>isx_at (i:=3) (a:=a) (b:=b) (ρ:=ρ) hl;(q_nx ((q_iff ((q_orf (q_not (b:=true) (q_b (h true)))).trans ((q_orf (q_b (h false))).trans (q_b (h false))))).trans rfl)).trans (q_ret ((q_x2 ((q_x2 rfl (h _)).trans rfl) ((q_x2 rfl (h _)).trans rfl)).trans rfl))))) (.inr rfl))
   (hh2_cons (hb2_hit (cl:=T.cl) (X:=(cxOf CX0 P w K mg base ["web","version","way","e"] "_law_kind" (defScope s__law_kind) a cdv A outer s H E).nox) (n:=3) (i:=3) (F:=(vRet (xC (.int (2))) false)) (Fs:=fun a=>(vSeq (vIf (bOr (bNot (bOf (x1 (pIsX a true) (xVarS 3)))) (bOr (bOf (x1 (pIsX a false) (xVarS 3))) (bOf (x1 (pIsX a false) (xVarS 3)))))
 (vRet (x1 pNeg (xC (.int (1)))) false)
 vSkip)
 (vRet (x2 pAdd (x2 pMulB (xC (.int (1))) (x1 (pIsX a false) (xVarS 3))) (x2 pMulB (xC (.int (2))) (x1 (pIsX a true) (xVarS 3)))) false))) rfl sc.nd rfl rfl (by rfl) T.mc_PastError T.xm_NoVersion_PastError (fun a oe hoe=>⟨_,(@pss_cons _ _ _ _ _ (ps_if (PW.pt (pw_or (pt_not (pt_val (pe_callB (call_isX (a:=a) (oe:=oe) (C:=T.c_NoVersion) (c:=.ty "ValueError") (u:=.type "ValueError") Zf hoe T.ex_NoVersion (fun _ h=>h) T.kb_NoVersion_ValueError) (by rfl) (T.bl.h _ (by rfl)) (by decide +kernel) (pa_cons (pv 3) (pa_cons (pe_bltn (v:=.ty "ValueError") (by rfl) (T.bl.h _ (by rfl)) (by decide +kernel) rfl) pa_nil))))) (pw_or (pt_val (pe_callB (call_isX (a:=a) (oe:=oe) (C:=T.c_NoVersion) (c:=.ref T.c_BadTree) (u:=.ref T.c_BadTree) Zf hoe T.ex_NoVersion (fun _ h=>h) T.kb_NoVersion_BadTree) (by rfl) (T.bl.h _ (by rfl)) (by decide +kernel) (pa_cons (pv 3) (pa_cons (pe_glob (v:=.ref T.c_BadTree) (by rfl) T.mc_BadTree rfl) pa_nil)))) (pw_or1 (pt_val (pe_callB (call_isX (a:=a) (oe:=oe) (C:=T.c_NoVersion) (c:=.ref T.c_NoFile) (u:=.ref T.c_NoFile) Zf hoe T.ex_NoVersion (fun _ h=>h) T.kb_NoVersion_NoFile) (by rfl) (T.bl.h _ (by rfl)) (by decide +kernel) (pa_cons (pv 3) (pa_cons (pe_glob (v:=.ref T.c_NoFile) (by rfl) T.mc_NoFile rfl) pa_nil)))))))) (@pss_one _ _ _ (ps_ret (pe_un un_neg pe_int))) pss_nil)
   (@pss_one _ _ _ (ps_ret (pe_op op_add (pe_op op_mulB pe_int (pe_callB (call_isX (a:=a) (oe:=oe) (C:=T.c_NoVersion) (c:=.ref T.c_BadWeb) (u:=.ref T.c_BadWeb) Zf hoe T.ex_NoVersion (fun _ h=>h) T.kb_NoVersion_BadWeb) (by rfl) (T.bl.h _ (by rfl)) (by decide +kernel) (pa_cons (pv 3) (pa_cons (pe_glob (v:=.ref T.c_BadWeb) (by rfl) T.mc_BadWeb rfl) pa_nil)))) (pe_op op_mulB pe_int (pe_callB (call_isX (a:=a) (oe:=oe) (C:=T.c_NoVersion) (c:=.ref T.c_NoVersion) (u:=.ref T.c_NoVersion) Zf hoe T.ex_NoVersion (fun _ h=>h) T.kb_NoVersion_NoVersion) (by rfl) (T.bl.h _ (by rfl)) (by decide +kernel) (pa_cons (pv 3) (pa_cons (pe_glob (v:=.ref T.c_NoVersion) (by rfl) T.mc_NoVersion rfl) pa_nil)))))))),(vs_seq (vs_if (vt_or (vt_not (vt_val (ve_isX (ve_varS (i:=3))))) (vt_or (vt_val (ve_isX (ve_varS (i:=3)))) (vt_val (ve_isX (ve_varS (i:=3)))))) (vs_retS (ve_un r1_neg ve_int)) vs_skip)
   (vs_retS (ve_op r2_add (ve_op r2_mulB ve_int (ve_isX (ve_varS (i:=3)))) (ve_op r2_mulB ve_int (ve_isX (ve_varS (i:=3)))))))⟩) (hf_gen fun a ρ hl=>by (exact (have h:=fun b=>isx_at (i:=3) (a:=a) (b:=b) (ρ:=ρ) hl;(q_nx ((q_iff ((q_orf (q_not (b:=true) (q_b (h true)))).trans ((q_orf (q_b (h false))).trans (q_b (h false))))).trans rfl)).trans (q_ret ((q_x2 ((q_x2 rfl (h _)).trans rfl) ((q_x2 rfl (h _)).trans rfl)).trans rfl))))) (.inr rfl))
   hh2_nil))) (by tm_at "q"))
theorem sc_law:FnScope ["script","cell","bad","version","way"] ["script"] (defScope s_law):=by tm_at "qsc"
theorem ok_law (T:Prg K mg) {a:Addr}{d:FuncData}(F:Fun K "law" "law" s_law a d):FnOk P w K mg base CX0 10 a d ["script"] (spV false f_law):=by
 have:=T.bl;have:=T.DI.c;have:=T.DI.e;have:=T.DI.t;have:=@mk_History _ P w K mg base T;have:=@ok__law_cell_at _ P w K mg base T;have:=@ok__law_full _ P w K mg base T;have:=@ok__law_kind _ P w K mg base T;exact okL F sc_law (by tm_at "qD")
end
end K29
namespace WB
open PySem L2
section
variable {w:Web}(h:Good w) {vs:List Int}(hne:vs≠[]) (hv:∀v∈vs,0≤v∧v < (w.length:Int))
include h hne hv
end
theorem q_map {tg:VTg}{elt:VX}{α:Type}(e:α→PV) (Inv:PEnv→Prop) (g:α→PV) {xs:List α}{ρ:PEnv}(iv:Inv ρ) (h:∀x∈xs,∀ρ,Inv ρ→∃ρ1,tg (e x) ρ=some ρ1∧Inv ρ1∧elt ρ1=some (g x)):vCompL tg bTrue elt (xs.map e) ρ=some (xs.map g):=by
 refine (q_filter e Inv (fun x=>some (g x)) iv fun x hx ρ hi=>?_).trans ?_
 ·obtain ⟨ρ1,h1,h2,h3⟩:=h x hx ρ hi
  exact ⟨ρ1,h1,h2,.inr ⟨g x,rfl,h3,rfl⟩⟩
 ·rw [List.filterMap_eq_map']
theorem bools_bl:∀l:List Bool,bools (l.map PV.bl)=some l
 | []=>rfl
 | b::l=>by
  show (bools (l.map PV.bl)).map (b::·)=_;rw [bools_bl l];rfl
theorem q_all (l:List Bool):pAll [.lst (l.map PV.bl)]=some (.bl (l.all id)):=by
 show (bools (l.map PV.bl)).map (fun bs=>PV.bl (bs.all id))=_;rw [bools_bl];rfl
theorem q_allc {src:List (Option Nat)}{it:VL}{tg:VTg}{elt:VX}{ρ:PEnv}{α:Type}(e:α→PV) (Inv:PEnv→Prop) (p:α→Bool) {xs:List α}(hi:it ρ=some (xs.map e)) (hl:xs.length≤1000) (iv:Inv (startR src ρ)) (h:∀x∈xs,∀ρ,Inv ρ→∃ρ1,tg (e x) ρ=some ρ1∧Inv ρ1∧elt ρ1=some (.bl (p x))) :
  xL pAll (lCons (xComp src it tg bTrue elt) lNil) ρ=some (.bl (xs.all p)):=by
 have c:=q_map e Inv (fun x=>PV.bl (p x)) iv h;refine (q_xL (q_l1 (q_comp hi (by simp;omega) c))).trans ?_;have:xs.map (fun x=>PV.bl (p x))=(xs.map p).map PV.bl:=by rw [Zi];rfl
 rw [this,q_all,List.all_map];rfl
section
variable {w:Web}(h:Good w) {vs:List Int}(hne:vs≠[]) (hv:∀v∈vs,0≤v∧v < (w.length:Int)) (hl:vs.length≤100)
include h hne hv hl
end
end WB
namespace PySem
open PyProof.Rows PySem.W PySem.Spec
end PySem
namespace L2
open PySem PySem.Spec PyProof.Rows PySem.W
end L2
namespace WB
open PySem L2
end WB
namespace WE
open PySem L2 WB
end WE
namespace WB
open PySem L2
section
variable {w:Web}(h:Good w) (hw:w.length≤18) {o v:Int}(ho:0≤o∧o < (w.length:Int)) (hv:0≤v∧v < (w.length:Int))
include h hw ho hv
end
end WB
namespace WE
open PySem L2 WB
theorem sim_tup:∀(n:Nat) (a b:Web),simks (n+1) (a.map tupZ) (b.map tupZ)=true
 | n,[],b=>by simp [simks]
 | n,x::a,[]=>by simp [simks]
 | n,x::a,y::b=>by
  have:simk (n+1) (tupZ x) (tupZ y)=true:=by
   show simks n (x.map PV.int) (y.map PV.int)=true;exact sim_int n x y
  simp only [Zh,simks,this,sim_tup n a b,Bool.and_self]
theorem eqW (neg:Bool) (w:Web):pEqL 3 neg (webP w) (webP w)=some (.bl (!neg)):=by
 have h1:simks 3 (w.map tupZ) (w.map tupZ)=true:=sim_tup 2 w w;have h3:peq (.lst (w.map tupZ)) (.lst (w.map tupZ))=true:=peq_iff.mpr rfl;show (if simks 3 (w.map tupZ) (w.map tupZ)=true then _ else _)=_;simp only [h1,h3,if_true];cases neg<;>rfl
def rs (k:Int):Int→List Int→Bool
 | _,[]=>true
 | last,x::e=>decide (last < x)&&decide (x < k)&&rs k x e
theorem rs_iff {k:Int}:∀{e:List Int}{last:Int},rs k last e=true↔e.Pairwise (· < ·)∧∀x∈e,last < x∧x < k
 | [],last=>by simp [rs]
 | x::e,last=>by
  unfold rs;rw [Zc1,Zc1,Zi1,Zi1,rs_iff,Zm1];constructor
  ·rintro ⟨⟨a,b⟩,c,d⟩
   refine ⟨⟨fun y hy=>(d y hy).1,c⟩,fun y hy=>?_⟩;rcases Zk.mp hy with rfl|hy
   ·exact ⟨a,b⟩
   ·have:=d y hy;omega
  ·rintro ⟨⟨a,b⟩,c⟩
   have hx:=c x Zf;exact ⟨hx,b,fun y hy=>⟨a y hy,(c y (Ze _ hy)).2⟩⟩
theorem q_consr {tg:VTg}{body:VF}{x:PV}{xs:List PV}{ρ ρ1:PEnv}{p:PV}{b:Bool}(h1:tg x ρ=some ρ1) (h2:body ρ1=some (.rt p b)):vLoop tg body (x::xs) ρ=some (.rt p b):=by
 unfold vLoop;rw [h1];simp only [h2]
theorem aeG_loop (t:PV) (k:Int):∀(e:List Int) (last:Int) (s3:Option (PV×Fl)),
  (rs k last e=true∧∃l s,vLoop (gN 3) aeB (e.map PV.int) [some (t,.shr),some (.int k,.shr),some (.int last,.shr),s3]=some (.nx [some (t,.shr),some (.int k,.shr),some (.int l,.shr),s])) ∨
  (rs k last e=false∧vLoop (gN 3) aeB (e.map PV.int) [some (t,.shr),some (.int k,.shr),some (.int last,.shr),s3]=some (.rt (.bl false) false))
 | [],last,s3=>.inl ⟨rfl,last,s3,rfl⟩
 | x::e,last,s3=>by
  have c1:bOf (x2 pLe (xVarS 3) (xVarS 2)) [some (t,.shr),some (.int k,.shr),some (.int last,.shr),some (.int x,.shr)]=some (decide (x≤last)):=q_b ((q_x2 rfl rfl).trans (q_le x last));have c2:bOf (x2 pGe (xVarS 3) (xVarS 1)) [some (t,.shr),some (.int k,.shr),some (.int last,.shr),some (.int x,.shr)]=some (decide (k≤x)):=q_b ((q_x2 rfl rfl).trans (q_ge x k));have g:gN 3 (.int x) [some (t,.shr),some (.int k,.shr),some (.int last,.shr),s3]=some [some (t,.shr),some (.int k,.shr),some (.int last,.shr),some (.int x,.shr)]:=rfl;by_cases h1:x≤last
  ·rw [Zn h1] at c1
   refine .inr ⟨?_,q_consr g ((q_rt ((q_ift (q_ort c1)).trans rfl)).trans rfl)⟩;unfold rs;rw [Zo (by omega:¬last < x)];rfl
  ·rw [Zo h1] at c1
   by_cases h2:k≤x
   ·rw [Zn h2] at c2
    refine .inr ⟨?_,q_consr g ((q_rt ((q_ift ((q_orf c1).trans c2)).trans rfl)).trans rfl)⟩;unfold rs;rw [Zo (by omega:¬x < k),Bool.and_false];rfl
   ·rw [Zo h2] at c2
    have st:aeB [some (t,.shr),some (.int k,.shr),some (.int last,.shr),some (.int x,.shr)]=some (.nx [some (t,.shr),some (.int k,.shr),some (.int x,.shr),some (.int x,.shr)]):=(q_nx ((q_iff ((q_orf c1).trans c2)).trans rfl)).trans rfl;have e0:rs k last (x::e)=rs k x e:=by
     conv=>lhs;unfold rs
     rw [Zn (by omega:last < x),Zn (by omega:x < k)];rfl
    rw [Zh,q_cons g st,e0];exact aeG_loop t k e x _
def gE (k:Int) (e:List Int):Bool:=rs k (-1) e&&decide (e.length≤3)
theorem gE_iff {k:Int}{e:List Int}:gE k e=true↔GoodE k e:=by
 unfold gE GoodE;rw [Zc1,rs_iff,Zi1];constructor
 ·rintro ⟨⟨a,b⟩,c⟩
  exact ⟨a,fun x hx=>by have:=b x hx;omega,c⟩
 ·rintro ⟨a,b,c⟩
  exact ⟨⟨a,fun x hx=>by have:=b x hx;omega⟩,c⟩
theorem aeG (k:Int) (e:List Int):f_are_elders [tupZ e,.int k]=some (.bl (gE k e)):=by
 refine q_fnrt (b:=false) rfl ?_ rfl;refine (q_nx (ρ':=[some (tupZ e,.shr),some (.int k,.shr),some (.int (-1),.shr),none]) rfl).trans ?_;unfold gE;rcases aeG_loop (tupZ e) k e (-1) none with ⟨h,l,s,hl⟩|⟨h,hl⟩
 ·refine (q_nx ((q_for (xs:=e.map PV.int) rfl).trans hl)).trans ?_
  refine q_ret ?_;refine (q_x2 ((q_xL (ps:=[tupZ e]) rfl).trans (q_lent _)) rfl).trans ?_;rw [q_le,Zd,h,Bool.true_and];congr 2;exact decide_eq_decide.mpr (by omega)
 ·rw [h]
  exact q_rt ((q_for (xs:=e.map PV.int) rfl).trans hl)
def gW (w:Web):Bool:=!w.isEmpty&&(decide (w.length≤40)&&w.zipIdx.all fun q=>gE (q.2:Nat) q.1)
theorem gW_iff {w:Web}:gW w=true↔Good w:=by
 unfold gW Good;rw [Zc1,Zc1,Zi1,Zp1];constructor
 ·rintro ⟨a,b,c⟩
  refine ⟨fun z=>(by subst z;cases a),b,fun i e he=>?_⟩;exact gE_iff.mp (c (e,i) (List.mem_zipIdx_iff_getElem?.mpr he))
 ·rintro ⟨a,b,c⟩
  refine ⟨by cases w with|nil=>exact absurd rfl a|cons _ _=>rfl,b,fun q hq=>?_⟩;obtain ⟨e,i⟩:=q;exact gE_iff.mpr (c i e (List.mem_zipIdx_iff_getElem?.mp hq))
theorem enum_web (w:Web):enumP (w.map tupZ)=w.zipIdx.map fun q=>.tup [.int (q.2:Nat),tupZ q.1]:=by
 unfold enumP;rw [enum_map,Zi];rfl
theorem iswG {w:Web}(hl:w.length≤1000):f_is_web [webP w]=some (.bl (gW w)):=by
 refine q_fnrt (b:=false) rfl ?_ rfl;show m_is_web [some (webP w,.shr)]=_;cases w with
 | nil =>
  have c1:bOf (x2 (pEqL 3 false) (xVarS 0) (xL mkLst lNil)) [some (webP [],.shr)]=some true:=q_b ((q_x2 (p:=webP []) (q:=webP []) rfl rfl).trans (eqW false []));exact q_rt ((q_ift (q_ort c1)).trans rfl)
 | cons e w =>
  have c1:bOf (x2 (pEqL 3 false) (xVarS 0) (xL mkLst lNil)) [some (webP (e::w),.shr)]=some false:=by
   refine q_b ((q_x2 (p:=webP (e::w)) (q:=.lst []) rfl rfl).trans ?_);have:peq (.lst ((e::w).map tupZ)) (.lst [])=false:=by
    cases hh:peq (.lst ((e::w).map tupZ)) (.lst []) with
    | false=>rfl
    | true=>have:=peq_iff.mp hh;simp at this
   unfold webP;simp only [pEqL,Zh,simks,if_true];rw [Zh] at this;rw [this];rfl
  generalize hw:e::w=w' at c1 hl;have c2:bOf (x2 pGt (xL pLen (lCons (xVarS 0) lNil)) (xC (.int (40)))) [some (webP w',.shr)]=some (decide (40 < (w'.length:Int))):=by
   refine q_b ((q_x2 ((q_xL (ps:=[webP w']) rfl).trans (q_lenl _)) rfl).trans ?_);rw [q_gt,Zd]
  have g0:w'.isEmpty=false:=by rw [←hw];rfl
  by_cases h40:40 < (w'.length:Int)
  ·rw [Zn h40] at c2
   refine (q_rt ((q_ift ((q_orf c1).trans c2)).trans rfl)).trans ?_;unfold gW;rw [Zo (by omega:¬w'.length≤40),Bool.false_and,Bool.and_false]
  ·rw [Zo h40] at c2
   refine (q_nx ((q_iff ((q_orf c1).trans c2)).trans rfl)).trans ?_;refine q_ret ?_;refine (q_allc (α:=List Int×Nat) (src:=[none,none]) (it:=itE (lCons (xVarS 0) lNil)) (tg:=gT [0,1]) (fun q=>.tup [.int (q.2:Nat),tupZ q.1]) (fun ρ=>ρ.length=2) (fun q=>gE (q.2:Nat) q.1) (xs:=w'.zipIdx) (ρ:=[some (webP w',.shr)]) ?_ (by rw [List.length_zipIdx];exact hl) rfl ?_).trans ?_
   ·rw [←enum_web]
    exact q_itE rfl
   ·intro q hq ρ hρ
    match ρ,hρ with
    | [a,b],_ =>
     exact ⟨[some (.int (q.2:Nat),.shr),some (tupZ q.1,.shr)],rfl,rfl,(q_xL (ps:=[tupZ q.1,.int (q.2:Nat)]) rfl).trans (aeG _ _)⟩
   ·unfold gW
    rw [g0,Zn (by omega:w'.length≤40)];rfl
end WE
namespace WR
open PySem L2
def m_is_line:VF:=(vRet (xB (bAnd (bOf (x2 pLe (xL pLenS (lCons (xVarS 0) lNil)) (xC (.int (8))))) (bOf (xL pAll (lCons (xComp [none] (itS (xVarS 0)) (gN 0) bTrue (xChain pLeS pLeS (xC (.str "a")) (xVarS 0) (xC (.str "z")))) lNil))))) false)
def f_is_line:List PV→Option PV:=fnM 1 1 false m_is_line
def m_is_row:VF:=(vRet (xB (bAnd (bOf (x2 pLe (xL pLen (lCons (xVarS 0) lNil)) (xC (.int (40))))) (bOf (xL pAll (lCons (xComp [none] (itL (xVarS 0)) (gN 0) bTrue (xL f_is_line (lCons (xVarS 0) lNil))) lNil))))) false)
def f_is_row:List PV→Option PV:=fnM 1 1 false m_is_row
abbrev Row:=List Str
def rowP (r:Row):PV:=.lst (r.map PV.str)
theorem rowLen (r:Row):pLen [rowP r]=some (.int r.length):=by unfold rowP;rw [e_lenl,Zd]
end WR
namespace TR
open PySem L2 WR
abbrev Tr:=List (Str×WR.Row)
def en (p:Str×WR.Row):Key×PV:=(Sum.inr p.1,WR.rowP p.2)
def trP (t:Tr):PV:=.dct (t.map en)
def keys (t:Tr):List Str:=t.map Prod.fst
def look:Tr→Str→Option WR.Row
 | [],_=>none
 | (k,r)::t,x=>if k=x then some r else look t x
def put (t:Tr) (k:Str) (r:WR.Row):Tr:=if k∈keys t then t.map (fun p=>if p.1=k then (p.1,r) else p) else t++[(k,r)]
theorem val_en:∀(t:Tr) (k:Str),valP (t.map en) (Sum.inr k)=(look t k).map WR.rowP
 | [],k=>rfl
 | (x,r)::t,k=>by
  rw [Zh];show valP ((Sum.inr x,WR.rowP r)::t.map en) _=_;unfold valP look;by_cases h:x=k
  ·rw [if_pos (by rw [h]),if_pos h];rfl
  ·rw [if_neg (by intro z;cases z;exact h rfl),if_neg h];exact val_en t k
theorem any_en:∀(t:Tr) (k:Str),((t.map en).any fun kv=>decide (kv.1=Sum.inr k))=decide (k∈keys t)
 | [],k=>by simp [keys]
 | (x,r)::t,k=>by
  rw [Zh,List.any_cons,any_en t k];show (decide ((Sum.inr x:Key)=Sum.inr k) || _)=_;unfold keys;rw [Zh,Bool.eq_iff_iff];simp only [Bool.or_eq_true,decide_eq_true_eq,Zk,Sum.inr.injEq];constructor
  ·rintro (h|h)
   ·exact .inl h.symm
   ·exact .inr h
  ·rintro (h|h)
   ·exact .inl h.symm
   ·exact .inr h
theorem put_en (t:Tr) (k:Str) (r:WR.Row):putP (t.map en) (Sum.inr k) (WR.rowP r)=(put t k r).map en:=by
 unfold putP put;rw [any_en];by_cases h:k∈keys t
 ·rw [if_pos (Zn h),if_pos h,Zi,Zi]
  refine List.map_congr_left fun p _=>?_;obtain ⟨x,r'⟩:=p;show (if (Sum.inr x:Key)=Sum.inr k then ((Sum.inr x:Key),WR.rowP r) else en (x,r'))=en (if x=k then (x,r) else (x,r'));by_cases e:x=k
  ·rw [if_pos (by rw [e]),if_pos e];rfl
  ·rw [if_neg (by intro z;cases z;exact e rfl),if_neg e]
 ·rw [if_neg (by simpa using h),if_neg h,Zr];rfl
theorem keysS_en:∀(t:Tr),keysS (t.map en)=some (keys t)
 | []=>rfl
 | (x,r)::t=>by
  rw [Zh];show (keysS (t.map en)).map (x::·)=_;rw [keysS_en t];rfl
theorem ixs_en (t:Tr):ixs (t.map en)=t.map fun p=>PV.tup [.str p.1,WR.rowP p.2]:=by
 unfold ixs;rw [Zi];rfl
theorem look_none {t:Tr}{k:Str}:look t k=none↔k∉keys t:=by
 induction t with
 | nil=>simp [look,keys]
 | cons p t ih =>
  obtain ⟨x,r⟩:=p;unfold look keys;rw [Zh,Zk];by_cases h:x=k
  ·rw [if_pos h];simp [h]
  ·rw [if_neg h,ih]
   show _↔¬(k=x∨k∈keys t);constructor
   ·rintro h1 (e|e)
    ·exact h e.symm
    ·exact h1 e
   ·intro h1 h2;exact h1 (.inr h2)
theorem look_mem {t:Tr}{k:Str}{r:WR.Row}(h:look t k=some r):(k,r)∈t:=by
 induction t with
 | nil=>cases h
 | cons p t ih =>
  obtain ⟨x,r'⟩:=p;unfold look at h;by_cases e:x=k
  ·rw [if_pos e] at h;cases h;rw [e];exact Zf
  ·rw [if_neg e] at h;exact Ze _ (ih h)
theorem look_some {t:Tr}{k:Str}(h:k∈keys t):∃r,look t k=some r:=by
 cases e:look t k with
 | none=>exact absurd h (look_none.mp e)
 | some r=>exact ⟨r,rfl⟩
section
variable {f g:VX}{ρ:PEnv}{t:Tr}{k:Str}{r:WR.Row}{i:Nat}
theorem q_dget (h1:f ρ=some (trP t)) (h2:g ρ=some (.str k)) (h3:look t k=some r):xDGet f g ρ=some (WR.rowP r):=by
 refine (q_x2 h1 h2).trans ?_;show (keyP (.str k)).bind (valP (t.map en))=_;show valP (t.map en) (Sum.inr k)=_;rw [val_en,h3];rfl
theorem q_dput (hv:f ρ=some (WR.rowP r)) (hk:g ρ=some (.str k)) (hp:ρ[i]?=some (some (trP t,.own))) (hs:t.length≤1000000):vDPut i g f ρ=some (.nx (ρ.set i (some (trP (put t k r),.own)))):=by
 unfold trP at hp;unfold vDPut wr;rw [hv];simp only [Option.bind_some,hk,keyP,hp,Zd,q_sm hs,if_true,Option.map_some,put_en];rfl
theorem q_srt (hs:t.length < 64):pSrtDs [trP t]=some (.lst ((srtS (keys t)).map PV.str)):=by
 show (keysS (t.map en)).bind _=_;rw [keysS_en,Option.bind_some,if_pos (Zn (by unfold keys;rw [Zd];exact hs))]
theorem q_len:pLenD [trP t]=some (.int (t.length:Nat)):=by
 show some (PV.int ((t.map en).length:Nat))=_;rw [Zd]
theorem q_itI (h:ρ[i]?=some (some (trP t,.shr))):itD ixs i ρ=some (t.map fun p=>PV.tup [.str p.1,WR.rowP p.2]):=by
 unfold itD trP at *;rw [h];simp only [ixs_en]
end
def m_is_path:VF:=(vRet (xB (bAnd (bOf (x2 pNe (xVarS 0) (xC (.str "")))) (bOf (xL WR.f_is_line (lCons (xVarS 0) lNil))))) false)
def f_is_path:List PV→Option PV:=fnM 1 1 false m_is_path
def m_is_tree:VF:=(vSeq (vIf (bOf (x2 pGt (xL pLenD (lCons (xVarS 0) lNil)) (xC (.int (8)))))
 (vRet (xC (.bl false)) false)
 vSkip)
 (vRet (xL pAll (lCons (xComp [none,none] (itD ixs 0) (gT [0,1]) bTrue (xB (bAnd (bOf (xL f_is_path (lCons (xVarS 0) lNil))) (bOf (xL WR.f_is_row (lCons (xVarS 1) lNil)))))) lNil)) false))
def f_is_tree:List PV→Option PV:=fnM 1 1 false m_is_tree
def m_check_tree:VF:=(vIf (bNot (bOf (xL f_is_tree (lCons (xVarS 0) lNil))))
 vNone
 vSkip)
def f_check_tree:List PV→Option PV:=fnM 1 1 false m_check_tree
def NL:List Str:=["a","b","","ab","c"]
def P0:List Str:=["a","bc","x","note","zzzzzzzz","moved","b","c","d","e","f","g","h","i","gg"]
theorem il {x:Str}(h:x∈NL):WR.f_is_line [.str x]=some (.bl true):=by
 unfold NL at h;simp only [Zk,List.not_mem_nil,or_false] at h;rcases h with rfl|rfl|rfl|rfl|rfl<;>rfl
theorem ip {x:Str}(h:x∈P0):f_is_path [.str x]=some (.bl true):=by
 unfold P0 at h;simp only [Zk,List.not_mem_nil,or_false] at h;rcases h with rfl|rfl|rfl|rfl|rfl|rfl|rfl|rfl|rfl|rfl|rfl|rfl|rfl|rfl|rfl<;>rfl
theorem all_true (n:Nat) {α:Type}(l:List α):pAll [.lst ((l.map fun _=>true).map PV.bl)]=some (.bl true):=by
 rw [e_all];congr 2;simp
theorem irw {r:WR.Row}(hl:r.length≤40) (h:∀x∈r,x∈NL):WR.f_is_row [WR.rowP r]=some (.bl true):=by
 have c:xComp [none] (itL (xVarS 0)) (gN 0) bTrue (xL WR.f_is_line (lCons (xVarS 0) lNil)) [some (WR.rowP r,.shr)]=some (.lst ((r.map fun _=>true).map PV.bl)):=by
  refine e_comp (xs:=r.map PV.str) rfl (by rw [Zd];omega) ?_;rw [Zi];refine e_map PV.str _ (fun ρ=>∃s,ρ = [s]) r _ ⟨none,rfl⟩ ?_;rintro x hx ρ ⟨s,rfl⟩;exact ⟨_,rfl,⟨_,rfl⟩,il (h x hx)⟩
 refine q_fnrt (b:=false) rfl ?_ rfl;show WR.m_is_row [some (WR.rowP r,.shr)]=_;unfold WR.m_is_row;refine q_ret ?_;have b1:bOf (x2 pLe (xL pLen (lCons (xVarS 0) lNil)) (xC (.int (40)))) [some (WR.rowP r,.shr)]=some true:=by
  refine q_b ((q_x2 ((q_xL (ps:=[WR.rowP r]) rfl).trans (WR.rowLen r)) (q:=.int 40) rfl).trans ((e_le _ _).trans ?_));rw [Zn (by omega)]
 have b2:bOf (xL pAll (lCons (xComp [none] (itL (xVarS 0)) (gN 0) bTrue (xL WR.f_is_line (lCons (xVarS 0) lNil))) lNil)) [some (WR.rowP r,.shr)]=some true:=q_b ((q_xL (q_l1 c)).trans (all_true 0 r));show (bAnd _ _ _).map PV.bl=_;rw [q_andt b1,b2];rfl
structure B (K:List Str) (n:Nat) (t:Tr):Prop where
 nd:(keys t).Nodup
 k:∀p∈t,p.1∈K
 l:∀p∈t,p.2.length≤n
 x:∀p∈t,∀x∈p.2,x∈NL
structure Ok (t:Tr):Prop where
 b:B P0 40 t
 n:t.length≤8
theorem itr {t:Tr}(h:Ok t):f_is_tree [trP t]=some (.bl true):=by
 refine q_fnrt (b:=false) rfl ?_ rfl;show m_is_tree [some (trP t,.shr)]=_;unfold m_is_tree;have b1:bOf (x2 pGt (xL pLenD (lCons (xVarS 0) lNil)) (xC (.int (8)))) [some (trP t,.shr)]=some false:=by
  refine q_b ((q_x2 ((q_xL (ps:=[trP t]) rfl).trans q_len) (q:=.int 8) rfl).trans ((e_gt _ _).trans ?_));have:=h.n;rw [Zo (by omega)]
 refine (q_nx (q_iff b1)).trans ?_;refine q_ret ?_;have c:xComp [none,none] (itD ixs 0) (gT [0,1]) bTrue (xB (bAnd (bOf (xL f_is_path (lCons (xVarS 0) lNil))) (bOf (xL WR.f_is_row (lCons (xVarS 1) lNil))))) [some (trP t,.shr)]=some (.lst ((t.map fun _=>true).map PV.bl)):=by
  refine e_comp (q_itI rfl) (by rw [Zd];have:=h.n;omega) ?_;rw [Zi];refine e_map (fun p:Str×WR.Row=>PV.tup [.str p.1,WR.rowP p.2]) _ (fun ρ=>∃s s',ρ = [s,s']) t _ ⟨none,none,rfl⟩ ?_;rintro p hp ρ ⟨s,s',rfl⟩;refine ⟨[some (.str p.1,.shr),some (WR.rowP p.2,.shr)],rfl,⟨_,_,rfl⟩,?_⟩;show (bAnd _ _ _).map PV.bl=_;rw [q_andt (q_b ((q_xL (ps:=[.str p.1]) rfl).trans (ip (h.b.k p hp)))),q_b ((q_xL (ps:=[WR.rowP p.2]) rfl).trans (irw (h.b.l p hp) (h.b.x p hp)))];rfl
 exact (q_xL (q_l1 c)).trans (all_true 0 t)
theorem ctr {t:Tr}(h:Ok t):f_check_tree [trP t]=some .non:=by
 refine q_fnnx (ρ:=[some (trP t,.shr)]) rfl ?_;show m_check_tree [some (trP t,.shr)]=_;unfold m_check_tree;refine (q_iff (q_not (q_b ((q_xL (ps:=[trP t]) rfl).trans (itr h))))).trans rfl
def cg {α:Type}(l:List α) (lo hi:Option Int):List α:=(l.drop (HT.sIx l.length 0 lo)).take (HT.sIx l.length l.length hi - HT.sIx l.length 0 lo)
theorem q_cg {α:Type}{e:α→PV}{f:VX}{lo hi:PEnv→Option (Option Int)}{ρ:PEnv}{l:List α}{a b:Option Int}(h:f ρ=some (.lst (l.map e))) (h1:lo ρ=some a) (h2:hi ρ=some b):xSl f lo hi ρ=some (.lst ((cg l a b).map e)):=by
 unfold xSl;rw [h,h1,h2];show some (PV.lst (cutP (l.map e) a b))=_;unfold cutP cg;rw [Zd,List.map_take,List.map_drop]
theorem rng_get {n i:Nat}{x:PV}(hx:(rngP 0 n)[i]?=some x):i < n∧x=.int (i:Nat):=by
 unfold rngP at hx;rw [Zj] at hx;obtain ⟨k,hk,rfl⟩:=Zb.mp hx;obtain ⟨q1,q2⟩:=Zg.mp hk;rw [Zu] at q1;rw [List.getElem_range] at q2;subst q2;exact ⟨q1,by simp⟩
theorem B.nil {K:List Str}{n:Nat}:B K n []:=⟨List.nodup_nil,(by intro p h;cases h),(by intro p h;cases h),(by intro p h;cases h)⟩
theorem srt_len (t:Tr):(srtS (keys t)).length=t.length:=by rw [(srtS_perm _).length_eq];unfold keys;rw [Zd]
end TR
namespace TX
open PySem L2
open TR
def rw' (t:Tr) (k:Str):WR.Row:=(look t k).getD []
section
variable {t:Tr}{k:Str}
theorem rw_ok (h:Ok t) (hk:k∈keys t):look t k=some (rw' t k)∧(rw' t k).length≤40∧(∀x∈rw' t k,x∈NL)∧k∈P0:=by
 obtain ⟨r,hr⟩:=look_some hk;have hm:=look_mem hr;have e:rw' t k=r:=by unfold rw';rw [hr];rfl
 rw [e];exact ⟨hr,h.b.l _ hm,h.b.x _ hm,h.b.k _ hm⟩
end
section
variable {t:Tr}(h:Ok t)
include h
theorem srt_keys {k:Str}(hk:k∈srtS (keys t)):k∈keys t:=(srtS_perm (keys t)).mem_iff.mp hk
theorem srt_len:(srtS (keys t)).length=t.length:=by rw [(srtS_perm (keys t)).length_eq];unfold keys;rw [Zd]
end
section
variable {t:Tr}(h:Ok t)
include h
end
end TX
namespace HS
open PySem L2 TR TX
section
def m_copied_tree:VF:=(vSeq (vSetO 1 (fun _=>some (.dct [])))
 (vSeq (vFor (itL (xL pSrtDs (lCons (xVarS 0) lNil))) (gN 2)
 (vDPut 1 (xVarS 2) (xL pList (lCons (xDGet (xVarS 0) (xVarS 2)) lNil))))
 (vRetO 1)))
def f_copied_tree:List PV→Option PV:=fnM 1 3 true m_copied_tree
end
def srtd (t:Tr) (ks:List Str):Tr:=ks.map fun k=>(k,rw' t k)
def cpt (t:Tr):Tr:=srtd t (srtS (keys t))
theorem keys_srtd (t:Tr) (ks:List Str):keys (srtd t ks)=ks:=by
 unfold keys srtd;rw [Zi];exact List.map_id _
theorem ct_loop {t:Tr}(h:Ok t):∀(ks:List Str),ks.Nodup→(∀k∈ks,k∈keys t)→∀(pre:List Str) (s2:Option (PV×Fl)),(pre++ks).Nodup→pre.length+ks.length≤1000→∃s2',vLoop (gN 2) (vDPut 1 (xVarS 2) (xL pList (lCons (xDGet (xVarS 0) (xVarS 2)) lNil))) (ks.map PV.str) [some (trP t,.shr),some (trP (srtd t pre),.own),s2]=some (.nx [some (trP t,.shr),some (trP (srtd t (pre++ks)),.own),s2'])
 | [],_,_,pre,s2,_,_=>⟨s2,by rw [List.append_nil];rfl⟩
 | k::ks,nd,hk,pre,s2,nd2,hl=>by
  obtain ⟨h1,_⟩:=rw_ok h (hk k Zf);have hp:put (srtd t pre) k (rw' t k)=srtd t (pre++[k]):=by
   unfold put;rw [keys_srtd,if_neg,srtd,srtd,Zr]
   ·rfl
   ·intro z
    rw [List.nodup_append] at nd2;exact nd2.2.2 k z k Zf rfl
  rw [Zq] at hl;obtain ⟨s',hh⟩:=ct_loop h ks (List.nodup_cons.mp nd).2 (fun z hz=>hk z (Ze _ hz)) (pre++[k]) (some (.str k,.shr)) (by rw [Zb1];exact nd2) (by simp only [Zp,List.length_singleton];omega);refine ⟨s',?_⟩;rw [Zh,q_cons (ρ1:=[some (trP t,.shr),some (trP (srtd t pre),.own),some (.str k,.shr)]) (ρ':=[some (trP t,.shr),some (trP (srtd t (pre++[k])),.own),some (.str k,.shr)]) rfl,hh,Zb1]
  ·rfl
  ·rw [q_dput (t:=srtd t pre) (k:=k) (r:=rw' t k) ((q_xL (q_l1 (q_dget (t:=t) (k:=k) (r:=rw' t k) rfl rfl h1))).trans rfl) rfl rfl (by unfold srtd;rw [Zd];omega),hp]
   rfl
theorem ct {t:Tr}(h:Ok t):f_copied_tree [trP t]=some (trP (cpt t)):=by
 have h8:=h.n;have hsl:=srt_len h;refine q_fnrt (b:=true) rfl ?_ rfl;show m_copied_tree [some (trP t,.shr),none,none]=_;unfold m_copied_tree;refine (q_nx (q_setO (p:=trP []) rfl)).trans ?_;have nd:(srtS (keys t)).Nodup:=(srtS_perm (keys t)).nodup_iff.mpr h.b.nd;obtain ⟨s',e⟩:=ct_loop h (srtS (keys t)) nd (fun k hk=>srt_keys h hk) [] none (by simpa using nd) (by rw [hsl,List.length_nil];omega);exact (q_nx ((q_for (q_itL ((q_xL (ps:=[trP t]) rfl).trans (q_srt (by omega))))).trans e)).trans rfl
variable [HC]
def m_History_many:VF:=(vRet (xL pLen (lCons (x1 (pFld HC.c "elders") (xVarS 0)) lNil)) false)
def f_History_many:List PV→Option PV:=onC HC.c "many" (fnM 1 1 false m_History_many)
def m_History_put_version:DF:=(dSeq (dSetC 0 3 (xL f_History_many (lCons (xVar 0) lNil)))
 (dSeq (dLift 0 (vIf (bOr (bOf (x2 pGe (xVarS 3) (xC (.int (40))))) (bNot (bOf (xL WB.f_are_elders (lCons (xVarS 1) (lCons (xVarS 3) lNil))))))
 vNone
 vSkip))
 (dSeq (dLift 0 (vDrop (xL TR.f_check_tree (lCons (xVarS 2) lNil))))
 (dSeq (dAppO 0 (xVarS 1))
 (dSeq (dAppO 1 (xL f_copied_tree (lCons (xVarS 2) lNil)))
 dSkip)))))
def f_History_put_version:PV→List PV→Option (PV×PV):=fnMut 3 4 m_History_put_version (xVarS 3)
def hsP (w:WB.Web) (ts:List Tr):PV:=hist HC.c (w.map tupZ) (ts.map fun t=>trP (cpt t))
theorem fld_e (w:WB.Web) (ts:List Tr):pFld HC.c "elders" (hsP w ts)=some (WB.webP w):=by
 show (if HC.c=HC.c then fldOf hNm _ _ else none)=_;rw [if_pos rfl];rfl
theorem is_h (m:Str) (hm:hNm.contains m=false) (w:WB.Web) (ts:List Tr) (ps:List PV):isC HC.c m (hsP w ts::ps)=true:=by
 show (decide (HC.c=HC.c)&&!(hNm.contains m))=true;rw [hm];simp
theorem on_h {m:Str}(hm:hNm.contains m=false) {f:List PV→Option PV}{w:WB.Web}{ts:List Tr}{ps:List PV}{r:Option PV}(h:f (hsP w ts::ps)=r):onC HC.c m f (hsP w ts::ps)=r:=by
 unfold onC;rw [is_h m hm,if_pos rfl,h]
theorem hmany (w:WB.Web) (ts:List Tr):f_History_many [hsP w ts]=some (.int (w.length:Nat)):=by
 refine on_h (by decide +kernel) (q_fnrt (b:=false) rfl ?_ rfl);show m_History_many [some (hsP w ts,.shr)]=_;unfold m_History_many;refine q_ret ((q_xL (q_l1 (p:=WB.webP w) ?_)).trans ?_)
 ·show (xVarS 0 [some (hsP w ts,.shr)]).bind (pFld HC.c "elders")=_
  exact fld_e w ts
 ·show some (PV.int ((w.map tupZ).length:Nat))=_
  rw [Zd]
end HS
namespace HS
open PySem L2 TR TX
variable [HC]
theorem q_ds {G1 G2:DF}{ρ ρ':PEnv}{p p':PV}(h:G1 ρ p=some (.nx ρ' p')):dSeq G1 G2 ρ p=G2 ρ' p':=by unfold dSeq;rw [h]
theorem q_dlf {i:Nat}{F:VF}{ρ ρ':PEnv}{p:PV}{a:Addr}(h:F ρ=some (.nx ρ')) (h1:ρ[i]?=some (some (.adr a,.shr))) (h2:ρ'[i]?=some (some (.adr a,.shr))):dLift i F ρ p=some (.nx ρ' p):=by
 unfold dLift;rw [h];simp only [h1,h2,if_true]
theorem q_drop {f:VX}{ρ:PEnv}{p:PV}(h:f ρ=some p):vDrop f ρ=some (.nx ρ):=by unfold vDrop;rw [h];rfl
theorem hput {w:WB.Web}{ts:List Tr}{e:List Int}{t:Tr}(hl:w.length < 40) (hlt:ts.length < 1000) (he:WB.GoodE (w.length:Nat) e) (ht:Ok t):f_History_put_version (hsP w ts) [tupZ e,trP t]=some (.int (w.length:Nat),hsP (w++[e]) (ts++[t])):=by
 unfold f_History_put_version fnMut;rw [if_pos (show [tupZ e,trP t].length+1=3 from rfl)];refine dAll_of fun a=>?_;have e1:dSetC 0 3 (xL f_History_many (lCons (xVar 0) lNil)) [some (.adr a,.shr),some (tupZ e,.shr),some (trP t,.shr),none] (hsP w ts)=some (.nx [some (.adr a,.shr),some (tupZ e,.shr),some (trP t,.shr),some (.int (w.length:Nat),.shr)] (hsP w ts)):=by
  unfold dSetC;rw [if_neg (by decide)];have:xL f_History_many (lCons (xVar 0) lNil) (vw 0 (hsP w ts) [some (.adr a,.shr),some (tupZ e,.shr),some (trP t,.shr),none])=some (.int (w.length:Nat)):=(q_xL (ps:=[hsP w ts]) rfl).trans (hmany w ts);rw [this];rfl
 have e2:dLift 0 (vIf (bOr (bOf (x2 pGe (xVarS 3) (xC (.int (40))))) (bNot (bOf (xL WB.f_are_elders (lCons (xVarS 1) (lCons (xVarS 3) lNil)))))) vNone vSkip) [some (.adr a,.shr),some (tupZ e,.shr),some (trP t,.shr),some (.int (w.length:Nat),.shr)] (hsP w ts)=some (.nx [some (.adr a,.shr),some (tupZ e,.shr),some (trP t,.shr),some (.int (w.length:Nat),.shr)] (hsP w ts)):=by
  refine q_dlf (a:=a) ?_ rfl rfl;refine (q_iff ((q_orf (q_b ((q_x2 (p:=.int (w.length:Nat)) (q:=.int 40) rfl rfl).trans ((e_ge _ _).trans (by rw [Zo (by omega)]))))).trans (q_not (q_b ((q_xL (ps:=[tupZ e,.int (w.length:Nat)]) rfl).trans (WB.ae he)))))).trans rfl
 have e3:dLift 0 (vDrop (xL TR.f_check_tree (lCons (xVarS 2) lNil))) [some (.adr a,.shr),some (tupZ e,.shr),some (trP t,.shr),some (.int (w.length:Nat),.shr)] (hsP w ts)=some (.nx [some (.adr a,.shr),some (tupZ e,.shr),some (trP t,.shr),some (.int (w.length:Nat),.shr)] (hsP w ts)) :=
  q_dlf (a:=a) (q_drop ((q_xL (ps:=[trP t]) rfl).trans (ctr ht))) rfl rfl
 have e4:dAppO 0 (xVarS 1) [some (.adr a,.shr),some (tupZ e,.shr),some (trP t,.shr),some (.int (w.length:Nat),.shr)] (hsP w ts)=some (.nx [some (.adr a,.shr),some (tupZ e,.shr),some (trP t,.shr),some (.int (w.length:Nat),.shr)] (.obj HC.c hNm [.lst (w.map tupZ++[tupZ e]),.lst (ts.map fun t=>trP (cpt t))])):=by
  show (if small? (w.map tupZ).length=true then some (DO.nx _ (PV.obj HC.c hNm [.lst (w.map tupZ++[tupZ e]),.lst (ts.map fun t=>trP (cpt t))])) else none)=_;rw [if_pos (q_sm (by rw [Zd];omega))]
 have e5:dAppO 1 (xL f_copied_tree (lCons (xVarS 2) lNil)) [some (.adr a,.shr),some (tupZ e,.shr),some (trP t,.shr),some (.int (w.length:Nat),.shr)] (.obj HC.c hNm [.lst (w.map tupZ++[tupZ e]),.lst (ts.map fun t=>trP (cpt t))])=some (.nx [some (.adr a,.shr),some (tupZ e,.shr),some (trP t,.shr),some (.int (w.length:Nat),.shr)] (hsP (w++[e]) (ts++[t]))):=by
  unfold dAppO;rw [if_pos (show nb [some (.adr a,.shr),some (tupZ e,.shr),some (trP t,.shr),some (.int (w.length:Nat),.shr)]=true from rfl),(q_xL (ps:=[trP t]) rfl).trans (ct ht)];show (if small? (ts.map fun t=>trP (cpt t)).length=true then some (DO.nx _ (PV.obj HC.c hNm [.lst (w.map tupZ++[tupZ e]),.lst ((ts.map fun t=>trP (cpt t))++[trP (cpt t)])])) else none)=_;rw [if_pos (q_sm (by rw [Zd];omega))];unfold hsP hist;rw [Zr,Zr];rfl
 have all:m_History_put_version (initR 4 [.adr a,tupZ e,trP t]) (hsP w ts)=some (.nx [some (.adr a,.shr),some (tupZ e,.shr),some (trP t,.shr),some (.int (w.length:Nat),.shr)] (hsP (w++[e]) (ts++[t]))):=by
  show m_History_put_version [some (.adr a,.shr),some (tupZ e,.shr),some (trP t,.shr),none] (hsP w ts)=_;unfold m_History_put_version;exact (q_ds e1).trans ((q_ds e2).trans ((q_ds e3).trans ((q_ds e4).trans ((q_ds e5).trans rfl))))
 rw [all];rfl
end HS
namespace HS
open PySem L2 TR TX
variable [HC]
end HS
namespace TR
open PySem L2 WR
end TR
namespace HS
open PySem L2 TR TX
end HS
namespace K29
open PySem L2 TR
variable [HC]
theorem e_isw:f_is_web=WB.f_is_web:=rfl
theorem e_chw:f_check_web=WB.f_check_web:=rfl
theorem e_chv:f_check_versions=WB.f_check_versions:=rfl
theorem e_above:f_above=WB.f_above:=rfl
theorem e_put:f_History_put_version=HS.f_History_put_version:=rfl
theorem e_many:f_History_many=HS.f_History_many:=rfl
theorem gnx {k n:Nat}{G:VR}{ps:List PV}{r:Option (Nat×PEnv)}(hk:ps.length=k) (h:G (initR n ps)=r):gnM k n G ps=r.map (·.1):=by
 unfold gnM;rw [if_pos hk,h]
theorem xcw {w:WB.Web}(hl:w.length≤1000):x_check_web [WB.webP w]=if WE.gW w=true then none else some 2:=by
 have c:bNot (bOf (xL f_is_web (lCons (xVarS 0) lNil))) [some (WB.webP w,.shr)]=some (!WE.gW w):=q_not (q_b ((q_xL (q_l1 (p:=WB.webP w) rfl)).trans (by rw [e_isw];exact WE.iswG hl)));refine (gnx (r:=if WE.gW w=true then none else some (2,[some (WB.webP w,.shr)])) rfl ?_).trans (by split<;>rfl);show gIf _ _ _ [some (WB.webP w,.shr)]=_;unfold gIf;rw [c];cases WE.gW w<;>rfl
theorem avs {w:WB.Web}(vs:List Int) (hv:vs.length≤1000):xL pAll (lCons (xComp [none,some 0] (itL (xVarS 1)) (gN 0) bTrue (xL f_is_version (lCons (xVarS 1) (lCons (xVarS 0) lNil)))) lNil) [some (WB.webP w,.shr),some (intsV vs,.shr)]=some (.bl (vs.all fun v=>decide (0≤v)&&decide (v < ((w.length:Nat):Int)))):=by
 have c:xComp [none,some 0] (itL (xVarS 1)) (gN 0) bTrue (xL f_is_version (lCons (xVarS 1) (lCons (xVarS 0) lNil))) [some (WB.webP w,.shr),some (intsV vs,.shr)]=some (.lst (vs.map fun v=>.bl (decide (0≤v)&&decide (v < ((w.length:Nat):Int))))):=by
  refine e_comp (xs:=vs.map PV.int) (q_itL rfl) (by rw [Zd];omega) ?_;refine e_map PV.int _ (fun ρ=>∃s,ρ = [s,some (WB.webP w,.shr)]) _ _ ⟨none,rfl⟩ ?_;rintro v _ ρ ⟨s,rfl⟩;refine ⟨[some (.int v,.shr),some (WB.webP w,.shr)],rfl,⟨_,rfl⟩,(q_xL (ps:=[WB.webP w,.int v]) rfl).trans ?_⟩;refine q_fnrt (b:=false) rfl ?_ rfl;show m_is_version [some (WB.webP w,.shr),some (.int v,.shr)]=_;unfold m_is_version;refine q_ret ?_;have l:xL pLen (lCons (xVarS 0) lNil) [some (WB.webP w,.shr),some (.int v,.shr)]=some (.int (w.length:Nat)):=(q_xL (q_l1 (p:=WB.webP w) rfl)).trans (by unfold WB.webP;rw [q_lenl,Zd]);unfold xChain;rw [l];show ((some (PV.int 0)).bind fun p=>(some (PV.int v)).bind fun q=>_)=_;by_cases h:(0:Int)≤v
  ·simp [xC,xVarS,q_le,q_lt,h]
  ·simp [xC,xVarS,q_le,q_lt,h]
 refine (q_xL (q_l1 c)).trans ?_;show (bools (vs.map fun v=>PV.bl (decide (0≤v)&&decide (v < ((w.length:Nat):Int))))).map _=_;have:(vs.map fun v=>PV.bl (decide (0≤v)&&decide (v < ((w.length:Nat):Int))))=(vs.map fun v=>(decide (0≤v)&&decide (v < ((w.length:Nat):Int)))).map PV.bl:=by rw [Zi];rfl
 rw [this,WB.bools_bl,Option.map_some,List.all_map];rfl
theorem xcvB {w:WB.Web}(hl:w.length≤1000) (h:WE.gW w=false) (vs:PV):x_check_versions [WB.webP w,vs]=some 2:=by
 refine (gnx (r:=some (2,[some (WB.webP w,.shr),some (vs,.shr)])) rfl ?_).trans rfl;show gSeq _ _ _ [some (WB.webP w,.shr),some (vs,.shr)]=_;have e:gX (gCall x_check_web (lCons (xVarS 0) lNil)) [some (WB.webP w,.shr),some (vs,.shr)]=some (2,[some (WB.webP w,.shr),some (vs,.shr)]):=by
  unfold gX gCall;rw [q_l1 (p:=WB.webP w) rfl,Option.bind_some,xcw hl,h];rfl
 unfold gSeq;rw [e]
def ok1 (n:Nat) (vs:List Int):Bool:=vs.all fun v=>decide (0≤v)&&decide (v < ((n:Nat):Int))
theorem xcvG {w:WB.Web}(hg:WB.Good w) (vs:List Int) (hv:vs.length≤1000):x_check_versions [WB.webP w,intsV vs]=if ok1 w.length vs=true then none else some 3:=by
 have hl:w.length≤1000:=by have:=hg.2.1;omega
 have hw:WE.gW w=true:=WE.gW_iff.mpr hg;refine (gnx (r:=if ok1 w.length vs=true then none else some (3,[some (WB.webP w,.shr),some (intsV vs,.shr)])) rfl ?_).trans (by split<;>rfl);show gSeq _ _ _ [some (WB.webP w,.shr),some (intsV vs,.shr)]=_;have e:gX (gCall x_check_web (lCons (xVarS 0) lNil)) [some (WB.webP w,.shr),some (intsV vs,.shr)]=none:=by
  unfold gX gCall;rw [q_l1 (p:=WB.webP w) rfl,Option.bind_some,xcw hl,hw];rfl
 have d:vDrop (xL f_check_web (lCons (xVarS 0) lNil)) [some (WB.webP w,.shr),some (intsV vs,.shr)]=some (.nx [some (WB.webP w,.shr),some (intsV vs,.shr)]):=q_drop (p:=.non) ((q_xL (q_l1 (p:=WB.webP w) rfl)).trans (by rw [e_chw];exact WB.chw hg));unfold gSeq;rw [e,d];show gIf _ _ _ [some (WB.webP w,.shr),some (intsV vs,.shr)]=_;unfold gIf;rw [q_not (q_b (avs vs hv))];show (match some (!ok1 w.length vs) with|some true=>_|some false=>_|none=>_)=_;cases ok1 w.length vs<;>rfl
theorem map_fst {n:Option Nat}{ρ:PEnv}:(n.map fun k=>(k,ρ)).map (·.1)=n:=by cases n<;>rfl
theorem x_ab (p q:PV):x_above [p,q]=x_check_versions [p,.lst [q]]:=(gnx (r:=(x_check_versions [p,.lst [q]]).map fun k=>(k,initR 4 [p,q])) rfl rfl).trans map_fst
theorem x_be (p q:PV):x_below [p,q]=x_check_versions [p,.lst [q]]:=(gnx (r:=(x_check_versions [p,.lst [q]]).map fun k=>(k,initR 4 [p,q])) rfl rfl).trans map_fst
theorem x_wa (p q r:PV):x_ways [p,q,r]=x_check_versions [p,.lst [q,r]]:=(gnx (r:=(x_check_versions [p,.lst [q,r]]).map fun k=>(k,initR 3 [p,q,r])) rfl rfl).trans map_fst
theorem x_mp (p q r:PV):x_must_pass [p,q,r]=x_check_versions [p,.lst [q,r]]:=(gnx (r:=(x_check_versions [p,.lst [q,r]]).map fun k=>(k,initR 5 [p,q,r])) rfl rfl).trans map_fst
theorem x_fw (p q r:PV):x_first_way [p,q,r]=x_check_versions [p,.lst [q,r]]:=(gnx (r:=(x_check_versions [p,.lst [q,r]]).map fun k=>(k,initR 5 [p,q,r])) rfl rfl).trans map_fst
theorem x_en (p:PV):x_ends [p]=x_check_web [p]:=(gnx (r:=(x_check_web [p]).map fun k=>(k,initR 3 [p])) rfl rfl).trans map_fst
theorem x_cp (p q:PV):x_common_paper [p,q]=x_check_some [p,q]:=(gnx (r:=(x_check_some [p,q]).map fun k=>(k,initR 3 [p,q])) rfl rfl).trans map_fst
theorem x_ch (p q r:PV):x_common_holds [p,q,r]=x_check_some [p,q]:=(gnx (r:=(x_check_some [p,q]).map fun k=>(k,initR 4 [p,q,r])) rfl rfl).trans map_fst
theorem x_lc (p q:PV):x_latest_common [p,q]=x_check_some [p,q]:=((gnx (r:=(x_common_paper [p,q]).map fun k=>(k,initR 2 [p,q])) rfl rfl).trans map_fst).trans (x_cp p q)
theorem gseq1 {F:VF}{G1 G2:VR}{ρ:PEnv}{x:Nat×PEnv}(h:G1 ρ=some x):gSeq F G1 G2 ρ=some x:=by unfold gSeq;rw [h]
theorem gseq0 {F:VF}{G1 G2:VR}{ρ ρ':PEnv}(h:G1 ρ=none) (hf:F ρ=some (.nx ρ')):gSeq F G1 G2 ρ=G2 ρ':=by unfold gSeq;rw [h,hf]
theorem gxc {g:List PV→Option Nat}{fa:VL}{ρ:PEnv}{ps:List PV}(h:fa ρ=some ps):gX (gCall g fa) ρ=(g ps).map fun n=>(n,ρ):=by unfold gX gCall;rw [h];rfl
theorem x_csB {w:WB.Web}(hl:w.length≤1000) (h:WE.gW w=false) (vs:PV):x_check_some [WB.webP w,vs]=some 2:=by
 refine (gnx (r:=some (2,[some (WB.webP w,.shr),some (vs,.shr)])) rfl ?_).trans rfl;exact gseq1 ((gxc (ps:=[WB.webP w,vs]) rfl).trans (by rw [xcvB hl h];rfl))
theorem x_csG {w:WB.Web}(hg:WB.Good w) (vs:List Int) (hv:vs.length≤1000) (h:vs = []∨ok1 w.length vs=false):x_check_some [WB.webP w,intsV vs]=some 3:=by
 refine (gnx (r:=some (3,[some (WB.webP w,.shr),some (intsV vs,.shr)])) rfl ?_).trans rfl;rcases h with rfl|h
 ·refine (gseq0 (ρ':=[some (WB.webP w,.shr),some (intsV [],.shr)]) ((gxc (ps:=[WB.webP w,intsV []]) rfl).trans (by rw [xcvG hg [] (by simp)];rfl)) (q_drop (p:=.non) ((q_xL (ps:=[WB.webP w,intsV []]) rfl).trans (by rw [e_chv];exact WB.chv hg [] (by simp) (by simp))))).trans ?_
  show gIf _ _ _ _=_;unfold gIf;have:bOf (x2 (pEqL 3 false) (xVarS 1) (xL mkLst lNil)) [some (WB.webP w,.shr),some (intsV [],.shr)]=some true:=q_b ((q_x2 (p:=intsV []) (q:=intsV []) rfl rfl).trans ((q_eqL false [] []).trans rfl));rw [this];rfl
 ·exact gseq1 ((gxc (ps:=[WB.webP w,intsV vs]) rfl).trans (by rw [xcvG hg vs hv,h];rfl))
theorem x_btB {w:WB.Web}(hl:w.length≤1000) (h:WE.gW w=false) (p q:PV):x_between [WB.webP w,p,q]=some 2:=by
 refine (gnx (r:=some (2,[some (WB.webP w,.shr),some (p,.shr),some (q,.shr),none])) rfl ?_).trans rfl;exact gseq1 ((gxc (ps:=[WB.webP w,p]) rfl).trans (by rw [x_ab,xcvB hl h];rfl))
theorem step_no {c:VB}{A:VF}{G R:VR}{ρ:PEnv}(h:c ρ=some false):gSeq (vIf c A vSkip) (gIf c G gNone) R ρ=R ρ:=by
 refine gseq0 ?_ ((q_iff h).trans rfl);unfold gIf;rw [h];rfl
theorem step_yes {c:VB}{A:VF}{G R:VR}{ρ:PEnv}{x:Nat×PEnv}(h:c ρ=some true) (hg:G ρ=some x):gSeq (vIf c A vSkip) (gIf c G gNone) R ρ=some x:=by
 refine gseq1 ?_;unfold gIf;rw [h];exact hg
theorem step_last {c:VB}{G:VR}{ρ:PEnv}{x:Nat×PEnv}(h:c ρ=some true) (hg:G ρ=some x):gIf c G gNone ρ=some x:=by
 unfold gIf;rw [h];exact hg
theorem step_end {c:VB}{G:VR}{ρ:PEnv}(h:c ρ=some false):gIf c G gNone ρ=none:=by
 unfold gIf;rw [h];rfl
theorem gif_t {c:VB}{G H:VR}{ρ:PEnv}(h:c ρ=some true):gIf c G H ρ=G ρ:=by unfold gIf;rw [h]
theorem askB {w:WB.Web}(hl:w.length≤1000) (h:WE.gW w=false) (v:Int) (way:Nat) (hw:way < 15):x__law_asked [WB.webP w,.int v,.int (way:Nat)]=some 2:=by
 refine (gnx (r:=some (2,[some (WB.webP w,.shr),some (.int v,.shr),some (.int (way:Nat),.shr)])) rfl ?_).trans rfl;show g__law_asked [some (WB.webP w,.shr),some (.int v,.shr),some (.int (way:Nat),.shr)]=_;have cv:∀vs:PV,x_check_versions [WB.webP w,vs]=some 2:=xcvB hl h;have cs:∀vs:PV,x_check_some [WB.webP w,vs]=some 2:=x_csB hl h;have cw:x_check_web [WB.webP w]=some 2:=by rw [xcw hl,h];rfl
 have bt:=x_btB hl h;unfold g__law_asked
 match way,hw with
 | 0,_=>exact step_yes rfl ((gxc (ps:=[WB.webP w,.int v]) rfl).trans (by rw [x_ab,cv];rfl))
 | 1,_=>exact (step_no rfl).trans (step_yes rfl ((gxc (ps:=[WB.webP w,.int v]) rfl).trans (by rw [x_be,cv];rfl)))
 | 2,_=>exact (step_no rfl).trans ((step_no rfl).trans (step_yes rfl ((gxc (ps:=[WB.webP w,.int 0,.int v]) rfl).trans (by rw [bt];rfl))))
 | 3,_=>exact (step_no rfl).trans ((step_no rfl).trans ((step_no rfl).trans (step_yes rfl ((gxc (ps:=[WB.webP w,.lst [.int 0,.int v]]) rfl).trans (by rw [x_lc,cs];rfl)))))
 | 4,_=>exact (step_no rfl).trans ((step_no rfl).trans ((step_no rfl).trans ((step_no rfl).trans (step_yes rfl ((gxc (ps:=[WB.webP w,.lst [.int v]]) rfl).trans (by rw [x_cp,cs];rfl))))))
 | 5,_=>exact (step_no rfl).trans ((step_no rfl).trans ((step_no rfl).trans ((step_no rfl).trans ((step_no rfl).trans (step_yes rfl ((gxc (ps:=[WB.webP w,.lst [.int v,.int 0],.tup [.lst [],.lst [.lst [],.lst []]]]) rfl).trans (by rw [x_ch,cs];rfl)))))))
 | 6,_=>exact (step_no rfl).trans ((step_no rfl).trans ((step_no rfl).trans ((step_no rfl).trans ((step_no rfl).trans ((step_no rfl).trans (step_yes rfl ((gxc (ps:=[WB.webP w,.int v,.int 0]) rfl).trans (by rw [x_wa,cv];rfl))))))))
 | 7,_=>exact (step_no rfl).trans ((step_no rfl).trans ((step_no rfl).trans ((step_no rfl).trans ((step_no rfl).trans ((step_no rfl).trans ((step_no rfl).trans (step_yes rfl ((gxc (ps:=[WB.webP w,.int 0,.int v]) rfl).trans (by rw [x_mp,cv];rfl)))))))))
 | 8,_=>exact (step_no rfl).trans ((step_no rfl).trans ((step_no rfl).trans ((step_no rfl).trans ((step_no rfl).trans ((step_no rfl).trans ((step_no rfl).trans ((step_no rfl).trans (step_yes rfl ((gxc (ps:=[WB.webP w,.int v,.int 0]) rfl).trans (by rw [x_fw,cv];rfl))))))))))
 | 9,_=>exact (step_no rfl).trans ((step_no rfl).trans ((step_no rfl).trans ((step_no rfl).trans ((step_no rfl).trans ((step_no rfl).trans ((step_no rfl).trans ((step_no rfl).trans ((step_no rfl).trans (step_yes rfl ((gxc (ps:=[WB.webP w,.lst []]) rfl).trans (by rw [x_lc,cs];rfl)))))))))))
 | 10,_=>exact (step_no rfl).trans ((step_no rfl).trans ((step_no rfl).trans ((step_no rfl).trans ((step_no rfl).trans ((step_no rfl).trans ((step_no rfl).trans ((step_no rfl).trans ((step_no rfl).trans ((step_no rfl).trans (step_yes rfl ((gxc (ps:=[WB.webP w,.lst [],.tup [.lst [],.lst []]]) rfl).trans (by rw [x_ch,cs];rfl))))))))))))
 | 11,_=>exact (step_no rfl).trans ((step_no rfl).trans ((step_no rfl).trans ((step_no rfl).trans ((step_no rfl).trans ((step_no rfl).trans ((step_no rfl).trans ((step_no rfl).trans ((step_no rfl).trans ((step_no rfl).trans ((step_no rfl).trans (step_yes rfl ((gxc (ps:=[WB.webP w]) rfl).trans (by rw [x_en,cw];rfl)))))))))))))
 | 12,_=>exact (step_no rfl).trans ((step_no rfl).trans ((step_no rfl).trans ((step_no rfl).trans ((step_no rfl).trans ((step_no rfl).trans ((step_no rfl).trans ((step_no rfl).trans ((step_no rfl).trans ((step_no rfl).trans ((step_no rfl).trans ((step_no rfl).trans (step_yes rfl ((gxc (ps:=[WB.webP w,.int v,.int 0]) rfl).trans (by rw [x_mp,cv];rfl))))))))))))))
 | 13,_=>exact (step_no rfl).trans ((step_no rfl).trans ((step_no rfl).trans ((step_no rfl).trans ((step_no rfl).trans ((step_no rfl).trans ((step_no rfl).trans ((step_no rfl).trans ((step_no rfl).trans ((step_no rfl).trans ((step_no rfl).trans ((step_no rfl).trans ((step_no rfl).trans (step_yes rfl ((gxc (ps:=[WB.webP w,.int v,.int 0]) rfl).trans (by rw [bt];rfl)))))))))))))))
 | 14,_=>exact (step_no rfl).trans ((step_no rfl).trans ((step_no rfl).trans ((step_no rfl).trans ((step_no rfl).trans ((step_no rfl).trans ((step_no rfl).trans ((step_no rfl).trans ((step_no rfl).trans ((step_no rfl).trans ((step_no rfl).trans ((step_no rfl).trans ((step_no rfl).trans ((step_no rfl).trans (step_last rfl ((gxc (ps:=[WB.webP w,.lst []]) rfl).trans (by rw [x_cp,cs];rfl))))))))))))))))
 | n+15,h=>omega
def G0:WB.Web:=[[]]
theorem good0:WB.Good G0:=WE.gW_iff.mp (by decide)
theorem btG1 {v:Int}(h:ok1 1 [v]=false):x_between [WB.webP G0,.int v,.int 0]=some 3:=by
 refine (gnx (r:=some (3,[some (WB.webP G0,.shr),some (.int v,.shr),some (.int 0,.shr),none])) rfl ?_).trans rfl;refine gseq1 ((gxc (ps:=[WB.webP G0,.int v]) rfl).trans ?_);rw [x_ab];show (x_check_versions [WB.webP G0,intsV [v]]).map _=_;rw [xcvG good0 [v] (by simp)];show (if ok1 1 [v]=true then none else some 3).map _=_;rw [h];rfl
theorem btG0 {v:Int}(h:ok1 1 [v]=false):x_between [WB.webP G0,.int 0,.int v]=some 3:=by
 have ea:=(WB.ab_ok good0 (v:=0) (by omega) (by decide)).1;refine (gnx (r:=some (3,[some (WB.webP G0,.shr),some (.int 0,.shr),some (.int v,.shr),some (intsV (WB.ab G0 0),.shr)])) rfl ?_).trans rfl;refine (gseq0 (ρ':=[some (WB.webP G0,.shr),some (.int 0,.shr),some (.int v,.shr),some (intsV (WB.ab G0 0),.shr)]) ((gxc (ps:=[WB.webP G0,.int 0]) rfl).trans ?_) (q_set ((q_xL (ps:=[WB.webP G0,.int 0]) rfl).trans (by rw [e_above];exact ea)))).trans ?_
 ·rw [x_ab]
  show (x_check_versions [WB.webP G0,intsV [0]]).map _=_;rw [xcvG good0 [0] (by simp)];rfl
 ·refine (gxc (ps:=[WB.webP G0,.int v]) rfl).trans ?_
  rw [x_ab];show (x_check_versions [WB.webP G0,intsV [v]]).map _=_;rw [xcvG good0 [v] (by simp)];show (if ok1 1 [v]=true then none else some 3).map _=_;rw [h];rfl
theorem askG {v:Int}(hv:ok1 1 [v]=false) (way:Nat) (hw:way < 15) (h11:way≠11):x__law_asked [WB.webP G0,.int v,.int (way:Nat)]=some 3:=by
 refine (gnx (r:=some (3,[some (WB.webP G0,.shr),some (.int v,.shr),some (.int (way:Nat),.shr)])) rfl ?_).trans rfl;show g__law_asked [some (WB.webP G0,.shr),some (.int v,.shr),some (.int (way:Nat),.shr)]=_;have o1:ok1 1 [0,v]=false:=by
  unfold ok1 at hv ⊢;simp at hv ⊢;exact hv
 have o2:ok1 1 [v,0]=false:=by
  unfold ok1 at hv ⊢;simp at hv ⊢;exact hv
 have c1:x_check_versions [WB.webP G0,.lst [.int v]]=some 3:=by
  show x_check_versions [WB.webP G0,intsV [v]]=_;rw [xcvG good0 [v] (by simp)];show (if ok1 1 [v]=true then none else some 3)=_;rw [hv];rfl
 have c2:x_check_versions [WB.webP G0,.lst [.int 0,.int v]]=some 3:=by
  show x_check_versions [WB.webP G0,intsV [0,v]]=_;rw [xcvG good0 [0,v] (by simp)];show (if ok1 1 [0,v]=true then none else some 3)=_;rw [o1];rfl
 have c3:x_check_versions [WB.webP G0,.lst [.int v,.int 0]]=some 3:=by
  show x_check_versions [WB.webP G0,intsV [v,0]]=_;rw [xcvG good0 [v,0] (by simp)];show (if ok1 1 [v,0]=true then none else some 3)=_;rw [o2];rfl
 have s0:x_check_some [WB.webP G0,.lst []]=some 3:=x_csG good0 [] (by simp) (.inl rfl);have s1:x_check_some [WB.webP G0,.lst [.int v]]=some 3:=x_csG good0 [v] (by simp) (.inr hv);have s2:x_check_some [WB.webP G0,.lst [.int 0,.int v]]=some 3:=x_csG good0 [0,v] (by simp) (.inr o1);have s3:x_check_some [WB.webP G0,.lst [.int v,.int 0]]=some 3:=x_csG good0 [v,0] (by simp) (.inr o2);unfold g__law_asked
 match way,hw,h11 with
 | 0,_,_=>exact step_yes rfl ((gxc (ps:=[WB.webP G0,.int v]) rfl).trans (by rw [x_ab,c1];rfl))
 | 1,_,_=>exact (step_no rfl).trans (step_yes rfl ((gxc (ps:=[WB.webP G0,.int v]) rfl).trans (by rw [x_be,c1];rfl)))
 | 2,_,_=>exact (step_no rfl).trans ((step_no rfl).trans (step_yes rfl ((gxc (ps:=[WB.webP G0,.int 0,.int v]) rfl).trans (by rw [btG0 hv];rfl))))
 | 3,_,_=>exact (step_no rfl).trans ((step_no rfl).trans ((step_no rfl).trans (step_yes rfl ((gxc (ps:=[WB.webP G0,.lst [.int 0,.int v]]) rfl).trans (by rw [x_lc,s2];rfl)))))
 | 4,_,_=>exact (step_no rfl).trans ((step_no rfl).trans ((step_no rfl).trans ((step_no rfl).trans (step_yes rfl ((gxc (ps:=[WB.webP G0,.lst [.int v]]) rfl).trans (by rw [x_cp,s1];rfl))))))
 | 5,_,_=>exact (step_no rfl).trans ((step_no rfl).trans ((step_no rfl).trans ((step_no rfl).trans ((step_no rfl).trans (step_yes rfl ((gxc (ps:=[WB.webP G0,.lst [.int v,.int 0],.tup [.lst [],.lst [.lst [],.lst []]]]) rfl).trans (by rw [x_ch,s3];rfl)))))))
 | 6,_,_=>exact (step_no rfl).trans ((step_no rfl).trans ((step_no rfl).trans ((step_no rfl).trans ((step_no rfl).trans ((step_no rfl).trans (step_yes rfl ((gxc (ps:=[WB.webP G0,.int v,.int 0]) rfl).trans (by rw [x_wa,c3];rfl))))))))
 | 7,_,_=>exact (step_no rfl).trans ((step_no rfl).trans ((step_no rfl).trans ((step_no rfl).trans ((step_no rfl).trans ((step_no rfl).trans ((step_no rfl).trans (step_yes rfl ((gxc (ps:=[WB.webP G0,.int 0,.int v]) rfl).trans (by rw [x_mp,c2];rfl)))))))))
 | 8,_,_=>exact (step_no rfl).trans ((step_no rfl).trans ((step_no rfl).trans ((step_no rfl).trans ((step_no rfl).trans ((step_no rfl).trans ((step_no rfl).trans ((step_no rfl).trans (step_yes rfl ((gxc (ps:=[WB.webP G0,.int v,.int 0]) rfl).trans (by rw [x_fw,c3];rfl))))))))))
 | 9,_,_=>exact (step_no rfl).trans ((step_no rfl).trans ((step_no rfl).trans ((step_no rfl).trans ((step_no rfl).trans ((step_no rfl).trans ((step_no rfl).trans ((step_no rfl).trans ((step_no rfl).trans (step_yes rfl ((gxc (ps:=[WB.webP G0,.lst []]) rfl).trans (by rw [x_lc,s0];rfl)))))))))))
 | 10,_,_=>exact (step_no rfl).trans ((step_no rfl).trans ((step_no rfl).trans ((step_no rfl).trans ((step_no rfl).trans ((step_no rfl).trans ((step_no rfl).trans ((step_no rfl).trans ((step_no rfl).trans ((step_no rfl).trans (step_yes rfl ((gxc (ps:=[WB.webP G0,.lst [],.tup [.lst [],.lst []]]) rfl).trans (by rw [x_ch,s0];rfl))))))))))))
 | 11,_,h=>exact absurd rfl h
 | 12,_,_=>exact (step_no rfl).trans ((step_no rfl).trans ((step_no rfl).trans ((step_no rfl).trans ((step_no rfl).trans ((step_no rfl).trans ((step_no rfl).trans ((step_no rfl).trans ((step_no rfl).trans ((step_no rfl).trans ((step_no rfl).trans ((step_no rfl).trans (step_yes rfl ((gxc (ps:=[WB.webP G0,.int v,.int 0]) rfl).trans (by rw [x_mp,c3];rfl))))))))))))))
 | 13,_,_=>exact (step_no rfl).trans ((step_no rfl).trans ((step_no rfl).trans ((step_no rfl).trans ((step_no rfl).trans ((step_no rfl).trans ((step_no rfl).trans ((step_no rfl).trans ((step_no rfl).trans ((step_no rfl).trans ((step_no rfl).trans ((step_no rfl).trans ((step_no rfl).trans (step_yes rfl ((gxc (ps:=[WB.webP G0,.int v,.int 0]) rfl).trans (by rw [btG1 hv];rfl)))))))))))))))
 | 14,_,_=>exact (step_no rfl).trans ((step_no rfl).trans ((step_no rfl).trans ((step_no rfl).trans ((step_no rfl).trans ((step_no rfl).trans ((step_no rfl).trans ((step_no rfl).trans ((step_no rfl).trans ((step_no rfl).trans ((step_no rfl).trans ((step_no rfl).trans ((step_no rfl).trans ((step_no rfl).trans (step_last rfl ((gxc (ps:=[WB.webP G0,.lst []]) rfl).trans (by rw [x_cp,s0];rfl))))))))))))))))
 | n+15,h,_=>omega
theorem ends0:f_ends [WB.webP G0]=some (.lst [.int 0]):=by
 refine q_fnrt (b:=true) rfl ?_ rfl;show m_ends [some (WB.webP G0,.shr),none,none]=_;unfold m_ends;refine (q_nx (q_drop (p:=.non) ((q_xL (ps:=[WB.webP G0]) rfl).trans (by rw [e_chw];exact WB.chw good0)))).trans ?_;rfl
theorem ask11 (v:Int):x__law_asked [WB.webP G0,.int v,.int ((11:Nat):Int)]=none∧f__law_asked [WB.webP G0,.int v,.int ((11:Nat):Int)]=some .non:=by
 constructor
 ·refine (gnx (r:=none) rfl ?_).trans rfl
  show g__law_asked [some (WB.webP G0,.shr),some (.int v,.shr),some (.int ((11:Nat):Int),.shr)]=_;have en:x_ends [WB.webP G0]=none:=by
   rw [x_en,xcw (by decide),if_pos (by decide)]
  have fe:f_ends [WB.webP G0]=some (.lst [.int 0]):=ends0;unfold g__law_asked;refine (step_no rfl).trans ((step_no rfl).trans ((step_no rfl).trans ((step_no rfl).trans ((step_no rfl).trans ((step_no rfl).trans ((step_no rfl).trans ((step_no rfl).trans ((step_no rfl).trans ((step_no rfl).trans ((step_no rfl).trans ?_))))))))));refine (gseq0 (ρ':=[some (WB.webP G0,.shr),some (.int v,.shr),some (.int ((11:Nat):Int),.shr)]) ?_ ?_).trans ((step_no rfl).trans ((step_no rfl).trans (step_end rfl)))
  ·exact (gif_t rfl).trans ((gxc (ps:=[WB.webP G0]) rfl).trans (by rw [en];rfl))
  ·exact (q_ift rfl).trans (q_drop ((q_xL (ps:=[WB.webP G0]) rfl).trans fe))
 ·refine q_fnnx (ρ:=[some (WB.webP G0,.shr),some (.int v,.shr),some (.int ((11:Nat):Int),.shr)]) rfl ?_
  show m__law_asked [some (WB.webP G0,.shr),some (.int v,.shr),some (.int ((11:Nat):Int),.shr)]=_;unfold m__law_asked;have n:∀{c:VB}{A:VF}{R:VF}{ρ:PEnv},c ρ=some false→vSeq (vIf c A vSkip) R ρ=R ρ:=fun h=>(q_nx ((q_iff h).trans rfl))
  refine (n rfl).trans ((n rfl).trans ((n rfl).trans ((n rfl).trans ((n rfl).trans ((n rfl).trans ((n rfl).trans ((n rfl).trans ((n rfl).trans ((n rfl).trans ((n rfl).trans ?_))))))))));refine (q_nx ((q_ift rfl).trans (q_drop ((q_xL (ps:=[WB.webP G0]) rfl).trans ends0)))).trans ?_;exact (n rfl).trans ((n rfl).trans ((q_iff rfl).trans rfl))
end K29
namespace K29
open PySem L2 TR
variable [HC]
theorem tryR {Fb:VF}{Gb:VR}{hn:Nat→VF}{ρ ρ':PEnv}{n:Nat}(h:Gb ρ=some (n,ρ')):vTry2 Fb Gb hn ρ=hn n ρ':=by unfold vTry2;rw [h]
theorem tryN {Fb:VF}{Gb:VR}{hn:Nat→VF}{ρ:PEnv}(h:Gb ρ=none):vTry2 Fb Gb hn ρ=Fb ρ:=by unfold vTry2;rw [h]
theorem kind_r {p:PV}{v:Int}{way:Nat}{n:Nat}(hx:x__law_asked [p,.int v,.int (way:Nat)]=some n) (hn:n=2∨n=3):f__law_kind [p,.int v,.int (way:Nat)]=some (.int ((n:Int) - 1)):=by
 refine q_fnrt (b:=false) rfl ?_ rfl;show m__law_kind [some (p,.shr),some (.int v,.shr),some (.int (way:Nat),.shr),none]=_;unfold m__law_kind;refine q_rt ((tryR (n:=n) (ρ':=[some (p,.shr),some (.int v,.shr),some (.int (way:Nat),.shr),none]) ((gxc (ps:=[p,.int v,.int (way:Nat)]) rfl).trans (by rw [hx];rfl))).trans ?_);rcases hn with rfl|rfl<;>rfl
theorem kind_11 (v:Int):f__law_kind [WB.webP G0,.int v,.int ((11:Nat):Int)]=some (.int 0):=by
 obtain ⟨a,b⟩:=ask11 v;refine q_fnrt (b:=false) rfl ?_ rfl;show m__law_kind [some (WB.webP G0,.shr),some (.int v,.shr),some (.int ((11:Nat):Int),.shr),none]=_;unfold m__law_kind;refine (q_nx ((tryN ((gxc (ps:=[WB.webP G0,.int v,.int ((11:Nat):Int)]) rfl).trans (by rw [a];rfl))).trans (q_drop (p:=.non) ((q_xL (ps:=[WB.webP G0,.int v,.int ((11:Nat):Int)]) rfl).trans b)))).trans rfl
def eK (k:Nat):List Int:=if k=0 then [] else [(k:Int) - 1]
def wK (k:Nat):WB.Web:=(List.range k).map eK
theorem wK_succ (k:Nat):wK (k+1)=wK k++[eK k]:=by unfold wK;rw [List.range_succ,Zr];rfl
theorem wK_len (k:Nat):(wK k).length=k:=by unfold wK;rw [Zd,Zu]
theorem eK_good (k:Nat):WB.GoodE (k:Nat) (eK k):=by
 refine WE.gE_iff.mp ?_;unfold eK;split
 ·rename_i h;subst h;rfl
 ·unfold WE.gE
  simp [WE.rs];omega
abbrev elX:VX:=(xL pTupO (lCons (xSl (xComp [none] (itL (xL mkLst (lCons (x2 pSub (x2 pSub (xVarS 2) (xC (.int (1)))) (x2 pMod (xVarS 0) (xC (.int (3))))) (lCons (x2 pSub (xVarS 2) (xC (.int (1)))) lNil)))) (gN 0) (bOf (x2 pGe (xVarS 0) (xC (.int (0))))) (xVarS 0)) (oSome (x1 pNeg (xC (.int (1))))) oNone) lNil))
theorem eldK (c:Int) (a:Addr) (k:Nat):elX [some (.int c,.shr),some (.adr a,.shr),some (.int (k:Nat),.shr)]=some (tupZ (eK k)):=by
 have md:=WB.mod_in c 3 (by omega);have e1:x2 pSub (x2 pSub (xVarS 2) (xC (.int (1)))) (x2 pMod (xVarS 0) (xC (.int (3)))) [some (.int c,.shr),some (.adr a,.shr),some (.int (k:Nat),.shr)]=some (.int ((k:Int) - 1 - c % 3)):=(q_x2 ((q_x2 rfl rfl).trans (q_sub _ _)) ((q_x2 rfl rfl).trans (q_mod c 3 (by omega)))).trans (q_sub _ _);have e2:x2 pSub (xVarS 2) (xC (.int (1))) [some (.int c,.shr),some (.adr a,.shr),some (.int (k:Nat),.shr)]=some (.int ((k:Int) - 1)):=(q_x2 rfl rfl).trans (q_sub _ _);have e3:xL mkLst (lCons (x2 pSub (x2 pSub (xVarS 2) (xC (.int (1)))) (x2 pMod (xVarS 0) (xC (.int (3))))) (lCons (x2 pSub (xVarS 2) (xC (.int (1)))) lNil)) [some (.int c,.shr),some (.adr a,.shr),some (.int (k:Nat),.shr)]=some (.lst ([(k:Int) - 1 - c % 3,(k:Int) - 1].map PV.int)):=(q_xL (q_lc e1 (q_l1 e2))).trans rfl;have cc:xComp [none] (itL (xL mkLst (lCons (x2 pSub (x2 pSub (xVarS 2) (xC (.int (1)))) (x2 pMod (xVarS 0) (xC (.int (3))))) (lCons (x2 pSub (xVarS 2) (xC (.int (1)))) lNil)))) (gN 0) (bOf (x2 pGe (xVarS 0) (xC (.int (0))))) (xVarS 0) [some (.int c,.shr),some (.adr a,.shr),some (.int (k:Nat),.shr)]=some (.lst (([(k:Int) - 1 - c % 3,(k:Int) - 1].filter fun v=>decide (0≤v)).map PV.int)):=by
  refine e_comp (xs:=[(k:Int) - 1 - c % 3,(k:Int) - 1].map PV.int) (q_itL e3) (by simp) ?_;refine e_filt PV.int (fun v=>decide (0≤v)) _ (fun ρ=>∃s,ρ = [s]) _ _ ⟨none,rfl⟩ ?_;rintro v _ ρ ⟨s,rfl⟩;exact ⟨[some (.int v,.shr)],rfl,⟨_,rfl⟩,q_b ((q_x2 (p:=.int v) (q:=.int 0) rfl rfl).trans rfl),rfl⟩
 have sl:=q_cg (e:=PV.int) (lo:=oSome (x1 pNeg (xC (.int (1))))) (hi:=oNone) (a:=some (-1)) (b:=none) cc rfl rfl;refine (q_xL (q_l1 sl)).trans ?_;have fin:cg ([(k:Int) - 1 - c % 3,(k:Int) - 1].filter fun v=>decide (0≤v)) (some (-1)) none=eK k:=by
  unfold eK;by_cases hk:k=0
  ·subst hk
   rw [if_pos rfl];have:([((0:Nat):Int) - 1 - c % 3,((0:Nat):Int) - 1].filter fun v=>decide (0≤v)) = []:=by
    rw [List.filter_eq_nil_iff];intro v hv;simp at hv ⊢;omega
   rw [this];rfl
  ·rw [if_neg hk]
   by_cases h2:(0:Int)≤(k:Int) - 1 - c % 3
   ·have:([(k:Int) - 1 - c % 3,(k:Int) - 1].filter fun v=>decide (0≤v)) = [(k:Int) - 1 - c % 3,(k:Int) - 1]:=by
     rw [List.filter_eq_self];intro v hv;simp at hv ⊢;omega
    rw [this];rfl
   ·have:([(k:Int) - 1 - c % 3,(k:Int) - 1].filter fun v=>decide (0≤v)) = [(k:Int) - 1]:=by
     rw [List.filter_cons_of_neg (by simpa using h2),List.filter_cons_of_pos (by simp;omega)];rfl
    rw [this];rfl
 rw [fin];rfl
def fuB:DF:=(dNeM f_History_put_version (lCons elX (lCons (fun _=>some (.dct [])) lNil)) (xVarS 2) (.bl false))
abbrev tK (k:Nat):List Tr:=List.replicate k []
theorem ok_nil:Ok ([]:Tr):=⟨B.nil,by decide⟩
theorem fu_step (c:Int) (a:Addr) {k:Nat}(hk:k < 40):fuB [some (.int c,.shr),some (.adr a,.shr),some (.int (k:Nat),.shr)] (HS.hsP (wK k) (tK k))=some (.nx [some (.int c,.shr),some (.adr a,.shr),some (.int (k:Nat),.shr)] (HS.hsP (wK (k+1)) (tK (k+1)))):=by
 have hp:=HS.hput (w:=wK k) (ts:=tK k) (e:=eK k) (t:=[]) (by rw [wK_len];omega) (by simp;omega) (by rw [wK_len];exact eK_good k) ok_nil;rw [wK_len] at hp;unfold fuB dNeM;rw [if_pos (by rfl),q_lc (p:=tupZ (eK k)) (ps:=[.dct []]) (eldK c a k) (q_l1 rfl),Option.bind_some];rw [e_put];show ((HS.f_History_put_version (HS.hsP (wK k) (tK k)) [tupZ (eK k),trP []]).bind _)=_;rw [hp,Option.bind_some];show (if ((k:Nat):Int)=((k:Nat):Int) then some (DO.nx _ (HS.hsP (wK k++[eK k]) (tK k++[[]]))) else _)=_;rw [if_pos rfl,wK_succ,show tK (k+1)=tK k++[[]] from List.replicate_succ']
theorem fu_loop (c:Int) (a:Addr):∀(n k:Nat) (s2:Option (PV×Fl)),k+n=40→∃s2',dLoop 1 (gN 2) fuB ((List.range' k n).map fun (j:Nat)=>PV.int (j:Nat)) [some (.int c,.shr),some (.adr a,.shr),s2] (HS.hsP (wK k) (tK k))=some (.nx [some (.int c,.shr),some (.adr a,.shr),s2'] (HS.hsP (wK 40) (tK 40)))
 | 0,k,s2,h=>⟨s2,by
   have:k=40:=by omega
   subst this;rfl⟩
 | n+1,k,s2,h=>by
  obtain ⟨s2',ih⟩:=fu_loop c a n (k+1) (some (.int (k:Nat),.shr)) (by omega);refine ⟨s2',?_⟩;rw [List.range'_succ,Zh];unfold dLoop;show (if a=a then (match fuB [some (.int c,.shr),some (.adr a,.shr),some (.int (k:Nat),.shr)] (HS.hsP (wK k) (tK k)) with
   | some (.nx ρ2 p2)=>dLoop 1 (gN 2) fuB ((List.range' (k+1) n).map fun (j:Nat)=>PV.int (j:Nat)) ρ2 p2
   | some (.rt q)=>some (.rt q)
   | none=>none) else none)=_
  rw [if_pos rfl,fu_step c a (by omega)];exact ih
theorem xput:x_History_put_version [HS.hsP (wK 40) (tK 40),.tup [.int 39],.dct [(Sum.inr "",.lst [])]]=some 2:=by
 unfold x_History_put_version onX;rw [if_pos (by show (decide (HC.c=HC.c)&&_)=true;simp;decide +kernel)];refine (gnx (r:=some (2,[some (HS.hsP (wK 40) (tK 40),.shr),some (.tup [.int 39],.shr),some (.dct [(Sum.inr "",.lst [])],.shr),some (.int 40,.shr)])) rfl ?_).trans rfl;have hm:f_History_many [HS.hsP (wK 40) (tK 40)]=some (.int ((40:Nat):Int)):=by
  rw [e_many,HS.hmany,wK_len]
 refine (gseq0 (ρ':=[some (HS.hsP (wK 40) (tK 40),.shr),some (.tup [.int 39],.shr),some (.dct [(Sum.inr "",.lst [])],.shr),some (.int 40,.shr)]) rfl (q_set ((q_xL (ps:=[HS.hsP (wK 40) (tK 40)]) rfl).trans hm))).trans ?_;exact (gif_t (q_ort rfl)).trans rfl
theorem full (c:Int):f__law_full [.int c]=some (.bl true):=by
 refine q_fnrt (b:=false) rfl ?_ rfl;show vNewB 1 _ (dThen (dFor 1 _ (gN 2) fuB) (dEnd 1 _)) [some (.int c,.shr),none,none]=_;unfold vNewB;rw [if_pos (by show 1 < 3;omega),Option.bind_some];refine dAll_of fun a=>?_;obtain ⟨s2,e⟩:=fu_loop c a 40 0 none (by omega);unfold dThen dFor;have it:itR1 (lCons (xC (.int (40))) lNil) [some (.int c,.shr),some (.adr a,.shr),none]=some ((List.range' 0 40).map fun (j:Nat)=>PV.int (j:Nat)):=(q_itR1 (j:=40) rfl (by omega)).trans (by unfold rngP;rw [←List.range_eq_range'];rfl);show (match (itR1 (lCons (xC (.int (40))) lNil) [some (.int c,.shr),some (.adr a,.shr),none]).bind fun xs=>dLoop 1 (gN 2) fuB xs [some (.int c,.shr),some (.adr a,.shr),none] (HS.hsP (wK 0) (tK 0)) with|some (.nx ρ' p')=>_|some (.rt q)=>_|none=>_)=_;rw [it,Option.bind_some,e];show vSeq _ _ [some (.int c,.shr),some (HS.hsP (wK 40) (tK 40),.shr),s2]=_;have hm:f_History_many [HS.hsP (wK 40) (tK 40)]=some (.int ((40:Nat):Int)):=by
  rw [e_many,HS.hmany,wK_len]
 refine q_rt ((tryR (n:=2) (ρ':=[some (.int c,.shr),some (HS.hsP (wK 40) (tK 40),.shr),s2]) ((gxc (ps:=[HS.hsP (wK 40) (tK 40),.tup [.int 39],.dct [(Sum.inr "",.lst [])]]) rfl).trans (by rw [xput];rfl))).trans ?_);show vRet _ false _=_;exact q_ret ((q_x2 ((q_xL (ps:=[HS.hsP (wK 40) (tK 40)]) rfl).trans hm) rfl).trans rfl)
end K29
namespace K29
open PySem L2 TR
variable [HC]
theorem e_cat:f__law_cell_at=WB.f__law_cell_at:=rfl
theorem cellat (ns:List Int):∃c:Int,f__law_cell_at [.scr ns,.int 0]=some (.int c):=⟨_,by rw [e_cat];exact WB.ca ns 0⟩
def bads:List WB.Web:=[[],[[0]],[[],[0,0]],[[],[1]],List.replicate 41 [],[[],[-1]],[[],[],[],[],[0,1,2,3]]]
theorem bads_bad:∀w∈bads,WE.gW w=false∧w.length≤1000:=by
 intro w hw;simp only [bads,Zk,List.not_mem_nil,or_false] at hw;rcases hw with rfl|rfl|rfl|rfl|rfl|rfl|rfl<;>exact ⟨by decide,by decide⟩
def vers4:List Int:=[1,-1,2,1000000000]
theorem vers_bad:∀v∈vers4,ok1 1 [v]=false:=by
 intro v hv;simp only [vers4,Zk,List.not_mem_nil,or_false] at hv;rcases hv with rfl|rfl|rfl|rfl<;>decide
def lwB:VF:=(vIf (bOr (bOf (x2 pNe (xL f__law_kind (lCons (xVarS 2) (lCons (xVarS 3) (lCons (xVarS 4) lNil)))) (xC (.int (1))))) (bOf (x2 pNe (xL f__law_kind (lCons (xL mkLst (lCons (xL mkTup lNil) lNil)) (lCons (xVarS 3) (lCons (xVarS 4) lNil)))) (x2 pIxL (xL mkLst (fun _=>some [(.int (2)),(.int (0))])) (xL pIntB (lCons (x2 pEq (xVarS 4) (xC (.int (11)))) lNil))))))
 (vRet (xC (.bl false)) false)
 vSkip)
theorem lw_step (ns:List Int) (c:Int) {w:WB.Web}(hw:WE.gW w=false) (hl:w.length≤1000) {v:Int}(hv:ok1 1 [v]=false) {way:Nat}(h:way < 15):lwB [some (.scr ns,.shr),some (.int c,.shr),some (WB.webP w,.shr),some (.int v,.shr),some (.int (way:Nat),.shr)]=some (.nx [some (.scr ns,.shr),some (.int c,.shr),some (WB.webP w,.shr),some (.int v,.shr),some (.int (way:Nat),.shr)]):=by
 have k1:=kind_r (askB hl hw v way h) (.inl rfl);have t1:bOf (x2 pNe (xL f__law_kind (lCons (xVarS 2) (lCons (xVarS 3) (lCons (xVarS 4) lNil)))) (xC (.int (1)))) [some (.scr ns,.shr),some (.int c,.shr),some (WB.webP w,.shr),some (.int v,.shr),some (.int (way:Nat),.shr)]=some false:=q_b ((q_x2 ((q_xL (ps:=[WB.webP w,.int v,.int (way:Nat)]) rfl).trans k1) rfl).trans rfl);have ei:xL pIntB (lCons (x2 pEq (xVarS 4) (xC (.int (11)))) lNil) [some (.scr ns,.shr),some (.int c,.shr),some (WB.webP w,.shr),some (.int v,.shr),some (.int (way:Nat),.shr)]=some (.int (if way=11 then 1 else 0)):=by
  refine (q_xL (q_l1 ((q_x2 (p:=.int (way:Nat)) (q:=.int 11) rfl rfl).trans (q_eq _ _)))).trans ((e_intB _).trans ?_);congr 2;by_cases h11:way=11
  ·subst h11;rfl
  ·rw [if_neg h11,Zo (by omega)];rfl
 have t2:bOf (x2 pNe (xL f__law_kind (lCons (xL mkLst (lCons (xL mkTup lNil) lNil)) (lCons (xVarS 3) (lCons (xVarS 4) lNil)))) (x2 pIxL (xL mkLst (fun _=>some [(.int (2)),(.int (0))])) (xL pIntB (lCons (x2 pEq (xVarS 4) (xC (.int (11)))) lNil)))) [some (.scr ns,.shr),some (.int c,.shr),some (WB.webP w,.shr),some (.int v,.shr),some (.int (way:Nat),.shr)]=some false:=by
  by_cases h11:way=11
  ·subst h11
   exact q_b ((q_x2 ((q_xL (ps:=[WB.webP G0,.int v,.int ((11:Nat):Int)]) rfl).trans (kind_11 v)) ((q_x2 (p:=.lst [.int 2,.int 0]) rfl ei).trans rfl)).trans rfl)
  ·have ei2:=ei
   rw [if_neg h11] at ei2;exact q_b ((q_x2 ((q_xL (ps:=[WB.webP G0,.int v,.int (way:Nat)]) rfl).trans (kind_r (askG hv way h h11) (.inr rfl))) ((q_x2 (p:=.lst [.int 2,.int 0]) rfl ei2).trans rfl)).trans rfl)
 unfold lwB;exact (q_iff ((q_orf t1).trans t2)).trans rfl
theorem pick {α:Type}(f:α→PV) (l:List α) {c:Int}(hl:0 < l.length):∃x∈l,pIxL (.lst (l.map f)) (.int (c % (l.length:Nat)))=some (f x):=by
 have md:=WB.mod_in c (l.length:Nat) (by omega);obtain ⟨j,hj⟩:∃j:Nat,c % (l.length:Nat)=(j:Int):=⟨(c % (l.length:Nat)).toNat,by omega⟩
 have hjl:j < l.length:=by omega
 refine ⟨l[j],List.getElem_mem hjl,?_⟩;rw [hj];exact e_atm (f:=f) (Zc hjl)
theorem rep41 (ρ:PEnv):x2 pRep (xL mkLst (lCons (xL mkTup lNil) lNil)) (xC (.int (41))) ρ=some (WB.webP (List.replicate 41 [])):=by
 refine (q_x2 (p:=.lst [.tup []]) (q:=.int 41) rfl rfl).trans ?_;rfl
theorem lawOf (ns:List Int):f_law [.scr ns]=some (.bl true):=by
 obtain ⟨c,hc⟩:=cellat ns;obtain ⟨w,hw,ew⟩:=pick WB.webP bads (c:=c) (by decide);obtain ⟨v,hv,ev⟩:=pick PV.int vers4 (c:=c / 7) (by decide);obtain ⟨gw,hl⟩:=bads_bad w hw;have gv:=vers_bad v hv;refine q_fnrt (b:=false) rfl ?_ rfl;show m_law [some (.scr ns,.shr),none,none,none,none]=_;unfold m_law;refine (q_nx (q_set (i:=1) ((q_xL (ps:=[.scr ns,.int 0]) rfl).trans hc))).trans ?_;refine (q_nx (q_set (i:=2) (p:=WB.webP w) ((q_x2 (p:=.lst (bads.map WB.webP)) ((q_xL (q_lc rfl (q_lc rfl (q_lc rfl (q_lc rfl (q_lc (rep41 _) (q_lc rfl (q_l1 rfl)))))))).trans rfl) ((q_x2 (p:=.int c) (q:=.int 7) rfl rfl).trans (q_mod c 7 (by omega)))).trans ew))).trans ?_;refine (q_nx (q_set (i:=3) (p:=.int v) ((q_x2 (p:=.lst (vers4.map PV.int)) ((q_xL (q_lc rfl (q_lc rfl (q_lc rfl (q_l1 (p:=.int 1000000000) rfl))))).trans rfl) ((q_x2 ((q_x2 (p:=.int c) (q:=.int 7) rfl rfl).trans (q_div c 7 (by omega) (by omega))) rfl).trans (q_mod _ 4 (by omega)))).trans ev))).trans ?_;obtain ⟨ρ,g,s4,rfl⟩:=q_inv (tg:=gN 4) (body:=lwB) (xs:=rngP 0 15) (ρ:=[some (.scr ns,.shr),some (.int c,.shr),some (WB.webP w,.shr),some (.int v,.shr),none])
  (fun _ ρ=>∃s4,ρ = [some (.scr ns,.shr),some (.int c,.shr),some (WB.webP w,.shr),some (.int v,.shr),s4]) ⟨none,rfl⟩
  (by
   rintro i x ρ hx ⟨s4,rfl⟩;obtain ⟨hi,rfl⟩:=TR.rng_get hx;exact ⟨_,_,rfl,lw_step ns c gw hl gv hi,_,rfl⟩)
 refine (q_nx ((q_for ((q_itR1 (j:=15) rfl (by omega)).trans rfl)).trans g)).trans ?_;refine q_ret ?_;have tf:bOf (xL f__law_full (lCons (x2 pDiv (xVarS 1) (xC (.int (112)))) lNil)) [some (.scr ns,.shr),some (.int c,.shr),some (WB.webP w,.shr),some (.int v,.shr),s4]=some true:=q_b ((q_xL (q_l1 ((q_x2 (p:=.int c) (q:=.int 112) rfl rfl).trans (q_div c 112 (by omega) (by omega))))).trans (full _));have tt:∃b,bOf (x2 pGt (x2 pMod (x2 pDiv (xVarS 1) (xC (.int (28)))) (xC (.int (4)))) (xC (.int (0)))) [some (.scr ns,.shr),some (.int c,.shr),some (WB.webP w,.shr),some (.int v,.shr),s4]=some b:=⟨_,q_b ((q_x2 ((q_x2 ((q_x2 (p:=.int c) (q:=.int 28) rfl rfl).trans (q_div c 28 (by omega) (by omega))) rfl).trans (q_mod _ 4 (by omega))) rfl).trans rfl)⟩
 obtain ⟨b,tb⟩:=tt;show (bOr _ _ _).map PV.bl=_;cases b with
 | true=>rw [q_ort tb];rfl
 | false=>rw [q_orf tb,tf];rfl
end K29
namespace L2
open PySem
def noLst (K:PySem.W.Frag):Bool:=K.all fun p=>match p.2.cls,p.2.data with
 | .type t,.seq _ _=>!(t == "list")
 | _,_=>true
theorem noLst_at {K:PySem.W.Frag}(h:noLst K=true) {a:Addr}{o:Obj}{its:Array Value}{n:Nat}(e:K.lookup a=some o) (hc:o.cls=.type "list") (hd:o.data=.seq its n):False:=by
 have hm:(a,o)∈K:=by
  clear h
  induction K with
  | nil=>cases e
  | cons p r ih =>
   obtain ⟨b,x⟩:=p;simp only [List.lookup] at e;split at e
   ·rename_i q;cases e;rw [beq_iff_eq.mp q];exact Zf
   ·exact Ze _ (ih e)
 have:=Zp1.mp h _ hm;simp only [hc,hd] at this;exact absurd this (by decide)
theorem sp_at {K:PySem.W.Frag}{f:List PV→Option PV}(h:noLst K=true) {H:Hp}{a:Addr}{ns:List Int}{E:XK}(hf:f [.scr ns]=some (.bl true)) (hS:SqL K H a (ns.map V.int)):spV false f [.ref a] H (fun v _=>v=.bl true) E:=by
 rcases hS with r|⟨o,its,n,e,hc,_,hd,_⟩
 ·refine ⟨fun b=>b=a,[.scr ns],.bl true,fun b hb=>?_,Reps.one (rep_scr.mpr ⟨a,rfl,rfl,r⟩),hf,fun v H' U' _ hr=>?_⟩
  ·rw [hb];exact Rd.dom r
  ·exact (rep_bl (U:=U') (H:=H')).mp hr
 ·exact (noLst_at h e hc hd).elim
section
variable {K:PySem.W.Frag}{h:Heap}{mg:Str→Option Value}{x:Str}{st:Stmt}{ps:List Str}{f fa:Addr}{oc kV doc pm cdv ct:Value}{od an:Option Addr}{osl:Array (Option Value)}
theorem df_mk (X:K.In h) (G:h.Ns mainGlobals mg) (a:PySem.W.nsIn K mainGlobals x=some (some (.ref f))) (l:K.lookup f=some ⟨oc,od,.func (PySem.W.fnOf x x (defArgs st) (defBody st) (defScope st) .none kV doc pm an cdv ct),osl⟩) (c:PySem.W.codeIn K cdv x=true) (k:PySem.W.keepIn K (.ref f)=true)
  (hb:∀(kV doc pm:Value) (an:Option Addr) (cdv ct:Value) (us:List Value),us.length=ps.length→bindArgs (PySem.W.fnOf x x (defArgs st) (defBody st) (defScope st) .none kV doc pm an cdv ct) ⟨us,[]⟩=pure (ps.zip us)):Df K mg x st ps:=⟨_,_,PySem.W.mg_of X G a,fun_mk l c k,(fun_mk l c k).binds hb⟩
theorem blt0:Blt mg []:=⟨fun x h=>by cases h⟩
theorem blt1 {l:List Str}(X:K.In h) (G:h.Ns mainGlobals mg) (z:PySem.W.nsIn K mainGlobals x=some none) (r:Blt mg l):Blt mg (x::l):=⟨fun y hy=>by
 rw [List.contains_cons,Bool.or_eq_true] at hy;rcases hy with hy|hy
 ·rw [beq_iff_eq.mp hy];exact PySem.W.mg_none_of X G z
 ·exact r.h y hy⟩
theorem glob_mk {i:Int}{tk:Tok}(X:K.In h) (G:h.Ns mainGlobals mg) (q:PySem.W.nsIn K mainGlobals x=some (some (.int i tk))):∃u,mg x=some u∧RelV (V.int i) u:=⟨_,PySem.W.mg_of X G q,tk,rfl⟩
theorem law_mk {P:Program}{w:World}{g:List PV→Option PV}{k:Nat}(X:K.In h) (G:h.Ns mainGlobals mg) (hfa:mg "law" = some (.ref fa)) (a:PySem.W.nsIn K mainGlobals "law" = some (some (.ref f))) (l:K.lookup f=some ⟨oc,od,.func (PySem.W.fnOf "law" "law" (defArgs st) (defBody st) (defScope st) .none kV doc pm an cdv ct),osl⟩) (c:PySem.W.codeIn K cdv "law" = true) (k':PySem.W.keepIn K (.ref f)=true)
  (hb:∀(s:Shared) (v:Value),BindsTo s (PySem.W.fnOf "law" "law" (defArgs st) (defBody st) (defScope st) .none kV doc pm an cdv ct) ⟨[v],[]⟩ [("script",v)]) (ok:∀(base:Heap) (a:Addr) (d:FuncData),Fun K "law" "law" st a d→FnOk P w K mg base CX0 k a d ["script"] (spV false g)) :
  ∃fd:FuncData,(∀(s:Shared) (v:Value),BindsTo s fd ⟨[v],[]⟩ [("script",v)])∧∀base:Heap,K.In base→base.Ns mainGlobals mg→FnOk P w K mg base CX0 k fa fd ["script"] (spV false g):=by
 have e:=hfa.symm.trans (PySem.W.mg_of X G a);cases e;exact ⟨_,hb,fun base _ _=>ok base _ _ (fun_mk l c k')⟩
end
theorem walkL {l:PySem.W.OpenLaw}{q:Program}{loose:List Str}{XP:(Str→Option Value)→Heap→Prop}{YP:World→Heap→Prop}{d:DefRec}{K:Params→PySem.W.Frag}{g:List PV→Option PV}{k:Nat}(hn:l.most=some 63) (hdf:d.params.defaults = [])
  (hY:∀(w:World) (h:Heap),YP w h→(K w.params).In h) (hr:Room k callerA) (hg:∀ns:List Int,g [.scr ns]=some (.bl true)) (nl:∀w:World,noLst (K w.params)=true)
  (F:∀(w:World) (mg:Str→Option Value) (fa:Addr) (h:Heap),(K w.params).In h→h.Ns mainGlobals mg→mg d.name=some (.ref fa) →
   ∃fd:FuncData,(∀(s:Shared) (u:Value),BindsTo s fd ⟨[u],[]⟩ [("script",u)])∧∀base:Heap,(K w.params).In base→base.Ns mainGlobals mg→FnOk l.prog w (K w.params) mg base CX0 k fa fd ["script"] (spV false g)) :
  PySem.W.WalkO q loose XP YP l.row.toRowW d [] (fun f vs=>PySem.call f vs) :=
 L2.walk_of (n:=63) (k:=k) (x:="script") (CX:=fun _=>CX0) (sp:=fun w=>spV false g) hn (by decide) hdf hr hY F (fun w H a ns hl _ hS=>sp_at (nl w) (hg ns) hS) fun _ _ _ _ _ z=>z
section
variable {K:PySem.W.Frag}{h:Heap}{mg:Str→Option Value}{x m qual:Str}{st:Stmt}{ps:List Str}{C f fa:Addr}{oc kV doc pm cdv ct:Value}{od an:Option Addr}{osl:Array (Option Value)}
theorem dfm_mk (a:PySem.W.findIn K (.ref C) m=some (some (.ref f))) (i:PySem.W.isFn K (.ref f)=true) (l:K.lookup f=some ⟨oc,od,.func (PySem.W.fnOf m qual (defArgs st) (defBody st) (defScope st) .none kV doc pm an cdv ct),osl⟩) (c:PySem.W.codeIn K cdv qual=true) (k:PySem.W.keepIn K (.ref f)=true)
  (pg:PySem.W.plainGet K C Str.empty=true) (hd:PySem.W.hasDictIn K C=true) (po:PySem.W.plainOver K C=true) (sa:PySem.W.findIn K (.ref C) "__setattr__" = some (some (.builtin "object.__setattr__")))
  (hb:∀(kV doc pm:Value) (an:Option Addr) (cdv ct:Value) (us:List Value),us.length=ps.length→bindArgs (PySem.W.fnOf m qual (defArgs st) (defBody st) (defScope st) .none kV doc pm an cdv ct) ⟨us,[]⟩=pure (ps.zip us)):DfM K C m qual st ps:=⟨⟨_,_,⟨a,i,k⟩,fun_mk l c k,(fun_mk l c k).binds hb⟩,⟨pg,hd,po,sa⟩⟩
theorem dfi_mk (a:PySem.W.findIn K (.ref C) "__init__" = some (some (.ref f))) (i:PySem.W.isFn K (.ref f)=true) (l:K.lookup f=some ⟨oc,od,.func (PySem.W.fnOf "__init__" "History.__init__" (defArgs st) (defBody st) (defScope st) .none kV doc pm an cdv ct),osl⟩) (c:PySem.W.codeIn K cdv "History.__init__" = true) (k:PySem.W.keepIn K (.ref f)=true)
  (mk:PySem.W.makesIn K C=true) (kc:PySem.W.keepIn K (.ref C)=true) (pg:PySem.W.plainGet K C Str.empty=true) (hd:PySem.W.hasDictIn K C=true) (po:PySem.W.plainOver K C=true) (sa:PySem.W.findIn K (.ref C) "__setattr__" = some (some (.builtin "object.__setattr__")))
  (ne:PySem.W.findIn K (.ref C) "elders" = some none) (nt:PySem.W.findIn K (.ref C) "trees" = some none)
  (hb:∀(kV doc pm:Value) (an:Option Addr) (cdv ct:Value) (us:List Value),us.length=1→bindArgs (PySem.W.fnOf "__init__" "History.__init__" (defArgs st) (defBody st) (defScope st) .none kV doc pm an cdv ct) ⟨us,[]⟩=pure ((["self"]:List Str).zip us)):DfI K C st:=⟨⟨_,_,⟨mk,a,i,kc⟩,fun_mk l c k,(fun_mk l c k).binds hb⟩,⟨pg,hd,po,sa⟩,ne,nt⟩
end
end L2
local macro_rules | `(tactic| tm_at "kd") => `(tactic| first
 | ((with_reducible show L2.Df _ _ _ _ _);apply L2.df_mk;assumption;assumption;k_is;k_is;k_is;k_is;first|(exact fun _ _ _ _ _ _ us hl=>(match us,hl with | [_],_=>rfl))|(exact fun _ _ _ _ _ _ us hl=>(match us,hl with | [_,_],_=>rfl))|(exact fun _ _ _ _ _ _ us hl=>(match us,hl with | [_,_,_],_=>rfl)))
 | ((with_reducible show L2.DfM _ _ _ _ _ _);(show L2.DfM _ (260:PySem.Addr) _ _ _ _);apply L2.dfm_mk;k_is;k_is;k_is;k_is;k_is;k_is;k_is;k_is;k_is;first|(exact fun _ _ _ _ _ _ us hl=>(match us,hl with | [_],_=>rfl))|(exact fun _ _ _ _ _ _ us hl=>(match us,hl with | [_,_],_=>rfl))|(exact fun _ _ _ _ _ _ us hl=>(match us,hl with | [_,_,_],_=>rfl)))
 | ((with_reducible show L2.DfI _ _ _);(show L2.DfI _ (260:PySem.Addr) _);apply L2.dfi_mk;k_is;k_is;k_is;k_is;k_is;k_is;k_is;k_is;k_is;k_is;k_is;k_is;k_is;first|(exact fun _ _ _ _ _ _ us hl=>(match us,hl with | [_],_=>rfl))|(exact fun _ _ _ _ _ _ us hl=>(match us,hl with | [_,_],_=>rfl))|(exact fun _ _ _ _ _ _ us hl=>(match us,hl with | [_,_,_],_=>rfl)))
 | (apply L2.glob_mk;assumption;assumption;k_is)
 | (apply PySem.W.mg_of;assumption;assumption;k_is)
 | k_exc|kts_exm|kit_is|(apply PySem.W.ExCls.mk<;>k_is))
def _root_.PySem.W.Fast.tw7070649975160117077:Nat:=0
def _root_.PySem.W.Fast.tw1069736025936428193:Nat:=0
def _root_.PySem.W.Fast.tw9372121371317066338:Nat:=0
def _root_.PySem.W.Fast.tw12706873459719086428:Nat:=0
def _root_.PySem.W.Fast.tw4264034392927879769:Nat:=0
def _root_.PySem.W.Fast.tw13941603971411103145:Nat:=0
def _root_.PySem.W.Fast.tw13480683011307931554:Nat:=0
def _root_.PySem.W.Fast.tw14650140919050939296:Nat:=0
def _root_.PySem.W.Fast.tw13246022159563675430:Nat:=0
def _root_.PySem.W.Fast.tw18219462559894850096:Nat:=0
def _root_.PySem.W.Fast.tw17802402758843297754:Nat:=0
def _root_.PySem.W.Fast.tw4716070540420928018:Nat:=0
def _root_.PySem.W.Fast.tw16676282584155701755:Nat:=0
def _root_.PySem.W.Fast.tw13538349330646659953:Nat:=0
def _root_.PySem.W.Fast.tw16041154102934931954:Nat:=0
def _root_.PySem.W.Fast.tw14241540710682763382:Nat:=0
def _root_.PySem.W.Fast.tw2264937837961420756:Nat:=0
def _root_.PySem.W.Fast.tw14479475222373675511:Nat:=0
def _root_.PySem.W.Fast.tw8421662790732788572:Nat:=0
open PySem PySem.W PyProof.Rows
set_option maxRecDepth 100000 in
set_option maxHeartbeats 0 in
theorem PySem.Challenge.cw_pasthall_k29_refusals_of_webs_holds : PySem.Challenge.rw_pasthall_k29_refusals_of_webs.Holds := by
 w_on;o_law;k_head;(case hw=>w_witness2)
 k_fill
 refine L2.walkL (l:=PySem.Challenge.rw_pasthall_k29_refusals_of_webs) (k:=10) (g:=@K29.f_law ⟨260⟩) rfl rfl (fun w h Y=>PySem.W.kIn_of Y) ⟨rfl,by decide,by decide,rfl⟩ (@K29.lawOf ⟨260⟩) ?nolst ?F
 case nolst =>
  intro w
  rfl
 case F =>
  intro w mg fa h KX G hmg
  apply L2.law_mk (st:=K29.s_law) KX G hmg
  k_is
  k_is
  k_is
  k_is
  exact fun s v=>.of_eq rfl
  refine fun base a d F=>@K29.ok_law ⟨260⟩ _ _ _ _ _ ?tprg _ _ F
  apply @K29.Prg.mk ⟨260⟩
  (apply L2.blt1;assumption;assumption;k_is)
  (apply L2.blt1;assumption;assumption;k_is)
  (apply L2.blt1;assumption;assumption;k_is)
  (apply L2.blt1;assumption;assumption;k_is)
  (apply L2.blt1;assumption;assumption;k_is)
  (apply L2.blt1;assumption;assumption;k_is)
  (apply L2.blt1;assumption;assumption;k_is)
  (apply L2.blt1;assumption;assumption;k_is)
  (apply L2.blt1;assumption;assumption;k_is)
  (apply L2.blt1;assumption;assumption;k_is)
  exact L2.blt0
  all_goals (first|(show _=some (Value.ref (260:PySem.Addr));tm_at "kd")|tm_at "kd")
