import PyProof.Rows.All
import Wide.All
import OpenK.AllK
import Wide.FinOn
import Lean
import PyProof.EqAt
import PyProof.EqKinds
import PyProof.TupleCall
import PySem.Challenge.RW_pasthall_k57_whole_whence_by_edits
set_option Elab.async false
set_option linter.all false
set_option maxRecDepth 100000
noncomputable section
abbrev Za:=@Option.bind_eq_some_iff
abbrev Zb:=@Option.map_eq_some_iff
abbrev Zc:=@List.getElem?_eq_getElem
abbrev Zd:=@List.length_map
abbrev Ze:=@List.mem_cons_of_mem
abbrev Zf:=@List.mem_cons_self
abbrev Zg:=@List.getElem?_eq_some_iff
abbrev Zh:=@List.map_cons
abbrev Zi:=@List.map_map
abbrev Zj:=@List.getElem?_map
abbrev Zk:=@List.mem_cons
abbrev Zl:=@Bool.false_ne_true
abbrev Zm:=@List.size_toArray
abbrev Zn:=@decide_eq_true
abbrev Zo:=@decide_eq_false
abbrev Zp:=@List.length_append
abbrev Zq:=@List.length_cons
abbrev Zr:=@List.map_append
abbrev Zs:=@List.mem_map
abbrev Zt:=@List.mem_range
abbrev Zu:=@List.length_range
abbrev Zv:=@Int.toNat_natCast
abbrev Zw:=@List.mem_of_getElem?
abbrev Zx:=@List.length_singleton
abbrev Zy:=@List.getD_eq_getElem?_getD
abbrev Zz:=@List.getElem_mem
abbrev Za1:=@List.getElem?_append_left
abbrev Zb1:=@List.append_assoc
abbrev Zc1:=@Bool.and_eq_true
abbrev Zd1:=@List.mem_append
abbrev Ze1:=@List.map_congr_left
abbrev Zf1:=@List.getElem?_set_ne
abbrev Zg1:=@List.getElem?_range
abbrev Zh1:=@List.mem_filter
abbrev Zi1:=@decide_eq_true_iff
abbrev Zm1:=@List.pairwise_cons
abbrev Zn1:=@Option.isSome_map
abbrev Zo1:=@List.mem_singleton
abbrev Zp1:=@List.all_eq_true
abbrev Zq1:=@List.length_take
namespace L2
open PySem PySem.Spec PyProof.Rows
abbrev Key:=Sum Int Str
def ziN:Key->Value->Bool
 | .inl k,v=>Value.isInt k v
 | .inr x,v=>Value.isStrOf x v
def keyH (w:World):Key->Int
 | .inl k=>hashInt k
 | .inr x=>hashStr w x
theorem zaJ:∀{k:Key}{v:Value},ziN k v=true->(∃i t,k=Sum.inl i/\v=Value.int i t)\/(∃x t,k=Sum.inr x/\v=Value.str x t)
 | .inl i,v,h=>by
  obtain ⟨t,e⟩:=Value.isInt_shape (k:=i) (v:=v) h;exact .inl ⟨i,t,rfl,e⟩
 | .inr x,v,h=>by
  obtain ⟨t,e⟩:=Value.isStrOf_shape (x:=x) (v:=v) h;exact .inr ⟨x,t,rfl,e⟩
theorem zmc (i:Int) (t:Tok):ziN (.inl i) (.int i t)=true:=by simp [ziN,Value.isInt]
theorem zmb (x:Str) (t:Tok):ziN (.inr x) (.str x t)=true:=by simp [ziN,Value.isStrOf]
theorem zua (a b:Int):decide ((Sum.inl a:Key)=Sum.inl b)=(a==b):=by
 by_cases e:a=b
 ·subst e;simp
 ·have h:¬(Sum.inl a:Key)=Sum.inl b:=fun q=>e (Sum.inl.inj q)
  rw [Zo h];exact (beq_eq_false_iff_ne.mpr e).symm
theorem zt7 (a b:Str):decide ((Sum.inr a:Key)=Sum.inr b)=decide (a=b):=by
 by_cases e:a=b
 ·subst e;simp
 ·have h:¬(Sum.inr a:Key)=Sum.inr b:=fun q=>e (Sum.inr.inj q)
  rw [Zo h,Zo e]
theorem zt9 (a:Int) (b:Str):decide ((Sum.inl a:Key)=Sum.inr b)=false:=Zo (fun q=>nomatch q)
theorem zt8 (a:Str) (b:Int):decide ((Sum.inr a:Key)=Sum.inl b)=false:=Zo (fun q=>nomatch q)
def zaE (prog:Program) (w:World):PySem.KeyKind prog w Key where
 is:=ziN
 hash:=keyH w
 inj:=fun v a b ha hb=>by
  rcases zaJ ha with ⟨i,t,rfl,rfl⟩|⟨x,t,rfl,rfl⟩
  ·rcases zaJ hb with ⟨j,u,rfl,e⟩|⟨y,u,rfl,e⟩
   ·injection e with e1 _;rw [e1]
   ·exact nomatch e
  ·rcases zaJ hb with ⟨j,u,rfl,e⟩|⟨y,u,rfl,e⟩
   ·exact nomatch e
   ·injection e with e1 _;rw [e1]
 byValue:=fun k v h=>by
  rcases zaJ h with ⟨i,t,rfl,rfl⟩|⟨x,t,rfl,rfl⟩<;>rfl
 pyHash:=fun hv h=>by
  rcases zaJ hv with ⟨i,t,rfl,rfl⟩|⟨x,t,rfl,rfl⟩
  ·exact wpAny_pyHash_int h
  ·exact wpAny_pyHash_str h
 eqBool:=fun hu hv h=>by
  rcases zaJ hu with ⟨i,t,rfl,rfl⟩|⟨x,t,rfl,rfl⟩
  ·rcases zaJ hv with ⟨j,u,rfl,rfl⟩|⟨y,u,rfl,rfl⟩
   ·rw [zua] at h;exact wpAny_eqBool_int h
   ·rw [zt9] at h;exact SeqAt.EqAt.int_str i t y u _ _ _ _ h
  ·rcases zaJ hv with ⟨j,u,rfl,rfl⟩|⟨y,u,rfl,rfl⟩
   ·rw [zt8] at h;exact SeqAt.EqAt.str_int x t j u _ _ _ _ h
   ·rw [zt7] at h;exact wpAny_eqBool_str h
 «strs»:=fun k x t v h=>by
  rcases zaJ h with ⟨i,u,rfl,e⟩|⟨y,u,rfl,e⟩
  ·exact nomatch e
  ·injection e with e1 _
   subst e1;cases v<;>rfl
theorem ziJ (prog:Program) (w:World) (i:Int) (t:Tok):(zaE prog w).is (.inl i) (.int i t)=true:=zmc i t
theorem ziI (prog:Program) (w:World) (x:Str) (t:Tok):(zaE prog w).is (.inr x) (.str x t)=true:=zmb x t
inductive V where
 | non|bl (b:Bool)|int (i:Int)|str (x:Str)|byt (b:Array UInt8)|flt (b:UInt64)|ref (a:Addr)|ty (n:String)
 deriving DecidableEq
def RelV:V->Value->Prop
 | .non,u=>u=Value.none
 | .bl b,u=>u=Value.bool b
 | .int i,u=>∃t,u=Value.int i t
 | .str x,u=>∃t,u=Value.str x t
 | .byt b,u=>∃t,u=Value.bytes b t
 | .flt b,u=>∃t,u=Value.float b t
 | .ref a,u=>u=Value.ref a
 | .ty n,u=>u=Value.type n
abbrev Vals:List V->List Value->Prop:=Paired RelV
theorem Vals.length {xs:List V}{us:List Value}(r:Vals xs us):xs.length=us.length:=Paired.length r
theorem Vals.get:∀{xs:List V}{us:List Value}{i:Nat}{x:V},Vals xs us->xs[i]?=some x -> ∃u,us[i]?=some u/\RelV x u
 | _,_,_,_,.nil,e=>by simp at e
 | _,_,0,_,.cons r _,e=>by simp at e;subst e;exact ⟨_,rfl,r⟩
 | _,_,i+1,x,.cons _ t,e=>by
  obtain ⟨u,h1,h2⟩:=Vals.get (i:=i) (x:=x) t (by simpa using e);exact ⟨u,by simpa using h1,h2⟩
theorem Vals.set {x:V}{u:Value}(r:RelV x u):∀{xs:List V}{us:List Value}(i:Nat),Vals xs us->Vals (xs.set i x) (us.set i u)
 | _,_,_,.nil=>.nil
 | _,_,0,.cons _ t=>.cons r t
 | _,_,i+1,.cons q t=>.cons q (Vals.set r i t)
theorem Vals.append:∀{xs ys:List V}{us ws:List Value},Vals xs us->Vals ys ws->Vals (xs++ys) (us++ws)
 | _,_,_,_,.nil,s=>s
 | _,_,_,_,.cons r t,s=>.cons r (Vals.append t s)
theorem Vals.take:∀{xs:List V}{us:List Value}(n:Nat),Vals xs us->Vals (xs.take n) (us.take n)
 | _,_,0,_=>.nil
 | _,_,_+1,.nil=>.nil
 | _,_,n+1,.cons r t=>.cons r (Vals.take n t)
theorem Vals.drop:∀{xs:List V}{us:List Value}(n:Nat),Vals xs us->Vals (xs.drop n) (us.drop n)
 | _,_,0,r=>r
 | _,_,_+1,.nil=>.nil
 | _,_,n+1,.cons _ t=>Vals.drop n t
def RelO:Option V->Option Value->Prop
 | some v,some u=>RelV v u
 | none,none=>True
 | _,_=>False
def KV {κ:Type}:List (κ×V)->List (κ×Value)->Prop:=Paired fun (p:κ×V) (q:κ×Value)=>p.1=q.1/\RelV p.2 q.2
def kV:Key->V
 | .inl i=>.int i
 | .inr x=>.str x
inductive HO where
 | lst (xs:List V)
 | tup (xs:List V)
 | dK (kvs:List (Key×V))|dT (kvs:List (List Key×V))
 | set (S:Int->Bool) (n:Nat)
 | ins (C dx:Addr) (fs:List (Str×V))
 | own (x:Addr)
 | xd (fs:List (Str×V))
 | met (f x:Addr)
 | rng (lo hi:Int)
 | frz (o:Obj) (u:HO)
 | tbl (ps:Array Value)
 | ext (φ:Heap->Prop)
abbrev Hp:=Addr->Option HO
def upd (H:Hp) (a:Addr) (o:HO):Hp:=fun b=>if b=a then some o else H b
theorem zaf {H:Hp}{a:Addr}{o:HO}:upd H a o a=some o:=by unfold upd;rw [if_pos rfl]
theorem zac {H:Hp}{a b:Addr}{o:HO}(h:b≠a):upd H a o b=H b:=by unfold upd;rw [if_neg h]
theorem zkn {H:Hp}{a b:Addr}{o u:HO}(h:H a=some o) (h':H b=some u) (d:o≠u):a≠b:=by
 intro e;subst e;rw [h] at h';exact d (Option.some.inj h')
theorem zaw {H:Hp}{a b:Addr}{o:HO}(h:H a=some o) (h':H b=none):a≠b:=by
 intro e;subst e;rw [h] at h';cases h'
section
variable (P:Program) (w:World)
def za4 (H:Hp) (h:Heap) (a:Addr):HO->Prop
 | .lst xs=>xs.length<=sizeLine /\ ∃(its:List Value) (n:Nat),Vals xs its/\h.get? a=some { cls:=.type "list",data:=.seq its.toArray n }
 | .tup xs=>xs.length<=sizeLine /\ ∃its:List Value,Vals xs its/\IsTup h a its.toArray
 | .dK kvs=>kvs.length<=sizeLine/\(a==sysModules)=false /\ ∃vs,KV kvs vs/\h.DictOf (zaE P w) a vs
 | .dT kvs=>kvs.length<=sizeLine/\(a==sysModules)=false /\ ∃xs:List (List Key×Addr×Value),
   Paired (fun (p:List Key×V) (q:List Key×Addr×Value)=>p.1=q.1/\H q.2.1=some (.tup (p.1.map kV))/\RelV p.2 q.2.2) kvs xs /\
   ∃o es ep,h.get? a=some o/\o.ExactDict/\o.data=.dict es ep/\es.toList=xs.map (entryOfKey (tupleKind (zaE P w)))/\(xs.map (·.1)).Nodup
 | .set S n=>h.SetOf (intKind P w) a S n
 | .ins C dx fs=>H dx=some (.own a)/\fs.length<=1000/\dx≠a/\h.get? a=some (PySem.W.instObj C dx) /\
   ∃mA,h.Ns1 dx mA/\(∀f,RelO (fs.lookup f) (mA f))/\PySem.Within mA (fs.map (·.1))
 | .own _=>∃o,h.get? a=some o
 | .xd fs=>∃mA,h.Ns1 a mA /\ ∀f,RelO (fs.lookup f) (mA f)
 | .rng lo hi=>∃t u v,h.get? a=some { cls:=.type "range",data:=.fields #[.int lo t,.int hi u,.int 1 v] }
 | .frz o u=>h.get? a=some o/\za4 H h a u
 | .tbl ps=>h.get? a=some { cls:=.none,data:=.fields ps }
 | .met f x=>h.get? a=some (PySem.W.methodObj (.ref f) (.ref x))
 | .ext φ=>φ h/\(∃o,h.get? a=some o) /\ ∀h1 h2:Heap,φ h1->(∀o,h1.get? a=some o->h2.get? a=some o)->φ h2
def HOk (H:Hp) (h:Heap):Prop:=∀a o,H a=some o->za4 P w H h a o
end
section
variable {P:Program}{w:World}{H H':Hp}{h h':Heap}{a:Addr}{o:HO}
theorem za4.lt (x:za4 P w H h a o):a < h.objs.size:=by
 cases o with
 | lst xs=>obtain ⟨_,_,_,_,e⟩:=x;exact Heap.lt_size e
 | tup xs=>obtain ⟨_,_,_,p⟩:=x;exact p.lt
 | dK kvs=>obtain ⟨_,_,_,_,o,_,_,e,_⟩:=x;exact Heap.lt_size e
 | dT kvs=>obtain ⟨_,_,_,_,o,_,_,e,_⟩:=x;exact Heap.lt_size e
 | set S n=>obtain ⟨o,_,_,_,e,_⟩:=x;exact Heap.lt_size e
 | ins C dx fs=>obtain ⟨_,_,_,e,_⟩:=x;exact Heap.lt_size e
 | own y=>obtain ⟨_,e⟩:=x;exact Heap.lt_size e
 | xd fs=>obtain ⟨_,⟨_,_,_,e,_⟩,_⟩:=x;exact Heap.lt_size e
 | rng lo hi=>obtain ⟨_,_,_,e⟩:=x;exact Heap.lt_size e
 | frz ob u=>obtain ⟨e,_⟩:=x;exact Heap.lt_size e
 | tbl ps=>exact Heap.lt_size (show h.get? a=some _ from x)
 | met f y=>exact Heap.lt_size (show h.get? a=some _ from x)
 | ext φ=>obtain ⟨_,⟨_,e⟩,_⟩:=x;exact Heap.lt_size e
theorem Paired.mapP {α β:Type}{F G:α->β->Prop}:∀{l₁:List α}{l₂:List β},Paired F l₁ l₂->(∀a b,F a b->G a b)->Paired G l₁ l₂
 | _,_,.nil,_=>.nil
 | _,_,.cons r t,f=>.cons (f _ _ r) (Paired.mapP t f)
theorem za4.stay (x:za4 P w H h a o) (k:∀b u,(b=a\/H b=some (.own a))->h.get? b=some u->h'.get? b=some u)
  (ho:∀b,H b=some (.own a)->H' b=some (.own a)) (ht:∀b xs,H b=some (.tup xs)->H' b=some (.tup xs)):za4 P w H' h' a o:=by
 induction o with
 | lst xs=>obtain ⟨z,its,n,r,e⟩:=x;exact ⟨z,its,n,r,k _ _ (.inl rfl) e⟩
 | tup xs=>obtain ⟨z,its,r,ob,e,c⟩:=x;exact ⟨z,its,r,ob,k _ _ (.inl rfl) e,c⟩
 | dK kvs=>obtain ⟨z,y,vs,r,ob,es,ep,e,c⟩:=x;exact ⟨z,y,vs,r,ob,es,ep,k _ _ (.inl rfl) e,c⟩
 | dT kvs =>
  obtain ⟨z,y,xs,r,ob,es,ep,e,c⟩:=x;exact ⟨z,y,xs,Paired.mapP r fun p q z=>⟨z.1,ht _ _ z.2.1,z.2.2⟩,ob,es,ep,k _ _ (.inl rfl) e,c⟩
 | set S n=>obtain ⟨ob,es,ep,t,e,c⟩:=x;exact ⟨ob,es,ep,t,k _ _ (.inl rfl) e,c⟩
 | ins C dx fs =>
  obtain ⟨d,z,ne,e,mA,⟨od,es,ep,e2,c⟩,r⟩:=x;exact ⟨ho _ d,z,ne,k _ _ (.inl rfl) e,mA,⟨od,es,ep,k _ _ (.inr d) e2,c⟩,r⟩
 | own y=>obtain ⟨ob,e⟩:=x;exact ⟨ob,k _ _ (.inl rfl) e⟩
 | xd fs=>obtain ⟨mA,⟨od,es,ep,e,c⟩,r⟩:=x;exact ⟨mA,⟨od,es,ep,k _ _ (.inl rfl) e,c⟩,r⟩
 | rng lo hi=>obtain ⟨t,u,v,e⟩:=x;exact ⟨t,u,v,k _ _ (.inl rfl) e⟩
 | frz ob u ih=>obtain ⟨e,q⟩:=x;exact ⟨k _ _ (.inl rfl) e,ih q⟩
 | tbl ps =>
  have e:h.get? a=some { cls:=.none,data:=.fields ps }:=x;show h'.get? a=some { cls:=.none,data:=.fields ps };exact k a _ (.inl rfl) e
 | met f y =>
  have e:h.get? a=some (PySem.W.methodObj (.ref f) (.ref y)):=x;show h'.get? a=some (PySem.W.methodObj (.ref f) (.ref y));exact k a _ (.inl rfl) e
 | ext φ=>obtain ⟨p,⟨o,e⟩,st⟩:=x;exact ⟨st _ _ p fun o q=>k _ _ (.inl rfl) q,⟨o,k _ _ (.inl rfl) e⟩,st⟩
theorem HOk.lt (x:HOk P w H h) (e:H a=some o):a < h.objs.size:=(x a o e).lt
theorem HOk.fresh (x:HOk P w H h) (e:h.objs.size<=a):H a=none:=by
 cases q:H a with
 | none=>rfl
 | some u=>exact absurd (Nat.lt_of_lt_of_le (x.lt q) e) (Nat.lt_irrefl _)
theorem HOk.kept (x:HOk P w H h) (k:∀b u,h.get? b=some u->h'.get? b=some u):HOk P w H h':=fun a o e =>
 (x a o e).stay (fun b u _ q=>k b u q) (fun _ q=>q) fun _ _ q=>q
theorem HOk.laid (x:HOk P w H h) (k:∀b u,h.get? b=some u->h'.get? b=some u) (hp:h.objs.size<=a) (new:za4 P w (upd H a o) h' a o):HOk P w (upd H a o) h':=fun b u e=>by
 have hn:=x.fresh hp;by_cases hb:b=a
 ·subst hb;rw [zaf] at e;cases e;exact new
 ·rw [zac hb] at e
  exact (x b u e).stay (fun c v _ q=>k c v q) (fun c q=>by rw [zac (zaw q hn)];exact q) fun c xs q=>by rw [zac (zaw q hn)];exact q
end
def Rd (H:Hp) (a:Addr) (u:HO):Prop:=H a=some u \/ ∃o,H a=some (.frz o u)
theorem Rd.ok {P:Program}{w:World}{H:Hp}{h:Heap}{a:Addr}{u:HO}(r:Rd H a u) (x:HOk P w H h):za4 P w H h a u:=by
 rcases r with r|⟨o,r⟩
 ·exact x a u r
 ·obtain ⟨_,q⟩:=x a _ r
  exact q
def Mut:Option HO->Prop
 | some (.lst _)=>True
 | some (.dK _)=>True
 | some (.dT _)=>True
 | some (.set _ _)=>True
 | some (.ins _ _ _)=>True
 | some (.ext _)=>True
 | _=>False
section
variable {P:Program}{w:World}{H:Hp}{h h':Heap}{x e:Addr}{o':HO}
theorem HOk.write (ok:HOk P w H h) (mu:Mut (H x)) (he:e=x\/H e=some (.own x)) (k:∀b u,b≠e->h.get? b=some u->h'.get? b=some u) (heo:∃u,h'.get? e=some u)
  (new:za4 P w (upd H x o') h' x o'):HOk P w (upd H x o') h':=fun b u q=>by
 have nown:∀c y,H c=some (.own y)->c≠x:=fun c y r z=>by subst z;rw [r] at mu;exact mu
 have ntup:∀c xs,H c=some (.tup xs)->c≠x:=fun c xs r z=>by subst z;rw [r] at mu;exact mu
 by_cases hb:b=x
 ·subst hb;rw [zaf] at q;cases q;exact new
 ·rw [zac hb] at q
  by_cases hbe:b=e
  ·have q':H b=some (.own x):=by
    rcases he with z|z
    ·exact absurd (hbe.trans z) hb
    ·rw [hbe];exact z
   rw [q] at q';cases q';obtain ⟨v,hv⟩:=heo;exact ⟨v,by rw [hbe];exact hv⟩
  ·refine (ok b u q).stay (fun c v hc r=>k c v ?_ r) (fun c r=>by rw [zac (nown c b r)];exact r) fun c xs r=>by rw [zac (ntup c xs r)];exact r
   rcases hc with rfl|hc
   ·exact hbe
   ·rintro rfl
    rcases he with z|z
    ·exact nown c b hc z
    ·rw [hc] at z;cases z;exact hb rfl
end
structure Un (fs ex:List Addr) (H H':Hp) (h h':Heap):Prop where
 keep:∀b o,h.get? b=some o->H b=none->b∉fs->b∉ex->h'.get? b=some o
 slot:∀b o,h.get? b=some o->H b=none->b∈fs->b∉ex -> ∃sl,h'.get? b=some { o with slots:=sl }
 free:∀b o,h.get? b=some o->H b=none->b∉ex->H' b=none
 there:∀b o,h.get? b=some o->b∉ex -> ∃o',h'.get? b=some o'
 tups:∀b xs,H b=some (.tup xs)->H' b=some (.tup xs)
 frzs:∀b o u,H b=some (.frz o u)->H' b=some (.frz o u)
 tbls:∀b ps,H b=some (.tbl ps) -> ∃more,H' b=some (.tbl (ps++more))
section
variable {fs fs' ex ex':List Addr}{H H1 H2:Hp}{h h1 h2 h':Heap}{a x e:Addr}{o:HO}
theorem Un.any (u:Un fs ex H H1 h h1) {b:Addr}{ob:Obj}(q:h.get? b=some ob) (n:H b=none) (hx:b∉ex):∃sl,h1.get? b=some { ob with slots:=sl }:=by
 by_cases hb:b∈fs
 ·exact u.slot b ob q n hb hx
 ·exact ⟨ob.slots,u.keep b ob q n hb hx⟩
theorem Un.kept (k:∀b u,h.get? b=some u->h'.get? b=some u):Un fs ex H H h h' :=
 ⟨fun b ob q _ _ _=>k b ob q,fun b ob q _ _ _=>⟨ob.slots,k b ob q⟩,fun _ _ _ n _=>n,fun b ob q _=>⟨ob,k b ob q⟩,fun _ _ q=>q,fun _ _ _ q=>q,fun _ ps q=>⟨#[],by rw [q];simp⟩⟩
theorem Un.refl:Un fs ex H H h h:=Un.kept fun _ _ q=>q
theorem Un.laid (k:∀b u,h.get? b=some u->h'.get? b=some u) (hp:h.objs.size<=a) (hn:H a=none):Un fs ex H (upd H a o) h h' where
 keep:=fun b u q _ _ _=>k b u q
 slot:=fun b u q _ _ _=>⟨u.slots,k b u q⟩
 free:=fun b u q n _=>by rw [zac (Nat.ne_of_lt (Nat.lt_of_lt_of_le (Heap.lt_size q) hp))];exact n
 there:=fun b u q _=>⟨u,k b u q⟩
 tups:=fun b xs q=>by rw [zac (zaw q hn)];exact q
 frzs:=fun b u xs q=>by rw [zac (zaw q hn)];exact q
 tbls:=fun b ps q=>⟨#[],by rw [zac (zaw q hn),q];simp⟩
theorem Un.write (mu:Mut (H x)) (he:e=x\/H e=some (.own x)) (k:∀b u,b≠e->h.get? b=some u->h'.get? b=some u) (heo:∃u,h'.get? e=some u):Un fs ex H (upd H x o) h h':=by
 have hx:∀b,H b=none->b≠x:=fun b n z=>by subst z;rw [n] at mu;exact mu
 have hb:∀b,H b=none->b≠e:=fun b n z=>by
  subst z;rcases he with r|r
  ·exact hx b n r
  ·rw [n] at r;cases r
 have hm:∀b u,H b=some u -> ¬Mut (some u)->b≠x:=fun b u q nm z=>by subst z;rw [q] at mu;exact nm mu
 refine ⟨fun b u q n _ _=>k b u (hb b n) q,fun b u q n _ _=>⟨u.slots,k b u (hb b n) q⟩,fun b u q n _=>by rw [zac (hx b n)];exact n,fun b u q _=>?_,
  fun b xs q=>by rw [zac (hm b _ q fun z=>z)];exact q,fun b u xs q=>by rw [zac (hm b _ q fun z=>z)];exact q,fun b ps q=>⟨#[],by rw [zac (hm b _ q fun z=>z),q];simp⟩⟩
 by_cases hbe:b=e
 ·subst hbe;exact heo
 ·exact ⟨u,k b u hbe q⟩
end
def trk (h:Heap) (H:Hp):List Addr:=(List.range h.objs.size).filter fun a=>(H a).isSome
def hidT (h:Heap) (H:Hp):Heap:=PySem.W.hideAll h (trk h H)
theorem zmm (h:Heap) (H:Hp):(hidT h H).objs.size=h.objs.size:=PySem.W.hideAll_size _ _
theorem zoa {h:Heap}{H:Hp}{b:Addr}{o:Obj}(e:h.get? b=some o) (n:H b=none):(hidT h H).get? b=some o :=
 PySem.W.hideAll_get _ e fun hm=>by
  have q:(H b).isSome=true:=(Zh1.mp hm).2;rw [n] at q;simp at q
theorem zqZ {h:Heap}{H:Hp}{b:Addr}{o:Obj}(e:(hidT h H).get? b=some o):h.get? b=some o/\H b=none:=by
 have e':h.get? b=some o:=PySem.W.of_hideAll (trk h H) e;refine ⟨e',?_⟩;cases q:H b with
 | none=>rfl
 | some x =>
  have hm:b∈trk h H:=Zh1.mpr ⟨Zt.mpr (Heap.lt_size e'),by simp [q]⟩;have z:(hidT h H).get? b=none:=PySem.W.hideAll_none (trk h H) hm;rw [z] at e;cases e
def zrJ (g h:Heap) (L:Addr):List (Addr×Obj):=(List.range h.objs.size).filterMap fun a=>if a=L\/(g.get? a).isSome=true then none else (h.get? a).map fun o=>(a,o)
def rest (g h:Heap) (L d:Addr):List (Addr×Obj):=(zrJ g h L).filter fun p=>decide (p.1≠d)
structure Mod (K:PySem.W.Frag) (mg:Str->Option Value) (base:Heap):Prop where
 kin:K.In base
 glob:base.Ns mainGlobals mg
 blt:∃mb,base.Ns builtinsNs mb /\ ∀x:Str,x≠"__name__" -> mb x=bootBuiltins x
 nolimit:base.NoLimit
structure Cx where
 prog:Program
 w:World
 K:PySem.W.Frag
 mg:Str->Option Value
 base:Heap
 A:Around
 N:List Str
 s₀:Shared
 H₀:Hp
 env:Env
 outer:List Env
 stack:List Env
 ex:List Addr
 fn:Str->Bool
 calm:Bool
 pn:List (Addr×Obj)
 xe:Value->Shared->Prop
def frs (l:List Env):List Addr:=l.filterMap (·.frame)
abbrev Cx.fs (X:Cx):List Addr:=frs X.outer
def Vis (sc:Scope) (x:Str):Prop:=sc.names.lookup x=some .local\/sc.names.lookup x=some .cell\/sc.names.lookup x=some .free
def Loc (sc:Scope) (x:Str):Prop:=sc.names.lookup x=some .local\/sc.names.lookup x=some .cell
def Look (env:Env) (h:Heap) (m:Str->Option Value) (x:Str) (u:Value):Prop :=
 (env.kindOf x=some .local/\m x=some u)\/((env.kindOf x=some .cell\/env.kindOf x=some .free) /\ ∃c,env.cells.lookup x=some c/\h.IsCell c (some u))
structure Cx.Ok (X:Cx):Prop where
 mod:Mod X.K X.mg X.base
 kind:X.env.scope.kind=.function
 glob:X.env.globals=mainGlobals
 blt:X.env.builtins=builtinsNs
 above:X.s₀.heap.objs.size<=X.env.locals
 inj:∀x y c,X.env.cells.lookup x=some c->X.env.cells.lookup y=some c->x=y
 has:∀x,(X.env.kindOf x=some .cell\/X.env.kindOf x=some .free) -> ∃c,X.env.cells.lookup x=some c
 cab:∀x c,X.fn x=true->X.env.cells.lookup x=some c->X.s₀.heap.objs.size<=c
 hd:X.calm=true->X.A.handled=none
 frames:X.A.frames=some X.stack
 stk:X.stack=X.outer\/(X.stack=X.env::X.outer/\X.env.frame=some X.env.locals)
 exf:∀b∈X.ex,b≠X.env.locals /\ ∀x c,X.env.cells.lookup x=some c->c≠b
 bs:∀b o,X.base.get? b=some o->X.s₀.heap.get? b=some o/\X.H₀ b=none
 bsz:X.base.objs.size<=X.s₀.heap.objs.size
 noex:∀b o,X.base.get? b=some o->b∉X.ex
 exfs:∀b∈X.ex,b∉X.fs
 funs:X.s₀.heap.FunFrames X.base X.outer
 frf:∀b∈X.fs,X.H₀ b=none
structure Inv (X:Cx) (pins:List (Addr×Obj)) (σ:List (Option V)) (H:Hp) (s:Shared):Prop where
 ok:X.Ok
 os:s.os=X.s₀.os
 bare:AllBare s.gens
 base:Un X.fs X.ex X.H₀ H X.s₀.heap s.heap
 loc:∃m,s.heap.Ns X.env.locals m /\ ∀(i:Nat) (x:Str) (v:V),X.N[i]?=some x->σ[i]?=some (some v)->Vis X.env.scope x -> ∃u,RelV v u/\Look X.env s.heap m x u
 cell:∀x c,X.env.cells.lookup x=some c -> ∃v,s.heap.IsCell c v
 free:H X.env.locals=none
 freeC:∀x c,X.env.cells.lookup x=some c->H c=none
 pin:∀p∈X.pn++pins,s.heap.get? p.1=some p.2/\H p.1=none/\p.1≠X.env.locals/\p.1∉X.fs /\ ∀v,p.2.data≠.cell v
 hok:HOk X.prog X.w H s.heap
 len:σ.length=X.N.length
section
variable {X:Cx}{pins:List (Addr×Obj)}{σ:List (Option V)}{H H':Hp}{s:Shared}{h':Heap}
theorem Cx.Ok.nofr (ok:X.Ok) {b:Addr}{o:Obj}(e:X.base.get? b=some o):b∉X.fs:=fun hb=>by
 have:=(ok.funs.mem hb).1;rw [e] at this;cases this
theorem Inv.bs (I:Inv X pins σ H s):∀b o,X.base.get? b=some o->s.heap.get? b=some o/\H b=none:=fun b o e =>
 ⟨I.base.keep b o (I.ok.bs b o e).1 (I.ok.bs b o e).2 (I.ok.nofr e) (I.ok.noex b o e),I.base.free b o (I.ok.bs b o e).1 (I.ok.bs b o e).2 (I.ok.noex b o e)⟩
theorem Inv.bk (I:Inv X pins σ H s):∀b o,X.base.get? b=some o->s.heap.get? b=some o:=fun b o e=>(I.bs b o e).1
theorem Inv.mod (I:Inv X pins σ H s):Mod X.K X.mg X.base:=I.ok.mod
theorem Inv.kIn (I:Inv X pins σ H s):X.K.In s.heap:=I.ok.mod.kin.keeps I.bk
theorem Inv.lt (I:Inv X pins σ H s):X.env.locals < s.heap.objs.size:=let ⟨_,hn,_⟩:=I.loc;hn.lt
theorem Inv.sz (I:Inv X pins σ H s):X.s₀.heap.objs.size<=s.heap.objs.size:=Nat.le_trans I.ok.above (Nat.le_of_lt I.lt)
theorem Inv.nofs (I:Inv X pins σ H s) {a:Addr}(h:s.heap.objs.size<=a):a∉X.fs:=fun hb=>by
 obtain ⟨_,o,ho,_⟩:=I.ok.funs.mem hb;exact absurd (Nat.lt_of_lt_of_le (Heap.lt_size ho) (Nat.le_trans I.sz h)) (Nat.lt_irrefl _)
theorem Inv.cne (I:Inv X pins σ H s):∀x c,X.env.cells.lookup x=some c->c≠X.env.locals:=fun x c e z=>by
 obtain ⟨v,o,ho,hd⟩:=I.cell x c e;obtain ⟨m,⟨o',es,ep,ho',hd',_⟩,_⟩:=I.loc;rw [z,ho'] at ho;cases ho;rw [hd'] at hd;cases hd
theorem Inv.funs (I:Inv X pins σ H s):s.heap.FunFrames X.base X.outer:=by
 have all:∀(l:List Env),(∀b∈frs l,b∈X.fs)->X.s₀.heap.FunFrames X.base l->s.heap.FunFrames X.base l:=by
  intro l
  induction l with
  | nil=>intro _ _;trivial
  | cons env r ih =>
   intro hs hl;obtain ⟨hk,⟨L,o,hf,hn,ho,hd⟩,hr⟩:=hl;have hL:L∈X.fs:=hs L (by unfold frs;rw [List.filterMap_cons,hf];exact Zf);obtain ⟨sl,e⟩:=I.base.slot L o ho (I.ok.frf L hL) hL fun z=>I.ok.exfs L z hL;exact ⟨hk,⟨L,_,hf,hn,e,hd⟩,ih (fun b hb=>hs b (by unfold frs;rw [List.filterMap_cons,hf];exact Ze _ hb)) hr⟩
 exact all X.outer (fun _ hb=>hb) I.ok.funs
theorem Inv.stack (I:Inv X pins σ H s):s.heap.FunFrames X.base X.stack:=by
 rcases I.ok.stk with e|⟨e,hf⟩
 ·rw [e];exact I.funs
 ·rw [e]
  obtain ⟨m,hn,_⟩:=I.loc;refine .cons (by rw [I.ok.kind];decide) hf hn ?_ I.funs;exact Heap.get?_none_of_le (Nat.le_trans I.ok.bsz I.ok.above)
theorem Inv.stkSub (I:Inv X pins σ H s):∀b∈frs X.stack,b∈X.env.locals::X.fs:=fun b hb=>by
 rcases I.ok.stk with e|⟨e,hf⟩
 ·rw [e] at hb;exact Ze _ hb
 ·rw [e] at hb
  unfold frs at hb;rw [List.filterMap_cons,hf] at hb;exact hb
theorem Inv.stkFree (I:Inv X pins σ H s):∀b∈frs X.stack,H b=none:=fun b hb=>by
 rcases Zk.mp (I.stkSub b hb) with e|hb
 ·rw [e];exact I.free
 ·obtain ⟨_,o,ho,_⟩:=I.ok.funs.mem hb
  exact I.base.free b o ho (I.ok.frf b hb) fun z=>I.ok.exfs b z hb
theorem Inv.step {g':Array GenState}{t':Nat}{d':Drawn}{ch:List Addr}(I:Inv X pins σ H s)
  (hch:∀b∈ch,(b∈X.ex\/X.s₀.heap.objs.size<=b)/\b≠X.env.locals/\(∀x c,X.env.cells.lookup x=some c->c≠b) /\ ∀p∈X.pn++pins,p.1≠b)
  (keep:∀b o,b≠X.env.locals->b∉X.fs->b∉ch->s.heap.get? b=some o->H b=none->h'.get? b=some o)
  (slot:∀b o,b≠X.env.locals->b∈X.fs->b∉ch->s.heap.get? b=some o->H b=none -> ∃sl,h'.get? b=some { o with slots:=sl }) (free:∀b o,b∉ch->s.heap.get? b=some o->H b=none->H' b=none)
  (there:∀b o,b∉ch->s.heap.get? b=some o -> ∃o',h'.get? b=some o')
  (tups:∀b xs,H b=some (.tup xs)->H' b=some (.tup xs)) (frzs:∀b o u,H b=some (.frz o u)->H' b=some (.frz o u)) (tbls:∀b ps,H b=some (.tbl ps) -> ∃more,H' b=some (.tbl (ps++more)))
  (ns:∀m,s.heap.Ns X.env.locals m->h'.Ns X.env.locals m) (hok:HOk X.prog X.w H' h') (hg:AllBare g') :
  Inv X pins σ H' { s with heap:=h',gens:=g',drawn:=d',toks:=t' }:=by
 have neL:∀b o,X.s₀.heap.get? b=some o->b≠X.env.locals:=fun b o e=>Nat.ne_of_lt (Nat.lt_of_lt_of_le (Heap.lt_size e) I.ok.above);have neC:∀b o,X.s₀.heap.get? b=some o->b∉X.ex->b∉ch:=fun b o e hx hb=>by
  rcases (hch b hb).1 with z|z
  ·exact hx z
  ·exact absurd (Nat.lt_of_lt_of_le (Heap.lt_size e) z) (Nat.lt_irrefl _)
 have cellK:∀x c,X.env.cells.lookup x=some c -> ∀v,s.heap.IsCell c v->h'.IsCell c v:=fun x c e v ⟨o,ho,hd⟩=>by
  have nch:c∉ch:=fun z=>(hch c z).2.2.1 x c e rfl;by_cases hc:c∈X.fs
  ·obtain ⟨sl,q⟩:=slot c o (I.cne x c e) hc nch ho (I.freeC x c e)
   exact ⟨_,q,hd⟩
  ·exact ⟨o,keep c o (I.cne x c e) hc nch ho (I.freeC x c e),hd⟩
 refine ⟨I.ok,I.os,hg,⟨fun b o e n hb hx=>?_,fun b o e n hb hx=>?_,fun b o e n hx=>?_,fun b o e hx=>?_,fun b xs e=>tups b xs (I.base.tups b xs e),fun b o xs e=>frzs b o xs (I.base.frzs b o xs e),fun b ps e=>?_⟩,?_,fun x c e=>?_,?_,fun x c e=>?_,fun p hp=>?_,hok,I.len⟩
 ·exact keep b o (neL b o e) hb (neC b o e hx) (I.base.keep b o e n hb hx) (I.base.free b o e n hx)
 ·obtain ⟨sl,e1⟩:=I.base.slot b o e n hb hx
  obtain ⟨sl',e2⟩:=slot b _ (neL b o e) hb (neC b o e hx) e1 (I.base.free b o e n hx);exact ⟨sl',e2⟩
 ·obtain ⟨o',e1⟩:=I.base.there b o e hx
  exact free b o' (neC b o e hx) e1 (I.base.free b o e n hx)
 ·obtain ⟨o',e1⟩:=I.base.there b o e hx
  exact there b o' (neC b o e hx) e1
 ·obtain ⟨m1,e1⟩:=I.base.tbls b ps e
  obtain ⟨m2,e2⟩:=tbls b _ e1;exact ⟨m1++m2,by rw [e2,Array.append_assoc]⟩
 ·obtain ⟨m,hn,hl⟩:=I.loc
  refine ⟨m,ns m hn,fun i x v e1 e2 e3=>?_⟩;obtain ⟨u,r,l⟩:=hl i x v e1 e2 e3;refine ⟨u,r,?_⟩;rcases l with l|⟨k,c,e,z⟩
  ·exact .inl l
  ·exact .inr ⟨k,c,e,cellK x c e _ z⟩
 ·obtain ⟨v,z⟩:=I.cell x c e
  exact ⟨v,cellK x c e v z⟩
 ·obtain ⟨m,⟨o,_,_,ho,_⟩,_⟩:=I.loc
  exact free _ o (fun z=>(hch _ z).2.1 rfl) ho I.free
 ·obtain ⟨v,o,ho,hd⟩:=I.cell x c e
  exact free c o (fun z=>(hch c z).2.2.1 x c e rfl) ho (I.freeC x c e)
 ·obtain ⟨e,n,ne,nf,d⟩:=I.pin p hp
  have nch:p.1∉ch:=fun z=>(hch p.1 z).2.2.2 p hp rfl;exact ⟨keep p.1 p.2 ne nf nch e n,free p.1 p.2 nch e n,ne,nf,d⟩
theorem Inv.un {t':Nat}(I:Inv X pins σ H s) (u:Un X.fs [] H H' s.heap h') (hok:HOk X.prog X.w H' h'):Inv X pins σ H' { s with heap:=h',toks:=t' }:=by
 obtain ⟨m,⟨o,es,ep,ho,r⟩,_⟩:=id I.loc;obtain ⟨sl,hL⟩:=u.any ho I.free (by simp);exact I.step (g':=s.gens) (d':=s.drawn) (ch:=[]) (fun _ z=>nomatch z) (fun b o _ hb _ e n=>u.keep b o e n hb (by simp)) (fun b o _ hb _ e n=>u.slot b o e n hb (by simp)) (fun b o _ e n=>u.free b o e n (by simp)) (fun b o _ e=>u.there b o e (by simp)) u.tups u.frzs u.tbls (fun m' hm=>by
  obtain ⟨o',es',ep',ho',r'⟩:=hm;rw [ho] at ho';cases ho';exact ⟨_,es',ep',hL,r'⟩) hok I.bare
theorem Inv.call {g':Array GenState}{t':Nat}{d':Drawn}{ch:List Addr}(I:Inv X pins σ H s) (u:Un (frs X.stack) ch H H' s.heap h') (hok:HOk X.prog X.w H' h') (hg:AllBare g')
  (hch:∀b∈ch,(b∈X.ex\/X.s₀.heap.objs.size<=b)/\b≠X.env.locals/\(∀x c,X.env.cells.lookup x=some c->c≠b) /\ ∀p∈X.pn++pins,p.1≠b) :
  Inv X pins σ H' { s with heap:=h',gens:=g',drawn:=d',toks:=t' }:=by
 obtain ⟨m,⟨o,es,ep,ho,r⟩,_⟩:=id I.loc;obtain ⟨sl,hL⟩:=u.any ho I.free fun z=>(hch _ z).2.1 rfl;exact I.step (ch:=ch) hch (fun b o hL hb hc e n=>u.keep b o e n (fun z=>(Zk.mp (I.stkSub b z)).elim hL hb) hc) (fun b o _ _ hc e n=>u.any e n hc) (fun b o hc e n=>u.free b o e n hc) (fun b o hc e=>u.there b o e hc) u.tups u.frzs u.tbls (fun m' hm=>by
  obtain ⟨o',es',ep',ho',r'⟩:=hm;rw [ho] at ho';cases ho';exact ⟨_,es',ep',hL,r'⟩) hok hg
theorem Inv.turned {t':Nat}{it:Addr}(I:Inv X pins σ H s) (k:∀b o,b≠it->s.heap.get? b=some o->h'.get? b=some o) (hn:H it=none) (hL:it≠X.env.locals)
  (h1:it∈X.ex\/X.s₀.heap.objs.size<=it) (h2:∀x c,X.env.cells.lookup x=some c->c≠it) (h3:∀p∈X.pn++pins,p.1≠it):Inv X pins σ H { s with heap:=h',toks:=t' }:=by
 have nit:∀b u,H b=some u->b≠it:=fun b u e z=>by rw [z,hn] at e;cases e
 refine I.step (g':=s.gens) (d':=s.drawn) (ch:=[it]) (fun b hb=>?_) (fun b o _ _ hc e _=>k b o (fun z=>hc (by simp [z])) e) (fun b o _ _ hc e _=>⟨o.slots,k b o (fun z=>hc (by simp [z])) e⟩) (fun _ _ _ _ n=>n)
  (fun b o hc e=>⟨o,k b o (fun z=>hc (by simp [z])) e⟩) (fun _ _ e=>e) (fun _ _ _ e=>e) (fun b ps e=>⟨#[],by rw [e];simp⟩) (fun m hm=>?_) (fun b u e=>?_) I.bare
 ·have e:b=it:=by simpa using hb
  subst e;exact ⟨h1,hL,h2,h3⟩
 ·obtain ⟨o,es,ep,ho,r⟩:=hm
  exact ⟨o,es,ep,k _ o (Ne.symm hL) ho,r⟩
 ·refine (I.hok b u e).stay (fun c v hc q=>k c v ?_ q) (fun _ q=>q) fun _ _ q=>q
  rcases hc with z|z
  ·rw [z];exact nit b u e
  ·exact nit c _ z
theorem Inv.tok (I:Inv X pins σ H s) (t:Nat):Inv X pins σ H { s with toks:=t }:=I.un (h':=s.heap) (t':=t) Un.refl I.hok
theorem Inv.kept {t':Nat}(I:Inv X pins σ H s) (k:∀b u,s.heap.get? b=some u->h'.get? b=some u):Inv X pins σ H { s with heap:=h',toks:=t' }:=I.un (Un.kept k) (I.hok.kept k)
theorem Inv.laid {a:Addr}{o:HO}{t':Nat}(I:Inv X pins σ H s) (k:∀b u,s.heap.get? b=some u->h'.get? b=some u) (hp:s.heap.objs.size<=a) (new:za4 X.prog X.w (upd H a o) h' a o) :
  Inv X pins σ (upd H a o) { s with heap:=h',toks:=t' }:=I.un (Un.laid k hp (I.hok.fresh hp)) (I.hok.laid k hp new)
theorem Inv.write {x e:Addr}{o:HO}{t':Nat}(I:Inv X pins σ H s) (mu:Mut (H x)) (he:e=x\/H e=some (.own x)) (k:∀b u,b≠e->s.heap.get? b=some u->h'.get? b=some u) (heo:∃u,h'.get? e=some u)
  (new:za4 X.prog X.w (upd H x o) h' x o):Inv X pins σ (upd H x o) { s with heap:=h',toks:=t' }:=I.un (Un.write mu he k heo) (I.hok.write mu he k heo new)
theorem Inv.pins_of {pins':List (Addr×Obj)}(I:Inv X pins σ H s) (h:∀p∈pins',s.heap.get? p.1=some p.2/\H p.1=none/\p.1≠X.env.locals/\p.1∉X.fs /\ ∀v,p.2.data≠.cell v):Inv X pins' σ H s :=
 ⟨I.ok,I.os,I.bare,I.base,I.loc,I.cell,I.free,I.freeC,fun p hp=>(Zd1.mp hp).elim (fun z=>I.pin p (List.mem_append_left _ z)) (h p),I.hok,I.len⟩
theorem zjr {N:List Str}(hN:N.Nodup) {i j:Nat}{x:Str}(a:N[i]?=some x) (b:N[j]?=some x):i=j:=by
 obtain ⟨h1,e1⟩:=Zg.mp a;obtain ⟨h2,e2⟩:=Zg.mp b;exact (List.getElem_inj hN).mp (e1.trans e2.symm)
theorem zhg {M:Model}{A:Around}{E:Value->Shared->Prop}{i:Nat}{x:Str}{v:V}{u:Value}{Q:Unit->Shared->Prop}(I:Inv X pins σ H s) (hN:X.N.Nodup) (hi:X.N[i]?=some x) (hx:Loc X.env.scope x) (r:RelV v u)
  (h:∀s',Inv X pins (σ.set i (some v)) H s' -> (∃a,Heap.SameBut a s.heap s'.heap/\(a=X.env.locals\/X.env.cells.lookup x=some a))->Q () s') (hf:X.fn x=true\/X.env.scope.names.lookup x=some .local:=by first|exact .inl rfl|exact .inr rfl|assumption):wpAny M A (storeName X.env x u) Q E s:=by
 obtain ⟨m,hn,hl⟩:=id I.loc;have hcls:(X.env.scope.kind == .class || (X.env.scope.kind == .module&&X.env.locals != X.env.globals))=false:=by rw [I.ok.kind];rfl
 have hiσ:i < σ.length:=by rw [I.len];exact (Zg.mp hi).1
 have cne:=I.cne;have tracked:∀{a:Addr}{h':Heap},(∃o,s.heap.get? a=some o/\H a=none)->Heap.SameBut a s.heap h' -> HOk X.prog X.w H h':=fun {a h'} ha hs b ob e=>by
  obtain ⟨_,_,hfree⟩:=ha;refine (I.hok b ob e).stay (fun c w' hc q=>(hs.2 c ?_).trans q) (fun _ q=>q) fun _ _ q=>q;rintro rfl;rcases hc with rfl|hc
  ·rw [hfree] at e;cases e
  ·rw [hfree] at hc;cases hc
 rcases hx with hk|hk
 ·refine wpAny_storeName_local hk hn (fun h' hn' hs=>?_) hcls
  obtain ⟨oL,_,_,hoL,_⟩:=id hn;refine h _ ⟨I.ok,I.os,I.bare,⟨fun b o e n hb hx=>?_,fun b o e n hb hx=>?_,I.base.free,fun b o e hx=>?_,I.base.tups,I.base.frzs,I.base.tbls⟩,⟨_,hn',fun j y v' e1 e2 e3=>?_⟩,fun y c e=>?_,I.free,I.freeC,fun p hp=>?_,tracked ⟨oL,hoL,I.free⟩ hs,by simpa using I.len⟩ ⟨_,hs,.inl rfl⟩
  ·exact (hs.2 b (Nat.ne_of_lt (Nat.lt_of_lt_of_le (Heap.lt_size e) I.ok.above))).trans (I.base.keep b o e n hb hx)
  ·obtain ⟨sl,e1⟩:=I.base.slot b o e n hb hx
   exact ⟨sl,(hs.2 b (Nat.ne_of_lt (Nat.lt_of_lt_of_le (Heap.lt_size e) I.ok.above))).trans e1⟩
  ·obtain ⟨o',e1⟩:=I.base.there b o e hx
   exact ⟨o',(hs.2 b (Nat.ne_of_lt (Nat.lt_of_lt_of_le (Heap.lt_size e) I.ok.above))).trans e1⟩
  ·by_cases hj:j=i
   ·subst hj
    rw [hi] at e1;cases e1;rw [List.getElem?_set_self hiσ] at e2;cases e2;exact ⟨u,r,.inl ⟨hk,by simp⟩⟩
   ·rw [Zf1 (Ne.symm hj)] at e2
    obtain ⟨u',r',q⟩:=hl j y v' e1 e2 e3;refine ⟨u',r',?_⟩;rcases q with ⟨k,e⟩|⟨k,c,e,z⟩
    ·refine .inl ⟨k,?_⟩
     have:y≠x:=fun e=>hj (zjr hN e1 (e ▸ hi));simp [this,e]
    ·exact .inr ⟨k,c,e,z.sameBut hs (cne y c e)⟩
  ·obtain ⟨w',z⟩:=I.cell y c e
   exact ⟨w',z.sameBut hs (cne y c e)⟩
  ·obtain ⟨e,n,ne,nf,d⟩:=I.pin p hp
   exact ⟨(hs.2 p.1 ne).trans e,n,ne,nf,d⟩
 ·have hfn:X.fn x=true:=by
   rcases hf with z|z
   ·exact z
   ·rw [z] at hk;cases hk
  obtain ⟨c,hc⟩:=I.ok.has x (.inl hk);obtain ⟨w',z⟩:=I.cell x c hc;refine wpAny_storeName_cell I.ok.kind hk hc z (fun h' hc' hs=>?_);obtain ⟨oc,hoc,hocd⟩:=id z;refine h { s with heap:=h' } ⟨I.ok,I.os,I.bare,⟨fun b o e n hb hx=>?_,fun b o e n hb hx=>?_,I.base.free,fun b o e hx=>?_,I.base.tups,I.base.frzs,I.base.tbls⟩,⟨m,hn.sameBut hs (Ne.symm (cne x c hc)),fun j y v' e1 e2 e3=>?_⟩,fun y c' e=>?_,I.free,I.freeC,fun p hp=>?_,tracked ⟨oc,hoc,I.freeC x c hc⟩ hs,by simpa using I.len⟩ ⟨c,hs,.inr hc⟩
  ·exact (hs.2 b (Nat.ne_of_lt (Nat.lt_of_lt_of_le (Heap.lt_size e) (I.ok.cab x c hfn hc)))).trans (I.base.keep b o e n hb hx)
  ·obtain ⟨sl,e1⟩:=I.base.slot b o e n hb hx
   exact ⟨sl,(hs.2 b (Nat.ne_of_lt (Nat.lt_of_lt_of_le (Heap.lt_size e) (I.ok.cab x c hfn hc)))).trans e1⟩
  ·obtain ⟨o',e1⟩:=I.base.there b o e hx
   exact ⟨o',(hs.2 b (Nat.ne_of_lt (Nat.lt_of_lt_of_le (Heap.lt_size e) (I.ok.cab x c hfn hc)))).trans e1⟩
  ·by_cases hj:j=i
   ·subst hj
    rw [hi] at e1;cases e1;rw [List.getElem?_set_self hiσ] at e2;cases e2;exact ⟨u,r,.inr ⟨.inl hk,c,hc,hc'⟩⟩
   ·rw [Zf1 (Ne.symm hj)] at e2
    obtain ⟨u',r',q⟩:=hl j y v' e1 e2 e3;refine ⟨u',r',?_⟩;rcases q with q|⟨k,c',e,z'⟩
    ·exact .inl q
    ·refine .inr ⟨k,c',e,z'.sameBut hs ?_⟩
     rintro rfl;exact hj (zjr hN e1 (I.ok.inj _ _ _ e hc ▸ hi))
  ·by_cases hcc:c'=c
   ·subst hcc;exact ⟨_,hc'⟩
   ·obtain ⟨w2,z2⟩:=I.cell y c' e
    exact ⟨w2,z2.sameBut hs hcc⟩
  ·obtain ⟨e,n,ne,nf,d⟩:=I.pin p hp
   refine ⟨(hs.2 p.1 ?_).trans e,n,ne,nf,d⟩;intro q;rw [q,hoc] at e;have q':oc=p.2:=Option.some.inj e;exact d w' (by rw [<- q'];exact hocd)
theorem zi7 {M:Model}{A:Around}{E:Value->Shared->Prop}{i:Nat}{x:Str}{v:V}{u:Value}{Q:Unit->Shared->Prop}(I:Inv X pins σ H s) (hN:X.N.Nodup) (hi:X.N[i]?=some x) (hx:Loc X.env.scope x) (r:RelV v u)
  (h:∀s',Inv X pins (σ.set i (some v)) H s' -> Q () s') (hf:X.fn x=true\/X.env.scope.names.lookup x=some .local:=by first|exact .inl rfl|exact .inr rfl|assumption):wpAny M A (storeName X.env x u) Q E s :=
 zhg I hN hi hx r (fun s' I' _=>h s' I') hf
theorem Inv.call' {s':Shared}{ch:List Addr}(I:Inv X pins σ H s) (ho:s'.os=s.os) (u:Un (frs X.stack) ch H H' s.heap s'.heap) (hok:HOk X.prog X.w H' s'.heap) (hg:AllBare s'.gens)
  (hch:∀b∈ch,(b∈X.ex\/X.s₀.heap.objs.size<=b)/\b≠X.env.locals/\(∀x c,X.env.cells.lookup x=some c->c≠b) /\ ∀p∈X.pn++pins,p.1≠b):Inv X pins σ H' s':=by
 obtain ⟨h',g',d',t',o'⟩:=s';have e:o'=s.os:=ho;subst e;exact I.call (g':=g') (t':=t') (d':=d') u hok hg hch
end
abbrev XK:=Value->Option Addr->Hp->Prop
abbrev St:=List (Option V)
abbrev VK:=V->Hp->Prop
abbrev TE:=St->Hp->VK->Prop
abbrev TT:=St->Hp->(Bool->Hp->Prop)->Prop
abbrev TA:=St->Hp->(List V->Hp->Prop)->Prop
structure Ends where
 nx:St->Hp->Prop
 rt:VK
 bk:St->Hp->Prop:=fun _ _=>False
 ct:St->Hp->Prop:=fun _ _=>False
abbrev TS:=Ends->St->Hp->Prop
def EP (X:Cx) (pins:List (Addr×Obj)) (σ:St) (Q:VK) (u:Value) (s':Shared):Prop:=∃v H',Inv X pins σ H' s' /\ RelV v u/\Q v H'
def TP (X:Cx) (pins:List (Addr×Obj)) (σ:St) (Q:Bool->Hp->Prop) (b:Bool) (s':Shared):Prop:=∃H',Inv X pins σ H' s' /\ Q b H'
def AP (X:Cx) (pins:List (Addr×Obj)) (σ:St) (Q:List V->Hp->Prop) (us:List Value) (s':Shared):Prop:=∃vs H',Inv X pins σ H' s' /\ Vals vs us/\Q vs H'
def SP (X:Cx) (pins:List (Addr×Obj)) (D:Ends) (f:Flow) (s':Shared):Prop :=
 match f with
 | .next=>∃σ' H',Inv X pins σ' H' s' /\ D.nx σ' H'
 | .brk=>∃σ' H',Inv X pins σ' H' s' /\ D.bk σ' H'
 | .cont=>∃σ' H',Inv X pins σ' H' s' /\ D.ct σ' H'
 | .ret u=>∃v σ' H',Inv X pins σ' H' s' /\ RelV v u/\D.rt v H'
def PE (X:Cx) (e:Expr) (t:TE):Prop :=
 ∀(pins:List (Addr×Obj)) (s:Shared) (σ:St) (H:Hp) (Q:VK),Inv X pins σ H s->t σ H Q->wpAny (model X.prog X.w) X.A (eval e X.env) (EP X pins σ Q) X.xe s
def PT (X:Cx) (e:Expr) (t:TT):Prop :=
 ∀(pins:List (Addr×Obj)) (s:Shared) (σ:St) (H:Hp) (Q:Bool->Hp->Prop),Inv X pins σ H s->t σ H Q->wpAny (model X.prog X.w) X.A (isTrue e X.env (eval e X.env)) (TP X pins σ Q) X.xe s
def PW (X:Cx) (e:Expr) (t:TT):Prop :=
 ∀(whole:Sem Value) (pins:List (Addr×Obj)) (s:Shared) (σ:St) (H:Hp) (Q:Bool->Hp->Prop),Inv X pins σ H s->t σ H Q->wpAny (model X.prog X.w) X.A (isTrue e X.env whole) (TP X pins σ Q) X.xe s
theorem PW.pt {X:Cx}{e:Expr}{t:TT}(h:PW X e t):PT X e t:=h _
def PA (X:Cx) (es:List Expr) (t:TA):Prop :=
 ∀(pos:Pos) (pins:List (Addr×Obj)) (s:Shared) (σ:St) (H:Hp) (Q:List V->Hp->Prop),Inv X pins σ H s->t σ H Q->wpAny (model X.prog X.w) X.A (spliced (backTo pos (starEach es X.env))) (AP X pins σ Q) X.xe s
def PS (X:Cx) (st:Stmt) (t:TS):Prop :=
 ∀(pins:List (Addr×Obj)) (s:Shared) (σ:St) (H:Hp) (D:Ends),Inv X pins σ H s->t D σ H->wpAny (model X.prog X.w) X.A (exec st X.env) (SP X pins D) X.xe s
def PSs (X:Cx) (st:List Stmt) (t:TS):Prop :=
 ∀(pins:List (Addr×Obj)) (s:Shared) (σ:St) (H:Hp) (D:Ends),Inv X pins σ H s->t D σ H->wpAny (model X.prog X.w) X.A (execs st X.env) (SP X pins D) X.xe s
theorem thn {α:Type}{t:Sem α}{Q Q':α->Shared->Prop}{M:Model}{A:Around}{E:Value->Shared->Prop}{s:Shared}(h:wpAny M A t Q E s) (hQ:∀a s,Q a s->Q' a s):wpAny M A t Q' E s:=wpAny_mono h hQ fun _ _ x=>x
section
variable {X:Cx}
def tVar (i:Nat):TE:=fun σ H Q=>∃v,σ[i]?=some (some v)/\Q v H
def tC (v:V):TE:=fun _ H Q=>Q v H
theorem zlB {i:Nat}{x:Str}{pos:Pos}(hN:X.N[i]?=some x) (hv:Vis X.env.scope x) (hd:(x==("__debug__" : Str))=false:=by decide) (hcd:(x==("__classdict__" : Str))=false:=by decide):PE X (.Name x pos) (tVar i):=by
 intro pins s σ H Q I h;obtain ⟨v,e,h⟩:=h;obtain ⟨m,hn,hl⟩:=I.loc;obtain ⟨u,r,l⟩:=hl i x v hN e hv;have fin:EP X pins σ Q u s:=⟨v,H,I,r,h⟩
 rcases l with ⟨hk,hm⟩|⟨hk,c,hc,hcell⟩
 ·exact wpAny_Name (wpAny_loadName_local I.ok.kind hk hn hm fin) hd
 ·rcases hk with hk|hk
  ·exact wpAny_Name (wpAny_loadName_cell I.ok.kind hk hc hcell fin) hd
  ·exact wpAny_Name (wpAny_loadName_free I.ok.kind hk hc hcell fin hcd) hd
theorem zo0 {i j pos}:PE X (.Constant (.int i) j pos) (tC (.int i)):=fun _ _ _ H _ I h=>wpAny_Constant_int ⟨.int i,H,I.tok _,⟨_,rfl⟩,h⟩
theorem ztT {b j pos}:PE X (.Constant (.bool b) j pos) (tC (.bl b)):=fun _ _ _ H _ I h=>Constant_bool ⟨.bl b,H,I,rfl,h⟩
theorem zoZ {j pos}:PE X (.Constant .none j pos) (tC .non):=fun _ _ _ H _ I h=>Constant_none ⟨.non,H,I,rfl,h⟩
theorem zoY {x j pos}:PE X (.Constant (.str x) j pos) (tC (.str x)):=fun _ _ _ H _ I h=>Calls.Constant_str ⟨.str x,H,I.tok _,⟨_,rfl⟩,h⟩
def Gl (X:Cx) (x:Str):Prop:=X.env.kindOf x=some .globalImplicit
theorem ziL {E:Value->Shared->Prop}{pins:List (Addr×Obj)}{s:Shared}{σ:St}{H:Hp}{x:Str}{u:Value}{pos:Pos}{Q:Value->Shared->Prop}(I:Inv X pins σ H s) (hg:Gl X x) (hm:X.mg x=some u) (h:Q u s)
  (hd:(x==("__debug__" : Str))=false:=by decide):wpAny (model X.prog X.w) X.A (eval (.Name x pos) X.env) Q E s :=
 Calls.Name_function_global I.ok.kind hg (Calls.loadGlobal_global (by rw [I.ok.glob];exact I.mod.glob.keeps I.bk) hm h) hd
theorem zf1 {E:Value->Shared->Prop}{pins:List (Addr×Obj)}{s:Shared}{σ:St}{H:Hp}{x:Str}{u:Value}{pos:Pos}{Q:Value->Shared->Prop}(I:Inv X pins σ H s) (hg:Gl X x) (hm:X.mg x=none) (hv:bootBuiltins x=some u) (h:Q u s)
  (hn:x≠"__name__":=by decide) (hd:(x==("__debug__" : Str))=false:=by decide):wpAny (model X.prog X.w) X.A (eval (.Name x pos) X.env) Q E s:=by
 obtain ⟨mb,h1,h2⟩:=I.mod.blt;exact Calls.Name_function_global I.ok.kind hg (Calls.loadGlobal_builtin (by rw [I.ok.glob];exact I.mod.glob.keeps I.bk) hm (by rw [I.ok.blt];exact h1.keeps I.bk) ((h2 x hn).trans hv) h) hd
theorem zqP {x:Str}{v:V}{u:Value}{pos:Pos}(hg:Gl X x) (hm:X.mg x=some u) (r:RelV v u) (hd:(x==("__debug__" : Str))=false:=by decide):PE X (.Name x pos) (tC v) :=
 fun _ _ _ H _ I h=>ziL I hg hm ⟨v,H,I,r,h⟩ hd
variable {a b:Expr}{ta tb:TE}{pos:Pos}
def PC (X:Cx) (op:CmpOp) (a b:Expr) (t:TE):Prop :=
 ∀(pins:List (Addr×Obj)) (s:Shared) (σ:St) (H:Hp) (Q:VK),Inv X pins σ H s->t σ H Q ->
  wpAny (model X.prog X.w) X.A (eval a X.env) (fun v s₁=>wpAny (model X.prog X.w) X.A (eval b X.env) (fun u s₂=>wpAny (model X.prog X.w) X.A (compareOp op v u) (EP X pins σ Q) X.xe s₂) X.xe s₁) X.xe s
theorem zjs (b:Expr) {op:CmpOp}(h:op≠.In) (h2:op≠.NotIn):behindInMarks op b=false:=by
 have e1:(op==CmpOp.In)=false:=by cases op<;>first|rfl|exact absurd rfl h
 have e2:(op==CmpOp.NotIn)=false:=by cases op<;>first|rfl|exact absurd rfl h2
 cases b<;>simp [behindInMarks,e1,e2]
def tIsN (ta:TE):TE:=fun σ H Q=>ta σ H fun x H1=>Q (.bl (decide (x=.non))) H1
def zsG (ta:TE):TE:=fun σ H Q=>ta σ H fun x H1=>Q (.bl (!decide (x=.non))) H1
theorem RelV.none_iff {x:V}{v:Value}(r:RelV x v):(v==Value.none)=decide (x=.non):=by
 cases x with
 | non=>cases r;rfl
 | bl _=>cases r;rfl
 | int _=>obtain ⟨t,rfl⟩:=r;rfl
 | str _=>obtain ⟨t,rfl⟩:=r;rfl
 | byt _=>obtain ⟨t,rfl⟩:=r;rfl
 | flt _=>obtain ⟨t,rfl⟩:=r;rfl
 | ref _=>cases r;rfl
 | ty _=>cases r;rfl
theorem ztV {j pos'}(ha:PE X a ta):PC X .Is a (.Constant .none j pos') (tIsN ta):=by
 intro pins s σ H Q I h;refine thn (ha pins s σ H _ I h) fun v s1 ⟨x,H1,I1,r1,q1⟩=>?_;exact Constant_none (is_none_gen ⟨.bl _,H1,I1,by rw [r1.none_iff];rfl,q1⟩)
theorem zqU {j pos'}(ha:PE X a ta):PC X .IsNot a (.Constant .none j pos') (zsG ta):=by
 intro pins s σ H Q I h;refine thn (ha pins s σ H _ I h) fun v s1 ⟨x,H1,I1,r1,q1⟩=>?_;exact Constant_none (isnot_none_gen ⟨.bl _,H1,I1,by rw [r1.none_iff];rfl,q1⟩)
def tB (t:TE):TT:=fun σ H Q=>t σ H fun x H1=>∃c,x=.bl c/\Q c H1
theorem ztS {op:CmpOp}{t:TE}(h:PC X op a b t) (h1:behindInMarks op b=false:=by first|exact zjs _ (by decide) (by decide)|rfl):PE X (.Compare a [op] [b] pos) t:=fun pins s σ H Q I hw=>wpAny_Compare1 (h pins s σ H Q I hw) h1
theorem zhC {op:CmpOp}{t:TE}(h:PC X op a b t) (h1:behindInMarks op b=false:=by first|exact zjs _ (by decide) (by decide)|rfl):PT X (.Compare a [op] [b] pos) (tB t):=by
 intro pins s σ H Q I hw;refine wpAny_isTrue_Compare1 (thn (h pins s σ H _ I hw) fun v s1 h1=>thn h1 fun u s2 h2=>thn h2 fun c s3 ⟨x,H1,I1,r1,q1⟩=>?_) h1;obtain ⟨d,rfl,q⟩:=q1;cases r1;exact wpAny_truthy_bool ⟨H1,I1,q⟩
theorem ztI {e:Expr}{t:TE}(h:PE X e t) (he:∀whole,isTrue e X.env whole=(do let v <- whole;standAt e.pos;holding [v] (truthy v)):=by intro _;rfl):PT X e (tB t):=by
 intro pins s σ H Q I hw;refine isTrue_plain (thn (h pins s σ H _ I hw) fun v s1 ⟨x,H1,I1,r1,q1⟩=>?_) (he _);obtain ⟨d,rfl,q⟩:=q1;cases r1;exact wpAny_truthy_bool ⟨H1,I1,q⟩
variable {tA tB':TT}{rest:List Expr}
def tAnd (t u:TT):TT:=fun σ H Q=>t σ H fun c H1=>if c=true then u σ H1 Q else Q false H1
def tOr (t u:TT):TT:=fun σ H Q=>t σ H fun c H1=>if c=true then Q true H1 else u σ H1 Q
def tNot (t:TT):TT:=fun σ H Q=>t σ H fun c H1=>Q (!c) H1
theorem zqA (ha:PT X a tA):PW X (.BoolOp .And [a] pos) tA:=by
 intro wh pins s σ H Q I h;refine isTrue_and (thn (ha pins s σ H Q I h) fun c s1 e=>?_);cases c with
 | true=>exact isTrue_and_nil e
 | false=>exact e
theorem ztF (ha:PT X a tA):PW X (.BoolOp .Or [a] pos) tA:=by
 intro wh pins s σ H Q I h;refine isTrue_or (thn (ha pins s σ H Q I h) fun c s1 e=>?_);cases c with
 | false=>exact isTrue_or_nil e
 | true=>exact e
theorem ztG (ha:PT X a tA) (hb:PW X (.BoolOp .And (b::rest) pos) tB'):PW X (.BoolOp .And (a::b::rest) pos) (tAnd tA tB'):=by
 intro wh pins s σ H Q I h;refine isTrue_and (thn (ha pins s σ H _ I h) fun c s1 ⟨H1,I1,q1⟩=>?_);cases c with
 | true=>exact hb wh pins s1 σ H1 Q I1 q1
 | false=>exact ⟨H1,I1,q1⟩
theorem zwf (ha:PT X a tA) (hb:PW X (.BoolOp .Or (b::rest) pos) tB'):PW X (.BoolOp .Or (a::b::rest) pos) (tOr tA tB'):=by
 intro wh pins s σ H Q I h;refine isTrue_or (thn (ha pins s σ H _ I h) fun c s1 ⟨H1,I1,q1⟩=>?_);cases c with
 | true=>exact ⟨H1,I1,q1⟩
 | false=>exact hb wh pins s1 σ H1 Q I1 q1
theorem ztJ (ha:PT X a tA):PT X (.UnaryOp .Not a pos) (tNot tA):=by
 intro pins s σ H Q I h;exact isTrue_not (ha pins s σ H (fun c H1=>Q (!c) H1) I h)
def zsM (ta tb:TE):TE:=fun σ H Q=>ta σ H fun x H1=>∃c,x=.bl c/\if c=true then tb σ H1 Q else Q (.bl false) H1
theorem ztR {op}{t:TE}(h:PE X a t):PE X (.BoolOp op [a] pos) t:=fun pins s σ H Q I hw=>BoolOp_one (h pins s σ H Q I hw)
theorem ztU (ha:PE X a ta) (hb:PE X (.BoolOp .And (b::rest) pos) tb):PE X (.BoolOp .And (a::b::rest) pos) (zsM ta tb):=by
 intro pins s σ H Q I h;refine BoolOp_and (thn (ha pins s σ H _ I h) fun v s1 ⟨x,H1,I1,r1,q1⟩=>?_);obtain ⟨c,rfl,q1⟩:=q1;cases r1;refine wpAny_truthy_bool ?_;cases c with
 | true=>exact hb pins s1 σ H1 Q I1 q1
 | false=>exact ⟨.bl false,H1,I1,rfl,q1⟩
end
def SqL (K:PySem.W.Frag) (H:Hp) (a:Addr) (xs:List V):Prop :=
 Rd H a (.lst xs) \/
  ∃(o:Obj) (its:Array Value) (n:Nat),K.lookup a=some o/\o.cls=.type "list" /\ o.dict=none/\o.data=.seq its n/\its.size<=sizeLine/\Vals xs its.toList
def SqT (K:PySem.W.Frag) (H:Hp) (a:Addr) (xs:List V):Prop :=
 Rd H a (.tup xs) \/
  ∃(o:Obj) (its:Array Value) (n:Nat),K.lookup a=some o/\o.cls=.type "tuple" /\ o.data=.seq its n/\its.size<=sizeLine/\Vals xs its.toList
def absV:Value->Option V
 | .none=>some .non
 | .bool b=>some (.bl b)
 | .int i _=>some (.int i)
 | .str x _=>some (.str x)
 | .bytes b _=>some (.byt b)
 | .float b _=>some (.flt b)
 | .ref a=>some (.ref a)
 | .type n=>some (.ty n)
 | _=>none
theorem RelV.abs {x:V}{u:Value}(r:RelV x u):absV u=some x:=by
 cases x with
 | non=>cases r;rfl
 | bl _=>cases r;rfl
 | int _=>obtain ⟨t,rfl⟩:=r;rfl
 | str _=>obtain ⟨t,rfl⟩:=r;rfl
 | byt _=>obtain ⟨t,rfl⟩:=r;rfl
 | flt _=>obtain ⟨t,rfl⟩:=r;rfl
 | ref _=>cases r;rfl
 | ty _=>cases r;rfl
theorem RelV.inj {x y:V}{u:Value}(r:RelV x u) (q:RelV y u):x=y:=Option.some.inj (r.abs.symm.trans q.abs)
theorem Vals.inj:∀{xs ys:List V}{us:List Value},Vals xs us->Vals ys us->xs=ys
 | _,_,_,.nil,.nil=>rfl
 | _,_,_,.cons r t,.cons r' t'=>by rw [r.inj r',Vals.inj t t']
section
variable {X:Cx}{pins:List (Addr×Obj)}{σ:St}{H:Hp}{s:Shared}{a:Addr}{xs ys:List V}
theorem SqL.of {K:PySem.W.Frag}(h:H a=some (.lst xs)):SqL K H a xs:=.inl (.inl h)
theorem SqT.of {K:PySem.W.Frag}(h:H a=some (.tup xs)):SqT K H a xs:=.inl (.inl h)
theorem Inv.list (I:Inv X pins σ H s) (h:SqL X.K H a xs):∃its:List Value,Vals xs its/\PlainL s.heap a its.toArray/\xs.length<=sizeLine:=by
 rcases h with h|⟨o,its,n,hk,hc,hd,hs,hz,r⟩
 ·obtain ⟨z,its,n,r,e⟩:=h.ok I.hok
  exact ⟨its,r,⟨_,n,e,rfl,rfl,rfl⟩,z⟩
 ·refine ⟨its.toList,r,⟨o,n,I.kIn a o hk,hc,hd,by simpa using hs⟩,?_⟩
  have e:=r.length;simp only [Array.length_toList] at e;omega
theorem Inv.tuple (I:Inv X pins σ H s) (h:SqT X.K H a xs):∃its:List Value,Vals xs its/\IsTup s.heap a its.toArray/\xs.length<=sizeLine:=by
 rcases h with h|⟨o,its,n,hk,hc,hs,hz,r⟩
 ·obtain ⟨z,its,r,p⟩:=h.ok I.hok
  exact ⟨its,r,p,z⟩
 ·refine ⟨its.toList,r,⟨o,I.kIn a o hk,hc,n,by simpa using hs⟩,?_⟩
  have e:=r.length;simp only [Array.length_toList] at e;omega
theorem Inv.list_inj (I:Inv X pins σ H s) (h:SqL X.K H a xs) (h':SqL X.K H a ys):xs=ys:=by
 obtain ⟨its,r,⟨o,n,e,_,_,d⟩,_⟩:=I.list h;obtain ⟨its',r',⟨o',n',e',_,_,d'⟩,_⟩:=I.list h';rw [e] at e';cases e';rw [d] at d';injection d' with d1 _
 have:its=its':=by simpa using congrArg Array.toList d1
 subst this;exact r.inj r'
theorem Inv.tuple_inj (I:Inv X pins σ H s) (h:SqT X.K H a xs) (h':SqT X.K H a ys):xs=ys:=by
 obtain ⟨its,r,⟨o,e,_,n,d⟩,_⟩:=I.tuple h;obtain ⟨its',r',⟨o',e',_,n',d'⟩,_⟩:=I.tuple h';rw [e] at e';cases e';rw [d] at d';injection d' with d1 _
 have:its=its':=by simpa using congrArg Array.toList d1
 subst this;exact r.inj r'
end
abbrev Cx.wish (X:Cx) (E:Value->Shared->Prop):Cx:={ X with xe:=E }
abbrev Cx.nox (X:Cx):Cx:=X.wish fun _ _=>False
theorem Cx.Ok.wish {X:Cx}(ok:X.Ok) (E:Value->Shared->Prop):(X.wish E).Ok :=
 ⟨ok.mod,ok.kind,ok.glob,ok.blt,ok.above,ok.inj,ok.has,ok.cab,ok.hd,ok.frames,ok.stk,ok.exf,ok.bs,ok.bsz,ok.noex,ok.exfs,ok.funs,ok.frf⟩
theorem Cx.Ok.unwish {X:Cx}{E:Value->Shared->Prop}(ok:(X.wish E).Ok):X.Ok :=
 ⟨ok.mod,ok.kind,ok.glob,ok.blt,ok.above,ok.inj,ok.has,ok.cab,ok.hd,ok.frames,ok.stk,ok.exf,ok.bs,ok.bsz,ok.noex,ok.exfs,ok.funs,ok.frf⟩
section
variable {X:Cx}{pins:List (Addr×Obj)}{σ:St}{H:Hp}{s:Shared}{E:Value->Shared->Prop}
theorem Inv.wish (I:Inv X pins σ H s) (E:Value->Shared->Prop):Inv (X.wish E) pins σ H s:=⟨I.ok.wish E,I.os,I.bare,I.base,I.loc,I.cell,I.free,I.freeC,I.pin,I.hok,I.len⟩
theorem Inv.unwish (I:Inv (X.wish E) pins σ H s):Inv X pins σ H s:=⟨I.ok.unwish,I.os,I.bare,I.base,I.loc,I.cell,I.free,I.freeC,I.pin,I.hok,I.len⟩
theorem SP.unwish {D:Ends}{f:Flow}{s':Shared}(h:SP (X.wish E) pins D f s'):SP X pins D f s':=by
 cases f with
 | next=>obtain ⟨σ',H',I,q⟩:=h;exact ⟨σ',H',I.unwish,q⟩
 | brk=>obtain ⟨σ',H',I,q⟩:=h;exact ⟨σ',H',I.unwish,q⟩
 | cont=>obtain ⟨σ',H',I,q⟩:=h;exact ⟨σ',H',I.unwish,q⟩
 | ret u=>obtain ⟨v,σ',H',I,r,q⟩:=h;exact ⟨v,σ',H',I.unwish,r,q⟩
theorem PSs.nox {st:List Stmt}{t:TS}(h:PSs X.nox st t):PSs X st t:=fun pins s σ H D I hw =>
 wpAny_mono (h pins s σ H D (I.wish _) hw) (fun _ _ q=>q.unwish) fun _ _ z=>False.elim z
end
section
variable {X:Cx}{st:Stmt}{rest:List Stmt}{t u:TS}{e:Expr}{te:TE}{pos:Pos}
def zsH:TS:=fun D σ H=>D.nx σ H
def tSeq (t u:TS):TS:=fun D σ H=>t { D with nx:=u D } σ H
theorem zqD:PSs X [] zsH:=fun _ _ σ H _ I h=>wpAny_execs_nil ⟨σ,H,I,h⟩
theorem zcQ (h1:PS X st t) (h2:PSs X rest u):PSs X (st::rest) (tSeq t u):=by
 intro pins s σ H D I h;refine wpAny_execs_cons (thn (h1 pins s σ H { D with nx:=u D } I h) fun f s1 q=>?_);cases f with
 | next =>
  obtain ⟨σ',H',I',q⟩:=q;exact h2 pins s1 σ' H' D I' q
 | ret v=>exact q
 | brk=>exact q
 | cont=>exact q
theorem zgB (h1:PS X st t):PSs X [st] t:=by
 intro pins s σ H D I h;refine wpAny_execs_cons (thn (h1 pins s σ H D I h) fun f s1 q=>?_);cases f with
 | next=>exact wpAny_execs_nil q
 | ret v=>exact q
 | brk=>exact q
 | cont=>exact q
theorem Inv.quiet {pins:List (Addr×Obj)}{σ:St}{H:Hp}{s:Shared}(I:Inv X pins σ H s):interactive X.env=false:=by simp [interactive,I.ok.kind]
def zhd (te:TE):TS:=fun D σ H=>te σ H fun _ H1=>D.nx σ H1
theorem zgC (he:PE X e te) (hs:swapsWith e none pos.line X.env=pure false:=by rfl):PS X (.Expr e pos) (zhd te):=by
 intro pins s σ H D I h;exact wpAny_Expr_any (thn (he pins s σ H _ I h) fun v s1 ⟨x,H1,I1,r1,q1⟩=>⟨σ,H1,I1,q1⟩) I.quiet hs
def tRet (te:TE):TS:=fun D σ H=>te σ H D.rt
theorem zjn (he:PE X e te):PS X (.Return (some e) pos) (tRet te):=by
 intro pins s σ H D I h;exact wpAny_Return_some (thn (he pins s σ H _ I h) fun v s1 ⟨x,H1,I1,r1,q1⟩=>⟨x,σ,H1,I1,r1,q1⟩)
def tIfS (c:TT) (t u:TS):TS:=fun D σ H=>c σ H fun b H1=>if b=true then t D σ H1 else u D σ H1
theorem zwg {c:Expr}{a b:List Stmt}{tc:TT}(hc:PT X c tc) (ha:PSs X a t) (hb:PSs X b u):PS X (.If c a b pos) (tIfS tc t u):=by
 intro pins s σ H D I h;refine wpAny_If (thn (hc pins s σ H _ I h) fun d s1 ⟨H1,I1,q1⟩=>?_);cases d with
 | true=>exact ha pins s1 σ H1 D I1 q1
 | false=>exact hb pins s1 σ H1 D I1 q1
def zoF:TS:=fun _ _ _=>False
theorem znE:PS X st zoF:=fun _ _ _ _ _ _ h=>h.elim
end
abbrev TG:=V->St->Hp->(St->Hp->Prop)->Prop
abbrev TGs:=List V->St->Hp->(St->Hp->Prop)->Prop
def PG (X:Cx) (target:Expr) (t:TG):Prop :=
 ∀(pins:List (Addr×Obj)) (s:Shared) (σ:St) (H:Hp) (v:V) (u:Value) (Q:St->Hp->Prop),Inv X pins σ H s->RelV v u->t v σ H Q ->
  wpAny (model X.prog X.w) X.A (assign target X.env u) (fun _ s'=>∃σ' H',Inv X pins σ' H' s' /\ Q σ' H') X.xe s
def PGs (X:Cx) (ts:List Expr) (t:TGs):Prop :=
 ∀(pins:List (Addr×Obj)) (s:Shared) (σ:St) (H:Hp) (vs:List V) (us:List Value) (Q:St->Hp->Prop),Inv X pins σ H s->Vals vs us->t vs σ H Q ->
  wpAny (model X.prog X.w) X.A (assignInOrder ((assignEach ts X.env).map (·.2)) us) (fun _ s'=>∃σ' H',Inv X pins σ' H' s' /\ Q σ' H') X.xe s
abbrev TSet:=V->V->V->Hp->(Hp->Prop)->Prop
def PSet (X:Cx) (t:TSet):Prop :=
 ∀(pins:List (Addr×Obj)) (s:Shared) (σ:St) (H:Hp) (o i v:V) (ov iv u:Value) (Q:Hp->Prop),Inv X pins σ H s->RelV o ov->RelV i iv->RelV v u->t o i v H Q ->
  wpAny (model X.prog X.w) X.A (setItem ov iv u) (fun _ s'=>∃H',Inv X pins σ H' s' /\ Q H') X.xe s
section
variable {X:Cx}{pos:Pos}
def zh5 (i:Nat):TG:=fun v σ H Q=>Q (σ.set i (some v)) H
theorem zlA {i:Nat}{x:Str}(hN:X.N.Nodup) (hi:X.N[i]?=some x) (hx:Loc X.env.scope x) (hf:X.fn x=true\/X.env.scope.names.lookup x=some .local:=by first|exact .inl rfl|exact .inr rfl|assumption):PG X (.Name x pos) (zh5 i):=by
 intro pins s σ H v u Q I r h;exact wpAny_assign_Name (zi7 I hN hi hx r (fun s' I'=>⟨_,H,I',h⟩) hf)
def gNil:TGs:=fun vs σ H Q=>vs = []/\Q σ H
def zup (t:TG) (u:TGs):TGs:=fun vs σ H Q=>∃v r,vs=v::r/\t v σ H fun σ' H'=>u r σ' H' Q
theorem zqL:PGs X [] gNil:=by
 intro pins s σ H vs us Q I r h;obtain ⟨e,h⟩:=h;subst e;cases r;exact assignInOrder_nil ⟨σ,H,I,h⟩
theorem znK {e:Expr}{es:List Expr}{t:TG}{u:TGs}(h1:PG X e t) (h2:PGs X es u)
  (hs:(assignEach (e::es) X.env).map (·.2)=assign e X.env::(assignEach es X.env).map (·.2):=by rfl):PGs X (e::es) (zup t u):=by
 intro pins s σ H vs us Q I r h;obtain ⟨v,vr,e1,h⟩:=h;subst e1;cases r with
 | cons r rr =>
  rw [hs];refine assignInOrder_cons (thn (h1 pins s σ H _ _ _ I r h) fun _ s1 ⟨σ1,H1,I1,q1⟩=>?_);exact h2 pins s1 σ1 H1 _ _ Q I1 rr q1
def gTup (K:PySem.W.Frag) (n:Nat) (t:TGs):TG:=fun v σ H Q=>∃a xs,v=.ref a/\SqT K H a xs/\xs.length=n/\t xs σ H Q
theorem ztO {es:List Expr}{k:Nat}{t:TGs}{n:Nat}(hc:X.calm=true) (h:PGs X es t)
  (hn:(assignEach es X.env).length=n:=by rfl) (hst:(assignEach es X.env).findIdx? (·.1)=none:=by rfl):PG X (.Tuple es k pos) (gTup X.K n t):=by
 intro pins s σ H v u Q I r hw;obtain ⟨a,xs,e1,hq,hl,hw⟩:=hw;subst e1;cases r;obtain ⟨its,rv,ht,hz⟩:=I.tuple hq;refine assign_Tuple_tuple (I.ok.hd hc) ht (by simp [hn,<- hl,rv.length]) hst fun h' hx=>?_;have I1:Inv X pins σ H { s with heap:=h' }:=I.kept (t':=s.toks) fun b o e=>hx b o (Nat.ne_of_lt (Heap.lt_size e)) e;exact h pins _ σ H xs _ Q I1 (by simpa using rv) hw
def gSub (to ti:TE) (t:TSet):TG:=fun v σ H Q=>to σ H fun o H1=>ti σ H1 fun i H2=>t o i v H2 fun H3=>Q σ H3
theorem zoX {o i:Expr}{to ti:TE}{t:TSet}(ho:PE X o to) (hi:PE X i ti) (hs:PSet X t)
  (ha:∀v,assign (.Subscript o i pos) X.env v=(do
   let ov <- holding [v] (eval o X.env)
   let iv <- holding [v,ov] (eval i X.env)
   standAt pos
   holding [v,ov,iv] (setItem ov iv v)
   release [v,ov,iv] []):=by intro _;rfl):PG X (.Subscript o i pos) (gSub to ti t):=by
 intro pins s σ H v u Q I r h;rw [ha];refine wpAny_bind (wpAny_holding (thn (ho pins s σ H _ I h) fun ov s1 ⟨x,H1,I1,r1,q1⟩=>?_));refine wpAny_bind (wpAny_holding (thn (hi pins s1 σ H1 _ I1 q1) fun iv s2 ⟨y,H2,I2,r2,q2⟩=>?_));refine wpAny_bind (wpAny_standAt (wpAny_bind (wpAny_holding (thn (hs pins s2 σ H2 x y v ov iv u _ I2 r1 r2 r q2) fun _ s3 ⟨H3,I3,q3⟩=>?_))));exact wpAny_release ⟨σ,H3,I3,q3⟩
def tAsg (te:TE) (g:TG):TS:=fun D σ H=>te σ H fun x H1=>g x σ H1 D.nx
theorem zoW {tg e:Expr}{te:TE}{g:TG}(he:PE X e te) (hg:PG X tg g) (hs:swapsWithSole [tg] e pos.line X.env=pure false:=by rfl) (hw:swappedStores [tg] e X.env=pure none:=by rfl)
  (h1:(assignEach [tg] X.env).map (·.2) = [assign tg X.env]:=by rfl):PS X (.Assign [tg] e pos) (tAsg te g):=by
 intro pins s σ H D I h;refine wpAny_Assign_stores (thn (he pins s σ H _ I h) fun v s1 ⟨x,H1,I1,r1,q1⟩=>?_) hs hw;rw [h1];exact thn (hg pins s1 σ H1 x v _ I1 r1 q1) fun _ s2 q=>q
theorem zjm {i:Nat}{x:Str}{e:Expr}{te:TE}{pos':Pos}(hN:X.N.Nodup) (hi:X.N[i]?=some x) (hx:Loc X.env.scope x) (he:PE X e te) (hs:swapsWith e (some (.Name x pos')) pos.line X.env=pure false:=by rfl) (hf:X.fn x=true\/X.env.scope.names.lookup x=some .local:=by first|exact .inl rfl|exact .inr rfl|assumption) :
  PS X (.Assign [.Name x pos'] e pos) (tAsg te (zh5 i)):=by
 intro pins s σ H D I h;refine wpAny_Assign_Name (thn (he pins s σ H _ I h) fun v s1 ⟨y,H1,I1,r1,q1⟩=>?_) hs;exact zi7 I1 hN hi hx r1 (fun s2 I2=>⟨_,H1,I2,q1⟩) hf
end
structure It where
 go:Nat->Hp->Prop
 yld:Nat->Hp->V->Hp->Prop
 stop:Nat->Hp->Prop
def FpOk (X:Cx) (pins:List (Addr×Obj)) (H:Hp) (b:Addr):Prop :=
 H b=none/\b≠X.env.locals/\b∉X.fs/\(b∈X.ex\/X.s₀.heap.objs.size<=b)/\(∀x c,X.env.cells.lookup x=some c->c≠b) /\ ∀p∈X.pn++pins,p.1≠b
theorem Inv.fpOk {X:Cx}{pins:List (Addr×Obj)}{σ:St}{H H':Hp}{s:Shared}{b:Addr}(I:Inv X pins σ H s) (hb:s.heap.objs.size<=b) (hn:H' b=none):FpOk X pins H' b:=by
 refine ⟨hn,Nat.ne_of_gt (Nat.lt_of_lt_of_le I.lt hb),I.nofs hb,.inr (Nat.le_trans I.sz hb),fun x c e z=>?_,fun p hp z=>?_⟩
 ·obtain ⟨v,q⟩:=I.cell x c e
  exact absurd (Nat.lt_of_lt_of_le q.lt (by rw [z];exact hb)) (Nat.lt_irrefl _)
 ·exact absurd (Nat.lt_of_lt_of_le (Heap.lt_size (I.pin p hp).1) (by rw [z];exact hb)) (Nat.lt_irrefl _)
structure Turn (P:Program) (w:World) (K:PySem.W.Frag) (tg:Expr) (J:It) (fp:List Addr) (it:Addr) (tn:Nat->Heap->Prop):Prop where
 mem:it∈fp
 obj:∀i h,tn i h -> ∀b∈fp,∃o,h.get? b=some o /\ ∀v,o.data≠.cell v
 keep:∀i h h',tn i h->(∀b∈fp,∀o,h.get? b=some o->h'.get? b=some o)->tn i h'
 item:∀(X:Cx),X.prog=P->X.w=w->X.K=K->X.calm=true -> ∀(i:Nat) (pins:List (Addr×Obj)) (s:Shared) (σ:St) (H:Hp) (E:Value->Shared->Prop),Inv X pins σ H s->(∀b∈fp,FpOk X pins H b)->tn i s.heap->J.go i H ->
  wpAny (model P w) X.A (pyNext (.ref it)) (fun r s1=>∃u,r=some u /\
   wpAny (model P w) X.A (letOwnedTupleGo tg (.ref it) u) (fun _ s2=>∃x H',Inv X pins σ H' s2/\RelV x u/\J.yld i H x H' /\ tn (i+1) s2.heap /\ ∀b∈fp,H' b=none) E s1) E s
 done:∀(X:Cx),X.prog=P->X.w=w->X.K=K->X.calm=true -> ∀(i:Nat) (pins:List (Addr×Obj)) (s:Shared) (σ:St) (H:Hp) (E:Value->Shared->Prop),Inv X pins σ H s->(∀b∈fp,FpOk X pins H b)->tn i s.heap->J.stop i H ->
  wpAny (model P w) X.A (pyNext (.ref it)) (fun r s1=>r=none/\Inv X pins σ H s1) E s
 self:∀(A:Around) (i:Nat) (s:Shared) (Q:Value->Shared->Prop) (E:Value->Shared->Prop),tn i s.heap->Q (.ref it) s->wpAny (model P w) A (pyIter (.ref it)) Q E s
abbrev TI:=St->Hp->(It->Hp->Prop)->Prop
def PIE (X:Cx) (pins:List (Addr×Obj)) (σ:St) (tg:Expr) (R:It->Hp->Prop) (itv:Value) (s2:Shared):Prop :=
 ∃(it:Addr) (fp:List Addr) (tn:Nat->Heap->Prop) (J:It) (H':Hp),itv=.ref it/\Inv X pins σ H' s2/\Turn X.prog X.w X.K tg J fp it tn/\tn 0 s2.heap/\(∀b∈fp,FpOk X pins H' b)/\R J H'
def PI (X:Cx) (tg iter:Expr) (wi:TI):Prop :=
 ∀(pins:List (Addr×Obj)) (s:Shared) (σ:St) (H:Hp) (R:It->Hp->Prop),Inv X pins σ H s->wi σ H R ->
  wpAny (model X.prog X.w) X.A (eval iter X.env) (fun v s1=>wpAny (model X.prog X.w) X.A (pyIter v) (PIE X pins σ tg R) X.xe s1) X.xe s
theorem zmp {M:Model}{A:Around}{E:Value->Shared->Prop}{s:Shared}{tg:Expr}{it:Addr}{u:Value}{o:Obj}{n:String}{vs:Array Value}{Q:Unit->Shared->Prop}(ho:s.heap.get? it=some o) (hc:o.cls=.type n) (hd:o.data=.fields vs)
    (hn:["enumerate","zip","dict_itemiterator","dict_reverseitemiterator","odict_iterator","itertools.zip_longest","itertools.pairwise"].contains n=false) (hQ:Q () s):wpAny M A (letOwnedTupleGo tg (.ref it) u) Q E s:=by
  unfold letOwnedTupleGo;cases tg<;>first
    | exact wpAny_pure hQ
    | (cases u<;>first
        | exact wpAny_pure hQ
        | (refine wpAny_bind (wpAny_load ho ?_)
           rw [hc,hd];show wpAny M A (if (["enumerate","zip","dict_itemiterator","dict_reverseitemiterator","odict_iterator","itertools.zip_longest","itertools.pairwise"].contains n&&vs[0]? == some (rawInt _))=true then _ else _) Q E s;rw [if_neg (by intro h;rw [hn,Bool.false_and] at h;cases h)];exact wpAny_pure hQ))
def Itl (K:PySem.W.Frag) (a:Addr):It :=
 ⟨fun i H=>∃xs x,SqL K H a xs/\xs[i]?=some x,fun i H x H'=>H'=H /\ ∀xs,SqL K H a xs->xs[i]?=some x,fun i H=>∃xs,SqL K H a xs/\xs.length<=i⟩
def Itt (K:PySem.W.Frag) (a:Addr):It :=
 ⟨fun i H=>∃xs x,SqT K H a xs/\xs[i]?=some x,fun i H x H'=>H'=H /\ ∀xs,SqT K H a xs->xs[i]?=some x,fun i H=>∃xs,SqT K H a xs/\xs.length<=i⟩
def Itr (lo:Int) (n:Nat):It:=⟨fun i _=>i < n,fun i H x H'=>H'=H/\x=.int (lo+i),fun i _=>n<=i⟩
theorem zkQ {P:Program}{w:World}{K:PySem.W.Frag}{tg:Expr}(a it:Addr):Turn P w K tg (Itl K a) [it] it (fun i h=>h.IsListIter it a i) where
 mem:=by simp
 obj:=fun i h st b hb=>by
  have e:b=it:=by simpa using hb
  subst e;obtain ⟨o,e,c,d⟩:=st;exact ⟨o,e,fun v z=>by rw [d] at z;cases z⟩
 keep:=fun i h h' st k=>st.at fun o e=>k it (by simp) o e
 item:=by
  intro X hP hw hK hc i pins s σ H E I hf st hg;subst hP hw hK;obtain ⟨xs,x,hq,hx⟩:=hg;obtain ⟨its,rv,p,hz⟩:=I.list hq;obtain ⟨u,hu,ru⟩:=rv.get hx;obtain ⟨f0,f1,f2,f3,f4,f5⟩:=hf it (by simp);refine wpAny_pyNext_list_item st p.isList (x:=u) (by simpa using hu) fun h' st' sb=>?_;have I1:Inv X pins σ H { s with heap:=h' }:=I.turned (t':=s.toks) (fun b o hb e=>(sb.2 b hb).trans e) f0 f1 f3 f4 f5;obtain ⟨o,e,c,d⟩:=id st';exact ⟨u,rfl,zmp (s:={ s with heap:=h' }) e c d (by decide) ⟨x,H,I1,ru,⟨rfl,fun ys hy=>by rw [I.list_inj hy hq];exact hx⟩,st',fun b hb=>(hf b hb).1⟩⟩
 done:=by
  intro X hP hw hK hc i pins s σ H E I hf st hg;subst hP hw hK;obtain ⟨xs,hq,hx⟩:=hg;obtain ⟨its,rv,p,hz⟩:=I.list hq;obtain ⟨f0,f1,f2,f3,f4,f5⟩:=hf it (by simp);have hl:=rv.length;exact wpAny_pyNext_list_end (I.ok.hd hc) st p.isList (by simp;omega) fun h' eb=>⟨rfl,I.turned (t':=s.toks) (fun b o hb e=>eb b o hb e) f0 f1 f3 f4 f5⟩
 self:=fun _ _ _ _ _ st h=>wpAny_pyIter_listiter st h
theorem zj0 {P:Program}{w:World}{K:PySem.W.Frag}{tg:Expr}(a it:Addr):Turn P w K tg (Itt K a) [it] it (fun i h=>h.IsTupleIter it a i) where
 mem:=by simp
 obj:=fun i h st b hb=>by
  have e:b=it:=by simpa using hb
  subst e;obtain ⟨o,e,c,d⟩:=st;exact ⟨o,e,fun v z=>by rw [d] at z;cases z⟩
 keep:=fun i h h' st k=>st.at fun o e=>k it (by simp) o e
 item:=by
  intro X hP hw hK hc i pins s σ H E I hf st hg;subst hP hw hK;obtain ⟨xs,x,hq,hx⟩:=hg;obtain ⟨its,rv,p,hz⟩:=I.tuple hq;obtain ⟨u,hu,ru⟩:=rv.get hx;obtain ⟨f0,f1,f2,f3,f4,f5⟩:=hf it (by simp);refine wpAny_pyNext_tuple_item st (show s.heap.IsTuple a its.toArray from p) (x:=u) (by simpa using hu) fun h' st' sb=>?_;have I1:Inv X pins σ H { s with heap:=h' }:=I.turned (t':=s.toks) (fun b o hb e=>(sb.2 b hb).trans e) f0 f1 f3 f4 f5;obtain ⟨o,e,c,d⟩:=id st';exact ⟨u,rfl,zmp (s:={ s with heap:=h' }) e c d (by decide) ⟨x,H,I1,ru,⟨rfl,fun ys hy=>by rw [I.tuple_inj hy hq];exact hx⟩,st',fun b hb=>(hf b hb).1⟩⟩
 done:=by
  intro X hP hw hK hc i pins s σ H E I hf st hg;subst hP hw hK;obtain ⟨xs,hq,hx⟩:=hg;obtain ⟨its,rv,p,hz⟩:=I.tuple hq;obtain ⟨f0,f1,f2,f3,f4,f5⟩:=hf it (by simp);have hl:=rv.length;exact wpAny_pyNext_tuple_end (I.ok.hd hc) st (show s.heap.IsTuple a its.toArray from p) (by simp;omega) fun h' eb=>⟨rfl,I.turned (t':=s.toks) (fun b o hb e=>eb b o hb e) f0 f1 f3 f4 f5⟩
 self:=fun _ _ _ _ _ st h=>wpAny_pyIter_tupleiter st h
theorem zj1 {P:Program}{w:World}{K:PySem.W.Frag}{tg:Expr}(it:Addr) (lo:Int) (n:Nat):Turn P w K tg (Itr lo n) [it] it (fun i h=>IsRangeIter h it (lo + (i:Nat) * 1) ((n:Int) - (i:Nat)) 1) where
 mem:=by simp
 obj:=fun i h st b hb=>by
  have e:b=it:=by simpa using hb
  subst e;exact ⟨_,st,fun v z=>by
   have z':Data.fields _=Data.cell v:=z;cases z'⟩
 keep:=fun i h h' st k=>k it (by simp) _ st
 item:=by
  intro X hP hw hK hc i pins s σ H E I hf st hg;subst hP hw hK;obtain ⟨f0,f1,f2,f3,f4,f5⟩:=hf it (by simp);have W:=Walks.range (prog:=X.prog) (w:=X.w) (I.ok.hd hc) it lo 1 n;refine W.item i s _ _ hg st fun v h' tk hv st' kk=>?_;obtain ⟨t,rfl⟩:=hv;have I1:Inv X pins σ H { s with heap:=h',toks:=tk }:=I.turned (fun b o hb e=>kk b o (by simpa using hb) e) f0 f1 f3 f4 f5;refine ⟨_,rfl,zmp (s:={ s with heap:=h',toks:=tk }) (n:="range_iterator") st' rfl rfl (by decide) ⟨.int (lo+i),H,I1,⟨t,?_⟩,⟨rfl,rfl⟩,st',fun b hb=>(hf b hb).1⟩⟩;rw [Int.mul_one]
 done:=by
  intro X hP hw hK hc i pins s σ H E I hf st hg;subst hP hw hK;obtain ⟨f0,f1,f2,f3,f4,f5⟩:=hf it (by simp);exact wpAny_pyNext_range_end (I.ok.hd hc) st (by have:n<=i:=hg;omega) fun h' eb=>⟨rfl,I.turned (t':=s.toks) (fun b o hb e=>eb b o hb e) f0 f1 f3 f4 f5⟩
 self:=fun _ _ _ _ _ st h=>wpAny_pyIter_rangeiter st h
section
variable {X:Cx}{tg:Expr}
def zrg (K:PySem.W.Frag) (tl:TE):TI:=fun σ H R=>tl σ H fun x H1=>∃a,x=.ref a/\(∃xs,SqL K H1 a xs)/\R (Itl K a) H1
def iTup (K:PySem.W.Frag) (tl:TE):TI:=fun σ H R=>tl σ H fun x H1=>∃a,x=.ref a/\(∃xs,SqT K H1 a xs)/\R (Itt K a) H1
theorem zqI {l:Expr}{tl:TE}(hl:PE X l tl):PI X tg l (zrg X.K tl):=by
 intro pins s σ H R I h;refine thn (hl pins s σ H _ I h) fun v s1 ⟨x,H1,I1,r1,q1⟩=>?_;obtain ⟨a,e,⟨xs,hq⟩,q⟩:=q1;subst e;cases r1;obtain ⟨its,rv,p,hz⟩:=I1.list hq;refine wpAny_pyIter_list p.isList ?_;refine ⟨s1.heap.objs.size,[s1.heap.objs.size],_,_,H1,rfl,I1.kept (t':=s1.toks) fun b o e=>Heap.get?_push_of_some _ e,zkQ a _,⟨_,Heap.get?_push_size _ rfl,rfl,rfl⟩,fun b hb=>?_,q⟩;have e:b=s1.heap.objs.size:=by simpa using hb
 subst e;exact I1.fpOk (Nat.le_refl _) (I1.hok.fresh (Nat.le_refl _))
theorem ztM {l:Expr}{tl:TE}(hl:PE X l tl):PI X tg l (iTup X.K tl):=by
 intro pins s σ H R I h;refine thn (hl pins s σ H _ I h) fun v s1 ⟨x,H1,I1,r1,q1⟩=>?_;obtain ⟨a,e,⟨xs,hq⟩,q⟩:=q1;subst e;cases r1;obtain ⟨its,rv,p,hz⟩:=I1.tuple hq;refine wpAny_pyIter_tuple (show s1.heap.IsTuple a its.toArray from p) ?_;refine ⟨s1.heap.objs.size,[s1.heap.objs.size],_,_,H1,rfl,I1.kept (t':=s1.toks) fun b o e=>Heap.get?_push_of_some _ e,zj0 a _,⟨_,Heap.get?_push_size _ rfl,rfl,rfl⟩,fun b hb=>?_,q⟩;have e:b=s1.heap.objs.size:=by simpa using hb
 subst e;exact I1.fpOk (Nat.le_refl _) (I1.hok.fresh (Nat.le_refl _))
theorem zjj {pins:List (Addr×Obj)}{σ:St}{H:Hp}{s:Shared}{R:It->Hp->Prop}{E:Value->Shared->Prop}{lo hi:Int}{t u v:Tok}{tk:Nat}(I:Inv X pins σ H s) (h1:-(2 ^ 62)<=lo) (h2:lo < 2 ^ 62) (h3:-(2 ^ 62)<=hi) (h4:hi < 2 ^ 62)
  (q:R (Itr lo (hi - lo).toNat) H):wpAny (model X.prog X.w) X.A (pyIter (.ref s.heap.objs.size)) (PIE X pins σ tg R) E { s with heap:=s.heap.push { cls:=.type "range",data:=.fields #[.int lo t,.int hi u,.int 1 v] },toks:=tk }:=by
 refine wpAny_pyIter_range (IsRange.new ..) (small_one h1 h2 h3 h4) ?_;have I1:Inv X pins σ H { s with heap:=s.heap.push { cls:=.type "range",data:=.fields #[.int lo t,.int hi u,.int 1 v] },toks:=tk }:=I.kept fun b o e=>Heap.get?_push_of_some _ e;refine ⟨(s.heap.push { cls:=.type "range",data:=.fields #[.int lo t,.int hi u,.int 1 v] }).objs.size,[(s.heap.push { cls:=.type "range",data:=.fields #[.int lo t,.int hi u,.int 1 v] }).objs.size],_,_,H,rfl,
  I1.kept (t':=tk) fun b o e=>Heap.get?_push_of_some _ e,zj1 _ lo (hi - lo).toNat,?_,fun b hb=>?_,q⟩
 ·have e1:lo + ((0:Nat):Int) * 1=lo:=by simp
  have e2:(((hi - lo).toNat:Nat):Int) - ((0:Nat):Int)=Builtin.Range.rangeSize lo hi 1:=by rw [rangeSize_one];split<;>omega
  show IsRangeIter _ _ (lo + ((0:Nat):Int) * 1) ((((hi - lo).toNat:Nat):Int) - ((0:Nat):Int)) 1;rw [e1,e2];exact Heap.get?_push_size _ rfl
 ·have e:b=(s.heap.push { cls:=.type "range",data:=.fields #[.int lo t,.int hi u,.int 1 v] }).objs.size:=by simpa using hb
  subst e;exact I1.fpOk (Nat.le_refl _) (I1.hok.fresh (Nat.le_refl _))
def zul (ta:TA):TI:=fun σ H R=>ta σ H fun vs H1=>∃j:Int,vs = [.int j] /\ -(2 ^ 62)<=j/\j < 2 ^ 62/\R (Itr 0 j.toNat) H1
def zuk (ta:TA):TI:=fun σ H R=>ta σ H fun vs H1=>∃i j:Int,vs = [.int i,.int j]/\(-(2 ^ 62)<=i/\i < 2 ^ 62 /\ -(2 ^ 62)<=j/\j < 2 ^ 62)/\R (Itr i (j - i).toNat) H1
theorem zlz {a:Expr}{ta:TA}{p pos:Pos}(hg:Gl X "range") (hm:X.mg "range" = none) (ha:PA X [a] ta) (hs:starEach [a] X.env = [(false,eval a X.env)]:=by rfl):PI X tg (.Call (.Name "range" p) [a] [] pos) (zul ta):=by
 intro pins s σ H R I h;refine Call_ (zf1 I hg hm boot_range (PyProof.Rows.callWith_type1 (thn (ha pos pins s σ H _ I h) fun us s1 ⟨vs,H1,I1,r1,q1⟩=>?_) hs rfl));obtain ⟨j,e,q1,q2,q⟩:=q1;subst e;cases r1 with
 | cons r rr =>
  cases rr;obtain ⟨t,rfl⟩:=r;exact call_range_1 (zjj I1 (by omega) (by omega) q1 q2 (by simpa using q))
theorem zly {a b:Expr}{ta:TA}{p pos:Pos}(hg:Gl X "range") (hm:X.mg "range" = none) (ha:PA X [a,b] ta) (hs:starEach [a,b] X.env = [(false,eval a X.env),(false,eval b X.env)]:=by rfl) (hs2:starEach [b] X.env = [(false,eval b X.env)]:=by rfl) :
  PI X tg (.Call (.Name "range" p) [a,b] [] pos) (zuk ta):=by
 intro pins s σ H R I h;refine Call_ (zf1 I hg hm boot_range (PyProof.Rows.callWith_type1 (thn (ha pos pins s σ H _ I h) fun us s1 ⟨vs,H1,I1,r1,q1⟩=>?_) (by rw [hs,hs2]) (by rw [hs2];rfl)));obtain ⟨i,j,e,⟨q1,q2,q3,q4⟩,q⟩:=q1;subst e;cases r1 with
 | cons r rr =>
  cases rr with
  | cons r' rr =>
   cases rr;obtain ⟨t,rfl⟩:=r;obtain ⟨t',rfl⟩:=r';exact call_range_2 (zjj I1 q1 q2 q3 q4 q)
def tFor (wi:TI) (g:TG) (tb:TS):TS:=fun D σ H=>wi σ H fun J H1=>∃W:Nat->Nat->St->Hp->Prop,(∃m,W 0 m σ H1) /\ ∀i m σ H,W i m σ H ->
 (J.stop i H/\D.nx σ H)\/(J.go i H /\ ∃N:St->Hp->Prop,(∀σ' H',N σ' H' -> ∃m',m' < m/\W (i+1) m' σ' H') /\ ∀x H',J.yld i H x H' -> g x σ H' fun σ2 H2=>tb { D with nx:=N,ct:=N,bk:=D.nx } σ2 H2)
def zhD (fp:List Addr) (h:Heap):List (Addr×Obj):=fp.filterMap fun b=>(h.get? b).map fun o=>(b,o)
theorem zcS {fp:List Addr}{h:Heap}{b:Addr}{o:Obj}(hb:b∈fp) (e:h.get? b=some o):(b,o)∈zhD fp h:=List.mem_filterMap.mpr ⟨b,hb,by rw [e];rfl⟩
theorem zlN {fp:List Addr}{h:Heap}{p:Addr×Obj}(hp:p∈zhD fp h):p.1∈fp/\h.get? p.1=some p.2:=by
 obtain ⟨b,hb,e⟩:=List.mem_filterMap.mp hp;cases q:h.get? b with
 | none=>rw [q] at e;cases e
 | some o =>
  rw [q] at e;have e':(b,o)=p:=Option.some.inj e;subst e';exact ⟨hb,q⟩
theorem Inv.pinned {pins:List (Addr×Obj)}{σ:St}{H:Hp}{s:Shared}{fp:List Addr}(I:Inv X pins σ H s) (hf:∀b∈fp,FpOk X pins H b) (ho:∀b∈fp,∃o,s.heap.get? b=some o /\ ∀v,o.data≠.cell v):Inv X (pins++zhD fp s.heap) σ H s :=
 I.pins_of fun p hp=>(Zd1.mp hp).elim (fun z=>I.pin p (List.mem_append_right _ z)) fun z=>by
  obtain ⟨hb,e⟩:=zlN z;obtain ⟨f0,f1,f2,_⟩:=hf p.1 hb;obtain ⟨o,e',d⟩:=ho p.1 hb;rw [e] at e';cases e';exact ⟨e,f0,f1,f2,d⟩
theorem Inv.unpinned {pins pl:List (Addr×Obj)}{σ:St}{H:Hp}{s:Shared}(I:Inv X (pins++pl) σ H s):Inv X pins σ H s:=I.pins_of fun p hp=>I.pin p (List.mem_append_right _ (List.mem_append_left _ hp))
theorem zlt {iter:Expr}{body:List Stmt}{wi:TI}{g:TG}{tb:TS}{pos:Pos}(hp:PassesOwn (model X.prog X.w) X.A X.env X.xe) (hc:X.calm=true) (hi:PI X tg iter wi) (hg:PG X tg g) (hb:PSs X body tb)
  (hs:∀x,foldedSetIterable iter X.env x=pure x:=by intro _;rfl):PS X (.For tg iter body [] pos) (tFor wi g tb):=by
 intro pins s σ H D I h;refine wpAny_For (thn (hi pins s σ H _ I h) fun v s1 h1=>thn h1 fun itv s2 h2=>?_) hs;obtain ⟨it,fp,tn,J,H2,e,I2,T,st2,f2,W,⟨m0,w0⟩,turn⟩:=h2;subst e;have stat:∀{H':Hp},(∀b∈fp,H' b=none) -> ∀b∈fp,FpOk X pins H' b:=fun hn b hb=>⟨hn b hb,(f2 b hb).2⟩
 refine codeAny_forLoop_any (fun n s'=>∃i σ' H',Inv X pins σ' H' s' /\ tn i s'.heap/\(∀b∈fp,H' b=none)/\W i n σ' H') ?_ m0 ⟨0,σ,H2,I2,st2,fun b hb=>(f2 b hb).1,w0⟩;rintro n s3 ⟨i,σ3,H3,I3,st3,fr3,w3⟩;rcases turn i n σ3 H3 w3 with ⟨stop,qn⟩|⟨go,N,hN,step⟩
 ·refine wpAny_passesOwn hp (thn (T.done X rfl rfl rfl hc i pins s3 σ3 H3 X.xe I3 (stat fr3) st3 stop) fun r s4 ⟨hr,I4⟩=>?_)
  subst hr;exact wpAny_execs_nil ⟨σ3,H3,I4,qn⟩
 ·refine wpAny_passesOwn hp (thn (T.item X rfl rfl rfl hc i pins s3 σ3 H3 X.xe I3 (stat fr3) st3 go) fun r s4 ⟨u,hr,h4⟩=>?_)
  subst hr;refine wpAny_passesOwn hp (thn h4 fun _ s5 ⟨x,H5,I5,r5,y5,st5,fr5⟩=>?_);have I5':=I5.pinned (stat fr5) (T.obj _ _ st5);refine wpAny_passesOwn hp (thn (hg _ s5 σ3 H5 x u _ I5' r5 (step x H5 y5)) fun _ s6 ⟨σ6,H6,I6,q6⟩=>?_);refine wpAny_passesOwn hp (thn (hb _ s6 σ6 H6 _ I6 q6) fun f s7 q7=>?_);have again:∀{σ7:St}{H7:Hp},Inv X (pins++zhD fp s5.heap) σ7 H7 s7->N σ7 H7 -> ∃m,m < n /\ ∃i σ' H',Inv X pins σ' H' s7/\tn i s7.heap/\(∀b∈fp,H' b=none)/\W i m σ' H':=fun {σ7 H7} I7 n7=>by
   obtain ⟨m',hm,w7⟩:=hN σ7 H7 n7;refine ⟨m',hm,i+1,σ7,H7,I7.unpinned,T.keep _ _ _ st5 fun b hb o e=>(I7.pin (b,o) (List.mem_append_right _ (List.mem_append_right _ (zcS hb e)))).1,fun b hb=>?_,w7⟩;obtain ⟨o,e,d⟩:=T.obj _ _ st5 b hb;exact (I7.pin (b,o) (List.mem_append_right _ (List.mem_append_right _ (zcS hb e)))).2.1
  cases f with
  | next=>obtain ⟨σ7,H7,I7,n7⟩:=q7;exact again I7 n7
  | cont=>obtain ⟨σ7,H7,I7,n7⟩:=q7;exact again I7 n7
  | brk=>obtain ⟨σ7,H7,I7,q7⟩:=q7;exact ⟨σ7,H7,I7.unpinned,q7⟩
  | ret v=>obtain ⟨x7,σ7,H7,I7,r7,q7⟩:=q7;exact ⟨x7,σ7,H7,I7.unpinned,r7,q7⟩
end
abbrev R2:=V->V->Hp->VK->Prop
def OpR (X:Cx) (f:Value->Value->Sem Value) (r:R2):Prop :=
 ∀(pins:List (Addr×Obj)) (s:Shared) (σ:St) (H:Hp) (x y:V) (v u:Value) (Q:VK),Inv X pins σ H s->RelV x v->RelV y u->r x y H Q ->
  wpAny (model X.prog X.w) X.A (f v u) (EP X pins σ Q) X.xe s
def UnR (X:Cx) (f:Value->Sem Value) (r:V->Hp->VK->Prop):Prop :=
 ∀(pins:List (Addr×Obj)) (s:Shared) (σ:St) (H:Hp) (x:V) (v:Value) (Q:VK),Inv X pins σ H s->RelV x v->r x H Q ->
  wpAny (model X.prog X.w) X.A (f v) (EP X pins σ Q) X.xe s
def zbL (X:Cx) (f:Value) (r:List V->Hp->VK->Prop):Prop :=
 ∀(pins:List (Addr×Obj)) (s:Shared) (σ:St) (H:Hp) (xs:List V) (us:List Value) (Q:VK),Inv X pins σ H s->Vals xs us->r xs H Q ->
  wpAny (model X.prog X.w) X.A (call f us) (EP X pins σ Q) X.xe s
def tOp (r:R2) (ta tb:TE):TE:=fun σ H Q=>ta σ H fun x H1=>tb σ H1 fun y H2=>r x y H2 Q
def tUn (r:V->Hp->VK->Prop) (ta:TE):TE:=fun σ H Q=>ta σ H fun x H1=>r x H1 Q
def rI (C:Int->Int->Prop) (g:Int->Int->V):R2:=fun x y H Q=>∃i j,x=.int i/\y=.int j/\C i j/\Q (g i j) H
def rI0 (g:Int->Int->V):R2:=fun x y H Q=>∃i j,x=.int i/\y=.int j/\Q (g i j) H
def rU (g:Int->V):V->Hp->VK->Prop:=fun x H Q=>∃i,x=.int i/\Q (g i) H
section
variable {X:Cx}{a b c:Expr}{ta tb tc:TE}{pos:Pos}
theorem binT (ha:PE X a ta) (hb:PE X b tb) {pins:List (Addr×Obj)}{s:Shared}{σ:St}{H:Hp}{R:V->V->Hp->Prop}(I:Inv X pins σ H s)
  (h:ta σ H fun x H1=>tb σ H1 fun y H2=>R x y H2) {Q:Value->Shared->Prop}{f:Value->Value->Sem Value}
  (hf:∀v u s2 x y H2,Inv X pins σ H2 s2->RelV x v->RelV y u->R x y H2->wpAny (model X.prog X.w) X.A (f v u) Q X.xe s2) :
  wpAny (model X.prog X.w) X.A (eval a X.env) (fun v s₁=>wpAny (model X.prog X.w) X.A (eval b X.env) (fun u s₂=>wpAny (model X.prog X.w) X.A (f v u) Q X.xe s₂) X.xe s₁) X.xe s:=by
 refine thn (ha pins s σ H _ I h) fun v s1 ⟨x,H1,I1,r1,q1⟩=>?_;refine thn (hb pins s1 σ H1 _ I1 q1) fun u s2 ⟨y,H2,I2,r2,q2⟩=>?_;exact hf v u s2 x y H2 I2 r1 r2 q2
theorem zwj {op:Operator}{r:R2}(ho:OpR X (binaryOp op) r) (ha:PE X a ta) (hb:PE X b tb):PE X (.BinOp a op b pos) (tOp r ta tb):=by
 intro pins s σ H Q I h;exact wpAny_BinOp (binT ha hb I h fun v u s2 x y H2 I2 rx ry q=>ho pins s2 σ H2 x y v u Q I2 rx ry q)
theorem zwi {op:UnaryOp}{r:V->Hp->VK->Prop}(ho:UnR X (unaryOp op) r) (ha:PE X a ta):PE X (.UnaryOp op a pos) (tUn r ta):=by
 intro pins s σ H Q I h;exact UnaryOp_ (thn (ha pins s σ H _ I h) fun v s1 ⟨x,H1,I1,r1,q1⟩=>ho pins s1 σ H1 x v Q I1 r1 q1)
theorem opI {f:Value->Value->Sem Value}{C:Int->Int->Prop}{g:Int->Int->Int}
  (rule:∀(i j:Int) (t u:Tok) (s:Shared) (Q:Value->Shared->Prop) (E:Value->Shared->Prop),C i j->Q (.int (g i j) s.toks) { s with toks:=s.toks+1 }->wpAny (model X.prog X.w) X.A (f (.int i t) (.int j u)) Q E s) :
  OpR X f (rI C fun i j=>.int (g i j)):=by
 intro pins s σ H x y v u Q I rx ry h;obtain ⟨i,j,rfl,rfl,hc,q⟩:=h;obtain ⟨t,rfl⟩:=rx;obtain ⟨t',rfl⟩:=ry;exact rule i j t t' s _ _ hc ⟨.int (g i j),H,I.tok _,⟨_,rfl⟩,q⟩
theorem opI0 {f:Value->Value->Sem Value}{g:Int->Int->Int}
  (rule:∀(i j:Int) (t u:Tok) (s:Shared) (Q:Value->Shared->Prop) (E:Value->Shared->Prop),Q (.int (g i j) s.toks) { s with toks:=s.toks+1 }->wpAny (model X.prog X.w) X.A (f (.int i t) (.int j u)) Q E s) :
  OpR X f (rI0 fun i j=>.int (g i j)):=by
 intro pins s σ H x y v u Q I rx ry h;obtain ⟨i,j,rfl,rfl,q⟩:=h;obtain ⟨t,rfl⟩:=rx;obtain ⟨t',rfl⟩:=ry;exact rule i j t t' s _ _ ⟨.int (g i j),H,I.tok _,⟨_,rfl⟩,q⟩
theorem opB0 {f:Value->Value->Sem Value}{g:Int->Int->Bool}
  (rule:∀(i j:Int) (t u:Tok) (s:Shared) (Q:Value->Shared->Prop) (E:Value->Shared->Prop),Q (.bool (g i j)) s->wpAny (model X.prog X.w) X.A (f (.int i t) (.int j u)) Q E s) :
  OpR X f (rI0 fun i j=>.bl (g i j)):=by
 intro pins s σ H x y v u Q I rx ry h;obtain ⟨i,j,rfl,rfl,q⟩:=h;obtain ⟨t,rfl⟩:=rx;obtain ⟨t',rfl⟩:=ry;exact rule i j t t' s _ _ ⟨.bl (g i j),H,I,rfl,q⟩
def CDiv (i j:Int):Prop:=0 < j/\j < 1073741824
def CMul (i j:Int):Prop:=(-(2 ^ 64) < i/\i < 2 ^ 64)\/(-(2 ^ 64) < j/\j < 2 ^ 64)
theorem CMul.ok {i j:Int}(h:CMul i j):IntMulOk i j:=by
 rcases h with ⟨h1,h2⟩|⟨h1,h2⟩
 ·exact .of_left (intBits_le_64 h1 h2)
 ·exact .of_right (intBits_le_64 h1 h2)
theorem zt1:OpR X (binaryOp .Add) (rI0 fun i j=>.int (i+j)):=opI0 fun _ _ _ _ _ _ _ q=>add_int q
theorem ztW:OpR X (binaryOp .Sub) (rI0 fun i j=>.int (i - j)):=opI0 fun _ _ _ _ _ _ _ q=>sub_int q
theorem ztY:OpR X (binaryOp .Mult) (rI CMul fun i j=>.int (i * j)):=opI fun _ _ _ _ _ _ _ hc q=>mul_int q hc.ok
theorem zqX:OpR X (binaryOp .FloorDiv) (rI CDiv fun i j=>.int (i / j)):=opI fun i j _ _ _ _ _ hc q=>by
 have h1:(0:Int) < j:=hc.1;have h2:j < 1073741824:=hc.2;exact floordiv_int (by omega) (by rw [Int.fdiv_eq_ediv_of_nonneg i (by omega)];exact q) (.inl (PyProof.noPylong_small (by omega)))
theorem ztZ:OpR X (binaryOp .Mod) (rI (fun _ j=>0 < j) fun i j=>.int (i % j)):=opI fun i j _ _ _ _ _ hc q=>by
 have h1:(0:Int) < j:=hc;exact mod_int' (by omega) (by rw [Int.fmod_eq_emod_of_nonneg i (by omega)];exact q)
theorem unI {f:Value->Sem Value}{g:Int->Int}
  (rule:∀(i:Int) (t:Tok) (s:Shared) (Q:Value->Shared->Prop) (E:Value->Shared->Prop),Q (.int (g i) s.toks) { s with toks:=s.toks+1 }->wpAny (model X.prog X.w) X.A (f (.int i t)) Q E s) :
  UnR X f (rU fun i=>.int (g i)):=by
 intro pins s σ H x v Q I rx h;obtain ⟨i,rfl,q⟩:=h;obtain ⟨t,rfl⟩:=rx;exact rule i t s _ _ ⟨.int (g i),H,I.tok _,⟨_,rfl⟩,q⟩
theorem zsA:UnR X (unaryOp .USub) (rU fun i=>.int (-i)):=unI fun _ _ _ _ _ q=>neg_int q
end
def scal:V->V->Bool
 | .non,.non=>true | .non,.int _=>true | .int _,.non=>true | .non,.bl _=>true | .bl _,.non=>true | .non,.str _=>true | .str _,.non=>true
 | .int _,.int _=>true | .bl _,.bl _=>true | .str _,.str _=>true | .byt _,.byt _=>true
 | .int _,.str _=>true | .str _,.int _=>true | .bl _,.str _=>true | .str _,.bl _=>true
 | _,_=>false
def rEq:R2:=fun x y H Q=>scal x y=true/\Q (.bl (decide (x=y))) H
def rNe:R2:=fun x y H Q=>scal x y=true/\Q (.bl (!decide (x=y))) H
theorem zmz {i j:Int}:decide (V.int i=V.int j)=(i==j):=by
 rw [Bool.eq_iff_iff];simp
theorem zpk {i j:Bool}:decide (V.bl i=V.bl j)=(i==j):=by
 rw [Bool.eq_iff_iff];simp
theorem zmy {i j:Str}:decide (V.str i=V.str j)=(i==j):=by
 rw [Bool.eq_iff_iff];simp
theorem zmA {i j:Array UInt8}:decide (V.byt i=V.byt j)=(i.toList==j.toList):=by
 rw [Bool.eq_iff_iff];cases i;cases j;simp
section
variable {X:Cx}{a b c:Expr}{ta tb tc:TE}{pos:Pos}
theorem zaA {pins:List (Addr×Obj)}{σ:St}{H:Hp}{s:Shared}{Q:VK}{k k':Bool}(I:Inv X pins σ H s) (q:Q (.bl k) H) (e:k=k'):EP X pins σ Q (.bool k') s:=by
 subst e;exact ⟨.bl k,H,I,rfl,q⟩
theorem zwr:OpR X (compareOp .Eq) rEq:=by
 intro pins s σ H x y v u Q I rx ry h;obtain ⟨hs,q⟩:=h;cases x with
 | non =>
  cases rx;cases y with
  | non=>cases ry;exact PySem.EqNone.eq_none_none (zaA I q (by simp))
  | bl j=>cases ry;exact PySem.EqNone.eq_none_bool (zaA I q (by simp))
  | int j=>obtain ⟨t',rfl⟩:=ry;exact PySem.EqNone.eq_none_int (zaA I q (by simp))
  | str j=>obtain ⟨t',rfl⟩:=ry;exact PySem.EqNone.eq_none_str (zaA I q (by simp))
  | _=>exact absurd (show false=true from hs) Zl
 | bl i =>
  cases rx;cases y with
  | non=>cases ry;exact PySem.EqNone.eq_bool_none (zaA I q (by simp))
  | bl j=>cases ry;exact eq_bool (zaA I q zpk)
  | str j=>obtain ⟨t',rfl⟩:=ry;exact PySem.EqMixed.eq_bool_str (zaA I q (by simp))
  | _=>exact absurd (show false=true from hs) Zl
 | int i =>
  obtain ⟨t,rfl⟩:=rx;cases y with
  | non=>cases ry;exact PySem.EqNone.eq_int_none (zaA I q (by simp))
  | int j=>obtain ⟨t',rfl⟩:=ry;exact eq_int (zaA I q zmz)
  | str j=>obtain ⟨t',rfl⟩:=ry;exact PySem.EqMixed.eq_int_str (zaA I q (by simp))
  | _=>exact absurd (show false=true from hs) Zl
 | str i =>
  obtain ⟨t,rfl⟩:=rx;cases y with
  | non=>cases ry;exact PySem.EqNone.eq_str_none (zaA I q (by simp))
  | bl j=>cases ry;exact PySem.EqMixed.eq_str_bool (zaA I q (by simp))
  | int j=>obtain ⟨t',rfl⟩:=ry;exact PySem.EqMixed.eq_str_int (zaA I q (by simp))
  | str j=>obtain ⟨t',rfl⟩:=ry;exact eq_str (zaA I q zmy)
  | _=>exact absurd (show false=true from hs) Zl
 | byt i =>
  obtain ⟨t,rfl⟩:=rx;cases y with
  | byt j=>obtain ⟨t',rfl⟩:=ry;exact PySem.W.eq_bytes (zaA I q zmA)
  | _=>exact absurd (show false=true from hs) Zl
 | _=>cases y<;>exact absurd (show false=true from hs) Zl
theorem zwm:OpR X (compareOp .NotEq) rNe:=by
 intro pins s σ H x y v u Q I rx ry h;obtain ⟨hs,q⟩:=h;cases x with
 | non =>
  cases rx;cases y with
  | non=>cases ry;exact PySem.EqNone.ne_none_none (zaA I q (by simp))
  | bl j=>cases ry;exact PySem.EqNone.ne_none_bool (zaA I q (by simp))
  | int j=>obtain ⟨t',rfl⟩:=ry;exact PySem.EqNone.ne_none_int (zaA I q (by simp))
  | str j=>obtain ⟨t',rfl⟩:=ry;exact PySem.EqNone.ne_none_str (zaA I q (by simp))
  | _=>exact absurd (show false=true from hs) Zl
 | bl i =>
  cases rx;cases y with
  | non=>cases ry;exact PySem.EqNone.ne_bool_none (zaA I q (by simp))
  | bl j=>cases ry;exact ne_bool (zaA I q (congrArg not zpk))
  | str j=>obtain ⟨t',rfl⟩:=ry;exact PySem.EqMixed.ne_bool_str (zaA I q (by simp))
  | _=>exact absurd (show false=true from hs) Zl
 | int i =>
  obtain ⟨t,rfl⟩:=rx;cases y with
  | non=>cases ry;exact PySem.EqNone.ne_int_none (zaA I q (by simp))
  | int j=>obtain ⟨t',rfl⟩:=ry;exact ne_int (zaA I q (congrArg not zmz))
  | str j=>obtain ⟨t',rfl⟩:=ry;exact PySem.EqMixed.ne_int_str (zaA I q (by simp))
  | _=>exact absurd (show false=true from hs) Zl
 | str i =>
  obtain ⟨t,rfl⟩:=rx;cases y with
  | non=>cases ry;exact PySem.EqNone.ne_str_none (zaA I q (by simp))
  | bl j=>cases ry;exact PySem.EqMixed.ne_str_bool (zaA I q (by simp))
  | int j=>obtain ⟨t',rfl⟩:=ry;exact PySem.EqMixed.ne_str_int (zaA I q (by simp))
  | str j=>obtain ⟨t',rfl⟩:=ry;exact ne_str (zaA I q (congrArg not zmy))
  | _=>exact absurd (show false=true from hs) Zl
 | byt i =>
  obtain ⟨t,rfl⟩:=rx;cases y with
  | byt j=>obtain ⟨t',rfl⟩:=ry;exact PySem.W.ne_bytes (zaA I q (congrArg not zmA))
  | _=>exact absurd (show false=true from hs) Zl
 | _=>cases y<;>exact absurd (show false=true from hs) Zl
theorem zwn:OpR X (compareOp .Lt) (rI0 fun i j=>.bl (decide (i < j))):=opB0 fun _ _ _ _ _ _ _ q=>lt_int q
theorem zwo:OpR X (compareOp .LtE) (rI0 fun i j=>.bl (decide (i<=j))):=opB0 fun _ _ _ _ _ _ _ q=>le_int q
theorem zwp:OpR X (compareOp .Gt) (rI0 fun i j=>.bl (decide (j < i))):=opB0 fun _ _ _ _ _ _ _ q=>gt_int q
theorem zwq:OpR X (compareOp .GtE) (rI0 fun i j=>.bl (decide (j<=i))):=opB0 fun _ _ _ _ _ _ _ q=>ge_int q
theorem zqT {op:CmpOp}{r:R2}(ho:OpR X (compareOp op) r) (ha:PE X a ta) (hb:PE X b tb) (hm:behindInMarks op b=false):PE X (.Compare a [op] [b] pos) (tOp r ta tb):=by
 intro pins s σ H Q I h;exact wpAny_Compare1 (binT ha hb I h fun v u s2 x y H2 I2 rx ry q=>ho pins s2 σ H2 x y v u Q I2 rx ry q) hm
def zsE (t:TE):TT:=fun σ H Q=>t σ H fun x H'=>∃k,x=.bl k/\Q k H'
theorem zqC {op:CmpOp}{r:R2}(ho:OpR X (compareOp op) r) (ha:PE X a ta) (hb:PE X b tb) (hm:behindInMarks op b=false):PT X (.Compare a [op] [b] pos) (zsE (tOp r ta tb)):=by
 intro pins s σ H Q I h;refine wpAny_isTrue_Compare1 (thn (ha pins s σ H _ I h) fun v s1 ⟨x,H1,I1,r1,q1⟩=>thn (hb pins s1 σ H1 _ I1 q1) fun u s2 ⟨y,H2,I2,r2,q2⟩ =>
  thn (ho pins s2 σ H2 x y v u _ I2 r1 r2 q2) fun c s3 ⟨z,H3,I3,r3,k,e,q3⟩=>?_) hm
 subst e;cases r3;exact wpAny_truthy_bool ⟨H3,I3,q3⟩
def zoI (r r':R2) (ta tb tc:TE):TE:=fun σ H Q=>ta σ H fun x H1=>tb σ H1 fun y H2=>r x y H2 fun z H3=>∃k,z=.bl k /\
 (if k=true then tc σ H3 fun w' H4=>r' y w' H4 Q else Q (.bl false) H3)
theorem znQ {op op':CmpOp}{r r':R2}(ho:OpR X (compareOp op) r) (ho':OpR X (compareOp op') r') (ha:PE X a ta) (hb:PE X b tb) (hc:PE X c tc)
  (hm:lastMarks [op,op'] [b,c]=false:=by with_unfolding_all rfl):PE X (.Compare a [op,op'] [b,c] pos) (zoI r r' ta tb tc):=by
 intro pins s σ H Q I h;refine Compare_chain (thn (ha pins s σ H _ I h) fun v s1 ⟨x,H1,I1,r1,q1⟩=>chain_link (thn (hb pins s1 σ H1 _ I1 q1) fun u s2 ⟨y,H2,I2,r2,q2⟩ =>
  thn (ho pins s2 σ H2 x y v u _ I2 r1 r2 q2) fun d s3 ⟨z,H3,I3,r3,k,e,q3⟩=>?_)) hm
 subst e;cases r3;refine wpAny_truthy_bool ?_;cases k with
 | false=>exact ite_ff ⟨.bl false,H3,I3,rfl,q3⟩
 | true=>exact ite_tt (chain_last (thn (hc pins s3 σ H3 _ I3 q3) fun w' s4 ⟨z',H4,I4,r4,q4⟩=>ho' pins s4 σ H4 y z' u w' Q I4 r2 r4 q4))
theorem zhW:(sizeLine:Nat) < 2 ^ 63:=by rw [sizeLine_eq];decide
theorem vals1 {x:V}{us:List Value}(r:Vals [x] us):∃u,us = [u]/\RelV x u:=by
 cases r with
 | cons r1 r2=>cases r2;exact ⟨_,rfl,r1⟩
theorem vals2 {x y:V}{us:List Value}(r:Vals [x,y] us):∃u w',us = [u,w']/\RelV x u/\RelV y w':=by
 cases r with
 | cons r1 r2 =>
  cases r2 with
  | cons r3 r4=>cases r4;exact ⟨_,_,rfl,r1,r3⟩
theorem zmN (hc:X.calm=true):zbL X (.builtin "max") (fun xs H Q=>∃i j,xs = [.int i,.int j]/\Q (.int (if j > i then j else i)) H):=by
 intro pins s σ H xs us Q I r h;obtain ⟨i,j,rfl,q⟩:=h;obtain ⟨u,w',rfl,⟨t,rfl⟩,⟨t',rfl⟩⟩:=vals2 r;refine max_two_ints (I.ok.hd hc) fun h' tk k=>⟨_,H,I.kept k,?_,q⟩
 by_cases hj:j > i
 ·rw [if_pos hj,if_pos hj];exact ⟨_,rfl⟩
 ·rw [if_neg hj,if_neg hj];exact ⟨_,rfl⟩
theorem zmM (hc:X.calm=true):zbL X (.builtin "min") (fun xs H Q=>∃i j,xs = [.int i,.int j]/\Q (.int (if j < i then j else i)) H):=by
 intro pins s σ H xs us Q I r h;obtain ⟨i,j,rfl,q⟩:=h;obtain ⟨u,w',rfl,⟨t,rfl⟩,⟨t',rfl⟩⟩:=vals2 r;refine min_two_ints (I.ok.hd hc) fun h' tk k=>⟨_,H,I.kept k,?_,q⟩
 by_cases hj:j < i
 ·rw [if_pos hj,if_pos hj];exact ⟨_,rfl⟩
 ·rw [if_neg hj,if_neg hj];exact ⟨_,rfl⟩
end
structure ObjM (h:Heap) (x dx C:Addr) (mA:Str->Option Value):Prop where
 obj:h.get? x=some (PySem.W.instObj C dx)
 ns:h.Ns1 dx mA
 ne:dx≠x
theorem zl2 {h:Heap}{dx:Addr}{mA:Str->Option Value}(n:h.Ns1 dx mA):∃od,h.get? dx=some od /\ ∀name,PySem.W.lookIn name od=some (mA name):=by
 obtain ⟨o,es,ep,ho,hd,hk,_,hm⟩:=n;refine ⟨o,ho,fun name=>?_⟩;have e:=hm name;unfold nsFind findBy at e;rw [<- Array.find?_toList] at e;unfold PySem.W.lookIn;rw [hd];dsimp only;split
 ·rename_i y q
  rw [q] at e;exact congrArg some e
 ·rename_i q
  rw [q] at e;have a:es.toList.any (·.refKey)=false:=by
   rw [List.any_eq_false];intro y hy;obtain ⟨z,t,hkey⟩:=hk y (Array.mem_toList_iff.mp hy);simp [DictEntry.refKey,hkey]
  have a':¬es.toList.any (·.refKey)=true:=by rw [a];exact Zl
  rw [if_neg a'];exact congrArg some e
theorem ObjM.look {h:Heap}{x dx C:Addr}{mA:Str->Option Value}(I:ObjM h x dx C mA):∃od,PySem.W.InstAt h x (PySem.W.instObj C dx) C (some od) /\ ∀name,PySem.W.lookIn name od=some (mA name) :=
 let ⟨od,ho,hl⟩:=zl2 I.ns
 ⟨od,⟨I.obj,rfl,rfl,ho⟩,hl⟩
section
variable {prog:Program}{w:World}{A:Around}{E:Value->Shared->Prop}{s:Shared}{K:PySem.W.Frag}{x dx C f:Addr}{mA:Str->Option Value}{name:Str}{v:Value}
theorem get_map {expr:Bool}{Q:Value->Shared->Prop}(X:K.In s.heap) (I:ObjM s.heap x dx C mA) (hg:PySem.W.plainGet K C name=true) (hh:PySem.W.hasDictIn K C=true)
  (ha:PySem.W.findIn K (.ref C) name=some none) (hv:mA name=some v) (hv':PySem.W.handedIn v=true) (h:Q v { s with toks:=s.toks+1 }) :
  wpAny (model prog w) A (getAttr (.ref x) name expr) Q E s:=by
 obtain ⟨od,J,hl⟩:=I.look;exact PySem.W.get_value X J (PySem.W.plainGet_of hg).1 (PySem.W.findObj_own hh ha rfl (by rw [hl,hv])) hv' h
theorem zob {pl:Sem Bool}{Q:Value×List Value->Shared->Prop}(X:K.In s.heap) (I:ObjM s.heap x dx C mA) (hg:PySem.W.plainGet K C name=true)
  (hf:PySem.W.findIn K (.ref C) name=some (some (.ref f))) (ht:PySem.W.isFn K (.ref f)=true) (hv:mA name=none) (h:Q (.ref f,[.ref x]) s) :
  wpAny (model prog w) A (getMethod (.ref x) name pl) Q E s:=by
 obtain ⟨od,J,hl⟩:=I.look;exact PySem.W.method_fn X J (PySem.W.plainGet_of hg).1 (PySem.W.plainGet_of hg).2 hf (beq_iff_eq.mp ht) (by show (PySem.W.lookIn name od).map (·.isSome)=some false;rw [hl,hv];rfl) h
theorem zqc {ns:List Str}{Q:Unit->Shared->Prop}(X:K.In s.heap) (I:ObjM s.heap x dx C mA)
  (hs:PySem.W.findIn K (.ref C) "__setattr__" = some (some (.builtin "object.__setattr__"))) (hp:PySem.W.plainOver K C=true) (ht:PySem.W.takerIn K C name=some none) (hh:PySem.W.hasDictIn K C=true)
  (hw:PySem.Within mA ns) (hsz:ns.length<=sizeLine)
  (h:∀h',ObjM h' x dx C (fun y=>if y=name then some v else mA y)->Heap.SameBut dx s.heap h' -> Q () { s with heap:=h',toks:=s.toks+2 }) :
  wpAny (model prog w) A (setAttr (.ref x) name v) Q E s:=by
 obtain ⟨od,J,hl⟩:=I.look;refine PySem.W.set_plain X J hs (PySem.W.osa_open (s:={ s with toks:=s.toks+1 }) (r:=none) X J hp ht fun b=>?_);obtain ⟨cd,hc,hd'⟩:=PySem.W.any_some hh;have hx:s.heap.get? x=some ⟨.ref C,some dx,.plain,#[]⟩:=I.obj;refine wpAny_bind (wpAny_pure (wpAny_bind (wpAny_bind (wpAny_loadPart hx (wpAny_bind (PySem.W.Looks.here (s:={ s with toks:=s.toks+1 }) (PySem.W.looks_clsIn X hc) ?_))))));rw [hd'];refine wpAny_pure (a:=some dx) (wpAny_bind (wpAny_pure (wpAny_bind ?_)));refine wpAny_nsSet1 (s:={ s with toks:=s.toks+1 }) I.ns fun h' hn2 hs2=>?_;obtain ⟨oD,esD,epD,hoD,hdD,hcD⟩:=hn2.count (PySem.Within.cons name v hw);refine wpAny_bind (wpAny_lookBehind hoD (by rw [hdD];exact pastItsLine_dict (Nat.le_trans hcD (by rw [Zq];omega))) ?_);exact wpAny_pure (h _ ⟨(hs2.2 _ (Ne.symm I.ne)).trans I.obj,hn2,I.ne⟩ hs2)
theorem zn0 {R:Result->Shared->Prop}{vs:List Value}{kw:List (Str×Value)}(X:K.In s.heap) (hm:PySem.W.makesIn K C=true)
  (hi:PySem.W.findIn K (.ref C) "__init__" = some (some (.ref f))) (hf:PySem.W.typeIn K (.ref f)=some (.type "function"))
  (h:codeAny (model prog w) (A.under (.builtin "type.__call__" ⟨.ref C::vs,kw⟩)) (.call (.ref f) ⟨.ref (s.heap.objs.size+1)::vs,kw⟩) (PySem.W.InitBack (s.heap.objs.size+1) R)
   { s with heap:=(s.heap.push PySem.W.emptyDict).push (PySem.W.instObj C s.heap.objs.size) }) :
  codeAny (model prog w) A (.call (.ref C) ⟨vs,kw⟩) R s:=by
 obtain ⟨hh,g,d,t,os⟩:=s;exact PySem.W.make_core (PySem.W.makes_of X hm) (PySem.W.looks_findIn X hi) (fun self=>PySem.W.bind_fn X self hf) (.inl rfl) h
end
def putF (f:Str) (v:V):List (Str×V)->List (Str×V)
 | []=>[(f,v)]
 | (g,x)::r=>if g=f then (g,v)::r else (g,x)::putF f v r
theorem ze0 (f g:Str) (v:V):∀fs:List (Str×V),(putF f v fs).lookup g=if g=f then some v else fs.lookup g
 | []=>by
  show List.lookup g [(f,v)]=_;by_cases h:g=f
  ·have hb:(g==f)=true:=beq_iff_eq.mpr h
   simp only [List.lookup,hb,if_pos h]
  ·have hb:(g==f)=false:=beq_eq_false_iff_ne.mpr h
   simp only [List.lookup,hb,if_neg h]
 | (k,x)::r=>by
  have ih:=ze0 f g v r;rw [show putF f v ((k,x)::r)=(if k=f then (k,v)::r else (k,x)::putF f v r) from rfl];by_cases hk:k=f
  ·rw [if_pos hk]
   by_cases h:g=k
   ·have hb:(g==k)=true:=beq_iff_eq.mpr h
    simp only [List.lookup,hb,if_pos (h.trans hk)]
   ·have hb:(g==k)=false:=beq_eq_false_iff_ne.mpr h
    simp only [List.lookup,hb,if_neg (fun e:g=f=>h (e.trans hk.symm))]
  ·rw [if_neg hk]
   by_cases h:g=k
   ·have hb:(g==k)=true:=beq_iff_eq.mpr h
    simp only [List.lookup,hb,if_neg (fun e:g=f=>hk (h.symm.trans e))]
   ·have hb:(g==k)=false:=beq_eq_false_iff_ne.mpr h
    simp only [List.lookup,hb];exact ih
theorem ze5 (f:Str) (v:V):∀fs:List (Str×V),f∈(putF f v fs).map (·.1) /\ ∀g,g∈fs.map (·.1)->g∈(putF f v fs).map (·.1)
 | []=>⟨by simp [putF],fun g h=>by simp at h⟩
 | (k,x)::r=>by
  obtain ⟨i1,i2⟩:=ze5 f v r;rw [show putF f v ((k,x)::r)=(if k=f then (k,v)::r else (k,x)::putF f v r) from rfl];by_cases hk:k=f
  ·rw [if_pos hk]
   subst hk;exact ⟨by simp,fun g h=>by simpa using h⟩
  ·rw [if_neg hk]
   refine ⟨?_,fun g h=>?_⟩
   ·rw [Zh]
    exact Ze _ i1
   ·rw [Zh] at h ⊢
    rcases Zk.mp h with e|e
    ·exact Zk.mpr (.inl e)
    ·exact Ze _ (i2 g e)
theorem ze3 (f:Str) (v:V):∀fs:List (Str×V),(putF f v fs).length<=fs.length+1
 | []=>by simp [putF]
 | (k,x)::r=>by
  have ih:=ze3 f v r;rw [show putF f v ((k,x)::r)=(if k=f then (k,v)::r else (k,x)::putF f v r) from rfl];by_cases hk:k=f
  ·rw [if_pos hk,Zq,Zq];omega
  ·rw [if_neg hk,Zq,Zq];omega
theorem RelO.some_of {v:V}{o:Option Value}(r:RelO (some v) o):∃u,o=some u/\RelV v u:=by
 cases o with
 | none=>exact (show False from r).elim
 | some u=>exact ⟨u,rfl,r⟩
theorem RelO.none_of {o:Option Value}(r:RelO none o):o=none:=by
 cases o with
 | none=>rfl
 | some u=>exact (show False from r).elim
theorem zmo {v:V}{u:Value}(r:RelV v u):PySem.W.handedIn u=true:=by
 cases v with
 | non=>cases (show u=Value.none from r);rfl
 | bl b=>cases (show u=Value.bool b from r);rfl
 | int i=>obtain ⟨t,e⟩:=(show ∃t,u=Value.int i t from r);cases e;rfl
 | str x=>obtain ⟨t,e⟩:=(show ∃t,u=Value.str x t from r);cases e;rfl
 | byt b=>obtain ⟨t,e⟩:=(show ∃t,u=Value.bytes b t from r);cases e;rfl
 | flt b=>obtain ⟨t,e⟩:=(show ∃t,u=Value.float b t from r);cases e;rfl
 | ref a=>cases (show u=Value.ref a from r);rfl
 | ty n=>cases (show u=Value.type n from r);rfl
section
variable {P:Program}{w:World}{H H':Hp}{h h':Heap}{a C dx:Addr}{fs fs':List (Str×V)}
theorem ziO (hok:HOk P w H h) (e:H a=some (.ins C dx fs)):∃mA,ObjM h a dx C mA/\(∀f,RelO (fs.lookup f) (mA f))/\PySem.Within mA (fs.map (·.1))/\fs.length<=1000/\H dx=some (.own a):=by
 obtain ⟨d,z,ne,ob,mA,n,r,q⟩:=(show za4 P w H h a (.ins C dx fs) from hok a _ e)
 exact ⟨mA,⟨ob,n,ne⟩,r,q,z,d⟩
end
structure Cls (K:PySem.W.Frag) (C:Addr):Prop where
 pg:PySem.W.plainGet K C Str.empty=true
 hd:PySem.W.hasDictIn K C=true
 po:PySem.W.plainOver K C=true
 sa:PySem.W.findIn K (.ref C) "__setattr__" = some (some (.builtin "object.__setattr__"))
theorem Cls.get {K:PySem.W.Frag}{C:Addr}(c:Cls K C) (f:Str):PySem.W.plainGet K C f=true:=c.pg
def zcp (K:PySem.W.Frag) (C:Addr) (f:Str):Prop:=PySem.W.findIn K (.ref C) f=some none
theorem zcp.taker {K:PySem.W.Frag}{C:Addr}{f:Str}(n:zcp K C f):PySem.W.takerIn K C f=some none:=by
 unfold PySem.W.takerIn;rw [show PySem.W.findIn K (.ref C) f=some none from n];rfl
structure Meth (K:PySem.W.Frag) (C:Addr) (m:Str) (f:Addr):Prop where
 at_:PySem.W.findIn K (.ref C) m=some (some (.ref f))
 fn:PySem.W.isFn K (.ref f)=true
 kp:PySem.W.keepIn K (.ref f)=true
section
variable {X:Cx}{pins:List (Addr×Obj)}{σ:St}{H:Hp}{s:Shared}{a C dx:Addr}{fs:List (Str×V)}{f:Str}{v:V}{A:Around}{E:Value->Shared->Prop}
theorem zkv {b:Bool}{Q:Value->Shared->Prop}(I:Inv X pins σ H s) (e:H a=some (.ins C dx fs)) (c:Cls X.K C) (n:zcp X.K C f) (l:fs.lookup f=some v)
  (h:∀u s',Inv X pins σ H s' -> RelV v u->Q u s'):wpAny (model X.prog X.w) A (getAttr (.ref a) f b) Q E s:=by
 obtain ⟨mA,O,r,_,_,_⟩:=ziO I.hok e;obtain ⟨u,hu,ru⟩:=RelO.some_of (v:=v) (o:=mA f) (by rw [<- l];exact r f);exact get_map I.kIn O (c.get f) c.hd n hu (zmo ru) (h u _ (I.tok _) ru)
theorem zf7 {m:Str}{g:Addr}{pl:Sem Bool}{Q:Value×List Value->Shared->Prop}(I:Inv X pins σ H s) (e:H a=some (.ins C dx fs)) (c:Cls X.K C) (k:Meth X.K C m g) (l:fs.lookup m=none)
  (h:Q (.ref g,[.ref a]) s):wpAny (model X.prog X.w) A (getMethod (.ref a) m pl) Q E s:=by
 obtain ⟨mA,O,r,_,_,_⟩:=ziO I.hok e;have hn:mA m=none:=RelO.none_of (by rw [<- l];exact r m);exact zob I.kIn O (c.get m) k.at_ k.fn hn h
theorem zj4 {y:V}{u:Value}{Q:Unit->Shared->Prop}(I:Inv X pins σ H s) (e:H a=some (.ins C dx fs)) (c:Cls X.K C) (n:zcp X.K C f) (hl:fs.length < 1000) (ry:RelV y u)
  (h:∀s',Inv X pins σ (upd H a (.ins C dx (putF f y fs))) s' -> Q () s'):wpAny (model X.prog X.w) A (setAttr (.ref a) f u) Q E s:=by
 obtain ⟨mA,O,r,wi,_,ho⟩:=ziO I.hok e;have hz:(fs.map (·.1)).length<=sizeLine:=by rw [Zd,sizeLine_eq];omega
 refine zqc I.kIn O c.sa c.po n.taker c.hd wi hz fun h' O' sb=>h _ ?_;have hd:∃o,h'.get? dx=some o:=let ⟨o,_,_,e',_⟩:=O'.ns;⟨o,e'⟩;refine I.write (x:=a) (e:=dx) (by rw [e];exact True.intro) (.inr ho) (fun b q hb z=>(sb.2 b hb).trans z) hd ?_;refine ⟨by rw [zac O.ne];exact ho,?_,O.ne,O'.obj,_,O'.ns,fun g=>?_,fun g hg=>?_⟩
 ·have:=ze3 f y fs;omega
 ·show RelO ((putF f y fs).lookup g) (if g=f then some u else mA g)
  rw [ze0];by_cases q:g=f
  ·rw [if_pos q,if_pos q];exact ry
  ·rw [if_neg q,if_neg q];exact r g
 ·by_cases q:g=f
  ·rw [q];exact (ze5 f y fs).1
  ·refine (ze5 f y fs).2 g (wi g fun z=>hg ?_)
   show (if g=f then some u else mA g)=none;rw [if_neg q];exact z
theorem Inv.made (I:Inv X pins σ H s):Inv X pins σ (upd (upd H s.heap.objs.size (.own (s.heap.objs.size+1))) (s.heap.objs.size+1) (.ins C s.heap.objs.size []))
  { s with heap:=(s.heap.push PySem.W.emptyDict).push (PySem.W.instObj C s.heap.objs.size) }:=by
 have e1:(s.heap.push PySem.W.emptyDict).get? s.heap.objs.size=some PySem.W.emptyDict:=Heap.get?_push_size s.heap rfl;have e2:((s.heap.push PySem.W.emptyDict).push (PySem.W.instObj C s.heap.objs.size)).get? (s.heap.objs.size+1)=some (PySem.W.instObj C s.heap.objs.size):=by
  have:=Heap.get?_push_size (s.heap.push PySem.W.emptyDict) (o:=PySem.W.instObj C s.heap.objs.size) rfl
  rwa [Heap.size_push] at this
 have e3:(s.heap.push PySem.W.emptyDict).Ns s.heap.objs.size (fun _=>none):=⟨PySem.W.emptyDict,#[],_,e1,rfl,(fun e he=>absurd he (by simp)),fun _=>rfl⟩
 have I1:=I.laid (a:=s.heap.objs.size) (o:=.own (s.heap.objs.size+1)) (h':=s.heap.push PySem.W.emptyDict) (t':=s.toks) (fun b u q=>Heap.get?_push_of_some _ q) (Nat.le_refl _) ⟨_,e1⟩;refine I1.laid (a:=s.heap.objs.size+1) (o:=.ins C s.heap.objs.size []) (t':=s.toks) (fun b u q=>Heap.get?_push_of_some _ q) (Nat.le_of_eq (Heap.size_push _ _)) ?_;have ne:s.heap.objs.size≠s.heap.objs.size+1:=Nat.ne_of_lt (Nat.lt_succ_self _);refine ⟨by rw [zac ne,zaf],Nat.zero_le _,ne,e2,fun _=>none,(Heap.Ns1.of_empty e3).at fun o q=>Heap.get?_push_of_some _ q,fun _=>True.intro,fun y hy=>absurd rfl hy⟩
theorem zrH {prog:Program}{w:World}{env:Env}{e:Expr}{f:Str}{pos:Pos}{s:Shared}{Q:Value->Shared->Prop}(hb:attributeBase e f env (eval e env)=eval e env)
  (h:wpAny (model prog w) A (eval e env) (fun o s₁=>wpAny (model prog w) A (getAttr o f true) Q E s₁) E s):wpAny (model prog w) A (eval (.Attribute e f pos) env) Q E s :=
 Attribute_any_ h (by rw [arm_eval_Attribute,hb])
end
def tFld (K:PySem.W.Frag) (ta:TE) (f:Str):TE:=fun σ H Q=>ta σ H fun x H1=>∃a C dx fs v,x=.ref a/\H1 a=some (.ins C dx fs)/\Cls K C/\zcp K C f/\fs.lookup f=some v/\Q v H1
def sFld (K:PySem.W.Frag) (ta tv:TE) (f:Str):TS:=fun D σ H=>tv σ H fun y H1=>ta σ H1 fun x H2=>∃a C dx fs,x=.ref a/\H2 a=some (.ins C dx fs)/\Cls K C/\zcp K C f/\fs.length < 1000 /\
 D.nx σ (upd H2 a (.ins C dx (putF f y fs)))
section
variable {X:Cx}{o e value:Expr}{f:Str}{pos pos' tpos:Pos}{ta tv:TE}
theorem zo1 (he:PE X e ta) (hb:attributeBase e f X.env (eval e X.env)=eval e X.env):PE X (.Attribute e f pos) (tFld X.K ta f):=by
 intro pins s σ H Q I h;refine zrH hb (thn (he pins s σ H _ I h) fun u s1 ⟨x,H1,I1,rx,a,C,dx,fs,v,ex,ea,c,n,l,q⟩=>?_);subst ex;obtain rfl:u=Value.ref a:=rx;exact zkv I1 ea c n l fun u' s2 I2 ru=>⟨v,H1,I2,ru,q⟩
theorem zoV (ha:PE X o ta) (hv:PE X value tv) (hs:swapsWith value (some (.Attribute o f pos')) pos.line X.env=pure false):PS X (.Assign [.Attribute o f pos'] value pos) (sFld X.K ta tv f):=by
 intro pins s σ H D I h;refine plainObj_wpAny_Assign_Attribute (thn (hv pins s σ H _ I h) fun u s1 ⟨y,H1,I1,ry,q⟩=>thn (ha pins s1 σ H1 _ I1 q) fun ov s2 ⟨x,H2,I2,rx,a,C,dx,fs,ex,ea,c,n,l,q2⟩=>?_) hs;subst ex;obtain rfl:ov=Value.ref a:=rx;exact zj4 I2 ea c n l ry fun s3 I3=>⟨σ,_,I3,q2⟩
end
structure Room (k:Nat) (A:Around):Prop where
 hd:A.handled=none
 dp:A.depth+3 * k+5 < recursionLimit
 un:A.units+16 * k+200 < cLine
 gd:A.guards=some []
theorem Room.mono {j k:Nat}{A:Around}(r:Room k A) (h:j<=k):Room j A:=⟨r.hd,by have:=r.dp;omega,by have:=r.un;omega,r.gd⟩
theorem Room.deeper {k:Nat}{A:Around}(r:Room (k+1) A) (env:Env):Room k (A.deeper env) :=
 ⟨r.hd,by have:=r.dp;show A.depth+1+3 * k+5 < _;omega,by have:=r.un;show A.units+3+16 * k+200 < _;omega,r.gd⟩
theorem zkq {A:Around}{C:Addr}{us:List Value}{kw:List (Str×Value)}:(A.under (.builtin "type.__call__" ⟨.ref C::us,kw⟩)).depth=A.depth+1:=by
 first|rfl|simp [Around.under,Code.weight,Code.isCreation,Code.isGuard,Code.isCaller,Code.frames,Code.isFrame,guardIds]
theorem zkp {A:Around}{C:Addr}{us:List Value}{kw:List (Str×Value)}:(A.under (.builtin "type.__call__" ⟨.ref C::us,kw⟩)).units=A.units+1:=by
 first|rfl|simp [Around.under,Code.cUnits,Code.frames,Code.isFrame]
theorem Room.make {k:Nat}{A:Around}(r:Room (k+1) A) (C:Addr) (us:List Value) (kw:List (Str×Value)):Room k (A.under (.builtin "type.__call__" ⟨.ref C::us,kw⟩)) :=
 ⟨r.hd,by have:=r.dp;rw [zkq];omega,by have:=r.un;rw [zkp];omega,by first|exact r.gd|simpa [Around.under,Code.isGuard,guardIds] using r.gd⟩
theorem Room.depth {k:Nat}{A:Around}(r:Room k A):A.depth < recursionLimit:=by have:=r.dp;omega
theorem Room.units {k:Nat}{A:Around}(r:Room k A):A.units+64 < cLine:=by have:=r.un;omega
def tNil:TA:=fun _ H Q=>Q [] H
def zhe (ta:TE) (tr:TA):TA:=fun σ H Q=>ta σ H fun x H1=>tr σ H1 fun xs H2=>Q (x::xs) H2
section
variable {X:Cx}{e:Expr}{es:List Expr}{te:TE}{t:TA}{pos:Pos}
theorem zd6:PA X [] tNil:=fun _ _ _ _ H Q I h=>Calls.spliced_nil ⟨[],H,I,.nil,h⟩
theorem zda (ha:PE X e te) (hr:PA X es t) (hs:starEach (e::es) X.env=(false,eval e X.env)::starEach es X.env:=by rfl):PA X (e::es) (zhe te t):=by
 intro pos pins s σ H Q I h;rw [hs];show wpAny _ _ (spliced ((false,eval e X.env)::backTo pos (starEach es X.env))) _ _ s;refine Calls.spliced_cons (thn (ha pins s σ H _ I h) fun u s1 ⟨x,H1,I1,r1,q1⟩=>?_);exact thn (hr pos pins s1 σ H1 _ I1 q1) fun us s2 ⟨xs,H2,I2,r2,q2⟩=>⟨x::xs,H2,I2,.cons r1 r2,q2⟩
def tTup (t:TA):TE:=fun σ H Q=>t σ H fun xs H1=>xs.length<=sizeLine /\ ∀p,H1 p=none->Q (.ref p) (upd H1 p (.tup xs))
def tLst (t:TA):TE:=fun σ H Q=>t σ H fun xs H1=>xs.length<=sizeLine /\ ∀p,H1 p=none->Q (.ref p) (upd H1 p (.lst xs))
theorem ztQ {x1}(h:PA X es t):PE X (.Tuple es x1 pos) (tTup t):=by
 intro pins s σ H Q I hq;refine wpAny_Tuple_spliced (thn (h pos pins s σ H _ I hq) fun us s1 ⟨xs,H1,I1,r,z,q⟩=>⟨by rw [<- r.length];exact z,?_⟩);have hf:H1 s1.heap.objs.size=none:=I1.hok.fresh (Nat.le_refl _);refine ⟨.ref s1.heap.objs.size,upd H1 s1.heap.objs.size (.tup xs),I1.laid (t':=s1.toks) (fun b u e=>Heap.get?_push_of_some _ e) (Nat.le_refl _) ?_,rfl,q _ hf⟩;exact ⟨z,us,r,⟨_,Heap.get?_push_size _ rfl,rfl,_,rfl⟩⟩
theorem zlD (h:PA X es t):PE X (.List es pos) (tLst t):=by
 intro pins s σ H Q I hq;refine wpAny_List_spliced (thn (h pos pins s σ H _ I hq) fun us s1 ⟨xs,H1,I1,r,z,q⟩=>⟨by rw [<- r.length];exact z,?_⟩);have hf:H1 s1.heap.objs.size=none:=I1.hok.fresh (Nat.le_refl _);refine ⟨.ref s1.heap.objs.size,upd H1 s1.heap.objs.size (.lst xs),I1.laid (t':=s1.toks) (fun b u e=>Heap.get?_push_of_some _ e) (Nat.le_refl _) ?_,rfl,q _ hf⟩;exact ⟨z,us,0,r,Heap.get?_push_size _ rfl⟩
end
abbrev Sp:=List V->Hp->VK->XK->Prop
abbrev CXT:=List Env->Hp->Shared->XK->Value->Shared->Prop
structure Env0 (P:Program) (w:World) (K:PySem.W.Frag) (mg:Str->Option Value) (base:Heap) (A:Around) (outer:List Env) (s:Shared) (H:Hp):Prop where
 frames:A.frames=some outer
 mod:Mod K mg base
 bs:∀b o,base.get? b=some o->s.heap.get? b=some o/\H b=none
 bsz:base.objs.size<=s.heap.objs.size
 funs:s.heap.FunFrames base outer
 frf:∀b∈frs outer,H b=none
 hok:HOk P w H s.heap
 bare:AllBare s.gens
def CE (outer:List Env) (P:Program) (w:World) (H:Hp) (s:Shared) (Q:VK) (u:Value) (s':Shared):Prop :=
 ∃v H',s'.os=s.os/\AllBare s'.gens/\Un (frs outer) [] H H' s.heap s'.heap/\HOk P w H' s'.heap/\RelV v u/\Q v H'
def CR (CX:CXT) (outer:List Env) (P:Program) (w:World) (H:Hp) (s:Shared) (Q:VK) (E:XK) (r:Result) (s':Shared):Prop :=
 match r with
 | .ok (.ret u)=>CE outer P w H s Q u s'
 | .ok _=>False
 | .error e=>CX outer H s E e s'
structure FnOk (P:Program) (w:World) (K:PySem.W.Frag) (mg:Str->Option Value) (base:Heap) (CX:CXT) (k:Nat) (f:Addr) (fd:FuncData) (ps:List Str) (sp:Sp):Prop where
 len:∀vs H Q E,sp vs H Q E->vs.length=ps.length
 run:∀(A:Around) (outer:List Env) (s:Shared) (H:Hp) (args:Args) (us:List Value) (vs:List V) (Q:VK) (E:XK),Room k A->Env0 P w K mg base A outer s H->BindsTo s fd args (ps.zip us)->Vals vs us->sp vs H Q E ->
  codeAny (model P w) A (.call (.ref f) args) (CR CX outer P w H s Q E) s
theorem FnOk.imp {P:Program}{w:World}{K:PySem.W.Frag}{mg:Str->Option Value}{base:Heap}{CX:CXT}{k:Nat}{f:Addr}{fd:FuncData}{ps:List Str}{sp sp':Sp}(F:FnOk P w K mg base CX k f fd ps sp)
  (h:∀vs H Q E,sp' vs H Q E->sp vs H Q E):FnOk P w K mg base CX k f fd ps sp' :=
 ⟨fun vs H Q E q=>F.len vs H Q E (h _ _ _ _ q),fun A outer s H args us vs Q E hr he hb hv hs=>F.run A outer s H args us vs Q E hr he hb hv (h _ _ _ _ hs)⟩
theorem Env0.make {P:Program}{w:World}{K:PySem.W.Frag}{mg:Str->Option Value}{base:Heap}{A:Around}{outer:List Env}{s:Shared}{H:Hp}(e:Env0 P w K mg base A outer s H) (C:Addr) (us:List Value) (kw:List (Str×Value)) :
  Env0 P w K mg base (A.under (.builtin "type.__call__" ⟨.ref C::us,kw⟩)) outer s H:=⟨by first|exact e.frames|(simpa [Around.under,Code.envs,Code.isFrame,pushEnvs] using e.frames),e.mod,e.bs,e.bsz,e.funs,e.frf,e.hok,e.bare⟩
section
variable {X:Cx}{pins:List (Addr×Obj)}{σ:St}{H:Hp}{s s':Shared}
theorem Inv.env0 (I:Inv X pins σ H s):Env0 X.prog X.w X.K X.mg X.base X.A X.stack s H :=
 ⟨I.ok.frames,I.ok.mod,I.bs,Nat.le_trans I.ok.bsz I.sz,I.stack,I.stkFree,I.hok,I.bare⟩
theorem Inv.after {Q:VK}{u:Value}(I:Inv X pins σ H s) (h:CE X.stack X.prog X.w H s Q u s'):EP X pins σ Q u s':=by
 obtain ⟨v,H',os,bare,un,hok,r,q⟩:=h;obtain ⟨hh,g,d,t,os'⟩:=s';obtain rfl:os'=s.os:=os;exact ⟨v,H',I.call (h':=hh) (g':=g) (d':=d) (t':=t) (ch:=[]) un hok bare (fun b z=>absurd z (by simp)),r,q⟩
end
def zp2 (sp:Sp) (dvs:List V) (E:XK) (t:TA):TE:=fun σ H Q=>t σ H fun vs H1=>sp (vs++dvs) H1 Q E
def ziu (C:Addr) (m:Str) (sp:Sp) (dvs:List V) (E:XK) (ta:TE) (t:TA):TE:=fun σ H Q=>ta σ H fun x H1=>∃a dx fs,x=.ref a/\H1 a=some (.ins C dx fs)/\fs.lookup m=none /\
 t σ H1 fun vs H2=>sp (x::(vs++dvs)) H2 Q E
def zsI (C:Addr) (sp:Sp) (dvs:List V) (E:XK) (t:TA):TE:=fun σ H Q=>t σ H fun vs H1=>∀x dx,H1 x=none->H1 dx=none->dx≠x ->
 sp (.ref x::(vs++dvs)) (upd (upd H1 dx (.own x)) x (.ins C dx [])) (fun v H2=>v=.non/\Q (.ref x) H2) E
def Binds (K:PySem.W.Frag) (fd:FuncData) (ps:List Str) (ds:List Value):Prop :=
 ∀(s:Shared) (us:List Value),K.In s.heap->(us++ds).length=ps.length->BindsTo s fd ⟨us,[]⟩ (ps.zip (us++ds))
theorem Binds.all {K:PySem.W.Frag}{fd:FuncData}{ps:List Str}(h:∀us:List Value,us.length=ps.length->bindArgs fd ⟨us,[]⟩=pure (ps.zip us)):Binds K fd ps []:=fun s us _ hl=>by
 rw [List.append_nil] at hl ⊢;exact .of_eq (h us hl)
def zfs (CX:CXT) (X:Cx) (E:XK):Prop:=∀(pins:List (Addr×Obj)) (σ:St) (H:Hp) (s:Shared) (e:Value) (s':Shared),Inv X pins σ H s->CX X.stack H s E e s' -> X.xe e s'
section
variable {X:Cx}{CX:CXT}{k:Nat}{f C:Addr}{fd:FuncData}{ps:List Str}{sp:Sp}{dvs:List V}{ds:List Value}{E:XK}{x m:Str}{p pos apos:Pos}{e o:Expr}{es:List Expr}{ta:TE}{t:TA}
theorem zla {pins:List (Addr×Obj)}{σ:St}{H:Hp}{s:Shared}{Q:VK}{us:List Value}{vs:List V}(F:FnOk X.prog X.w X.K X.mg X.base CX k f fd ps sp) (hr:Room k X.A) (hb:Binds X.K fd ps ds) (hd:Vals dvs ds) (hx:zfs CX X E)
  (I:Inv X pins σ H s) (r:Vals vs us) (h:sp (vs++dvs) H Q E):wpAny (model X.prog X.w) X.A (call (.ref f) us) (EP X pins σ Q) X.xe s:=by
 have r2:Vals (vs++dvs) (us++ds):=r.append hd;have hl:(us++ds).length=ps.length:=by rw [<- r2.length];exact F.len _ _ _ _ h
 refine wpAny_call (codeAny_mono (F.run X.A X.stack s H ⟨us,[]⟩ (us++ds) (vs++dvs) Q E hr I.env0 (hb s us I.kIn hl) r2 h) fun r s' hq=>?_);cases r with
 | error e=>exact hx pins σ H s e s' I hq
 | ok fl =>
  cases fl with
  | ret u=>exact I.after hq
  | next=>exact False.elim hq
  | brk=>exact False.elim hq
  | cont=>exact False.elim hq
theorem zlF (F:FnOk X.prog X.w X.K X.mg X.base CX k f fd ps sp) (hr:Room k X.A) (hg:Gl X x) (hm:X.mg x=some (.ref f)) (hk:PySem.W.keepIn X.K (.ref f)=true) (hb:Binds X.K fd ps ds) (hd:Vals dvs ds) (hx:zfs CX X E)
  (ha:PA X (e::es) t) (hdb:(x==("__debug__" : Str))=false:=by decide) (he:starEach (e::es) X.env=(false,eval e X.env)::starEach es X.env:=by rfl) (hpl:(backTo pos (starEach es X.env)).any (·.1)=false:=by rfl) :
  PE X (.Call (.Name x p) (e::es) [] pos) (zp2 sp dvs E t):=by
 intro pins s σ H Q I h;refine wpAny_Call_Name_kw (ziL I hg hm ?_ hdb);refine PySem.W.callWith_K (h₀:=X.base) I.ok.mod.kin hk (thn (ha pos pins s σ H _ I h) fun us s1 ⟨vs,H1,I1,r,q⟩=>⟨I1.kIn,?_⟩) he hpl;exact zla F hr hb hd hx I1 r q
theorem zlC {pl:Sem Bool}(he:PE X o ta) (c:Cls X.K C) (hm:Meth X.K C m f) (F:FnOk X.prog X.w X.K X.mg X.base CX k f fd ps sp) (hr:Room k X.A) (hb:Binds X.K fd ps ds) (hd:Vals dvs ds) (hx:zfs CX X E) (ha:PA X (e::es) t)
  (hst:starEach (e::es) X.env=(false,eval e X.env)::starEach es X.env:=by rfl) (hpl:(backTo pos (starEach es X.env)).any (·.1)=false:=by rfl)
  (ht:eval (.Call (.Attribute o m apos) (e::es) [] pos) X.env=(do
   let ov <- eval o X.env
   standAt apos.atName
   let (f,first) <- holding [ov] (getMethod ov m pl)
   callWith pos f first (backTo pos (starEach (e::es) X.env)) (backToKw pos (keywordEach [] X.env))):=by rfl) :
  PE X (.Call (.Attribute o m apos) (e::es) [] pos) (ziu C m sp dvs E ta t):=by
 intro pins s σ H Q I h;refine PySem.W.methodCall_KW (pl:=pl) (thn (he pins s σ H _ I h) fun u s1 ⟨x,H1,I1,rx,a,dx,fs,ex,ea,l,q⟩=>?_) ht;subst ex;obtain rfl:u=Value.ref a:=rx;refine zf7 I1 ea c hm l ?_;refine PySem.W.callWith_K (first:=[.ref a]) (h₀:=X.base) I.ok.mod.kin hm.kp (thn (ha pos pins s1 σ H1 _ I1 q) fun us s2 ⟨vs,H2,I2,r,q2⟩=>⟨I2.kIn,?_⟩) hst hpl;exact zla (us:=.ref a::us) (vs:=.ref a::vs) F hr hb hd hx I2 (.cons rfl r) q2
theorem zjo {pl:Sem Bool}(he:PE X o ta) (c:Cls X.K C) (hm:Meth X.K C m f) (F:FnOk X.prog X.w X.K X.mg X.base CX k f fd ps sp) (hr:Room k X.A) (hb:Binds X.K fd ps ds) (hd:Vals dvs ds) (hx:zfs CX X E)
  (ht:eval (.Call (.Attribute o m apos) [] [] pos) X.env=(do
   let ov <- eval o X.env
   standAt apos.atName
   let (f,first) <- holding [ov] (getMethod ov m pl)
   callWith pos f first (backTo pos (starEach [] X.env)) (backToKw pos (keywordEach [] X.env))):=by rfl) :
  PE X (.Call (.Attribute o m apos) [] [] pos) (ziu C m sp dvs E ta tNil):=by
 intro pins s σ H Q I h;refine PySem.W.methodCall_KW (pl:=pl) (thn (he pins s σ H _ I h) fun u s1 ⟨x,H1,I1,rx,a,dx,fs,ex,ea,l,q⟩=>?_) ht;subst ex;obtain rfl:u=Value.ref a:=rx;refine zf7 I1 ea c hm l ?_;exact PySem.W.callWith_K0 (first:=[.ref a]) I1.kIn hm.kp (zla (us:=[.ref a]) (vs:=[.ref a]) F hr hb hd hx I1 (.cons rfl .nil) q)
structure Mk (K:PySem.W.Frag) (C f:Addr):Prop where
 makes:PySem.W.makesIn K C=true
 init:PySem.W.findIn K (.ref C) "__init__" = some (some (.ref f))
 fn:PySem.W.isFn K (.ref f)=true
 kp:PySem.W.keepIn K (.ref C)=true
theorem znr {pins:List (Addr×Obj)}{σ:St}{H:Hp}{s:Shared}{Q:VK}{us:List Value}{vs:List V}(M:Mk X.K C f) (F:FnOk X.prog X.w X.K X.mg X.base CX k f fd ps sp) (hr:Room (k+1) X.A) (hb:Binds X.K fd ps ds) (hd:Vals dvs ds)
  (hx:zfs CX X E) (I:Inv X pins σ H s) (r:Vals vs us)
  (h:∀x dx,H x=none->H dx=none->dx≠x->sp (.ref x::(vs++dvs)) (upd (upd H dx (.own x)) x (.ins C dx [])) (fun v H2=>v=.non/\Q (.ref x) H2) E) :
  wpAny (model X.prog X.w) X.A (call (.ref C) us) (EP X pins σ Q) X.xe s:=by
 have hq:=h (s.heap.objs.size+1) s.heap.objs.size (I.hok.fresh (Nat.le_succ _)) (I.hok.fresh (Nat.le_refl _)) (Nat.ne_of_lt (Nat.lt_succ_self _));have I2:=Inv.made (C:=C) I;have r2:Vals (V.ref (s.heap.objs.size+1)::(vs++dvs)) (Value.ref (s.heap.objs.size+1)::(us++ds)):=.cons rfl (r.append hd);have hl:(Value.ref (s.heap.objs.size+1)::us++ds).length=ps.length:=by
  have e:=r2.length;rw [F.len _ _ _ _ hq] at e;exact e.symm
 refine wpAny_call (zn0 (f:=f) I.kIn M.makes M.init (beq_iff_eq.mp M.fn) (codeAny_mono (F.run _ X.stack _ _ ⟨Value.ref (s.heap.objs.size+1)::us,[]⟩ (Value.ref (s.heap.objs.size+1)::(us++ds)) _ _ E (hr.make C us [])
  (I2.env0.make C us []) (hb _ (Value.ref (s.heap.objs.size+1)::us) I2.kIn hl) r2 hq) fun r s' hq'=>?_))
 cases r with
 | error e=>exact hx pins σ _ _ e s' I2 hq'
 | ok fl =>
  cases fl with
  | ret u =>
   obtain ⟨v,H',I3,rv,ev,q3⟩:=I2.after hq';subst ev;exact ⟨rv,⟨V.ref (s.heap.objs.size+1),H',I3,rfl,q3⟩⟩
  | next=>exact False.elim hq'
  | brk=>exact False.elim hq'
  | cont=>exact False.elim hq'
theorem znM (M:Mk X.K C f) (F:FnOk X.prog X.w X.K X.mg X.base CX k f fd ps sp) (hr:Room (k+1) X.A) (hg:Gl X x) (hm:X.mg x=some (.ref C)) (hb:Binds X.K fd ps ds) (hd:Vals dvs ds) (hx:zfs CX X E)
  (hdb:(x==("__debug__" : Str))=false:=by decide):PE X (.Call (.Name x p) [] [] pos) (zsI C sp dvs E tNil):=by
 intro pins s σ H Q I h;refine wpAny_Call_Name_kw (ziL I hg hm ?_ hdb);exact PySem.W.callWith_K0 I.kIn M.kp (znr (us:=[]) M F hr hb hd hx I .nil h)
end
structure FnScope (N P:List Str) (sc:Scope):Prop where
 kind:sc.kind=.function
 co:sc.isCoroutine=false
 gen:sc.isGenerator=false
 nd:N.Nodup
 pre:N.take P.length=P
 par:∀x∈P,sc.names.lookup x=some .local\/sc.names.lookup x=some .cell
 nofree:∀y∈sc.names,y.2≠.free
theorem zij {kindOf:Str->Option NameKind}{x:Str}:∀{binds:List (Str×Value)}{m:Str->Option Value},(∀v,(x,v)∉binds)->bindL kindOf binds m x=m x
 | [],_,_=>rfl
 | (n,v)::r,m,h=>by
  unfold bindL;rw [zij fun w hw=>h w (Ze _ hw)];split
  ·have:x≠n:=by rintro rfl;exact h v Zf
   simp [this]
  ·rfl
theorem zil {kindOf:Str->Option NameKind}{x:Str}:∀{binds:List (Str×Value)}{m:Str->Option Value},(∀v,(x,v)∉binds)->bindC kindOf binds m x=m x
 | [],_,_=>rfl
 | (n,v)::r,m,h=>by
  unfold bindC;rw [zil fun w hw=>h w (Ze _ hw)];split
  ·rfl
  ·have:x≠n:=by rintro rfl;exact h v Zf
   simp [this]
theorem zik {kindOf:Str->Option NameKind}{x:Str}{v:Value}:∀{P:List Str}{vs:List Value}{i:Nat}{m:Str->Option Value},P.Nodup->P[i]?=some x->vs[i]?=some v->kindOf x=some .local ->
  bindL kindOf (P.zip vs) m x=some v
 | [],_,_,_,_,h,_,_=>by simp at h
 | _::_,[],_,_,_,_,h,_=>by simp at h
 | p::P,w::vs,0,m,nd,h1,h2,hk=>by
  simp at h1 h2;subst h1;subst h2;show bindL kindOf ((p,w)::P.zip vs) m p=_;unfold bindL;rw [zij fun v hv=>(List.nodup_cons.mp nd).1 (List.of_mem_zip hv).1,if_pos hk];simp
 | p::P,w::vs,i+1,m,nd,h1,h2,hk=>by
  show bindL kindOf ((p,w)::P.zip vs) m x=_;unfold bindL;exact zik (i:=i) (List.nodup_cons.mp nd).2 (by simpa using h1) (by simpa using h2) hk
theorem zim {kindOf:Str->Option NameKind}{x:Str}{v:Value}:∀{P:List Str}{vs:List Value}{i:Nat}{m:Str->Option Value},P.Nodup->P[i]?=some x->vs[i]?=some v->kindOf x≠some .local ->
  bindC kindOf (P.zip vs) m x=some v
 | [],_,_,_,_,h,_,_=>by simp at h
 | _::_,[],_,_,_,_,h,_=>by simp at h
 | p::P,w::vs,0,m,nd,h1,h2,hk=>by
  simp at h1 h2;subst h1;subst h2;show bindC kindOf ((p,w)::P.zip vs) m p=_;unfold bindC;rw [zil fun v hv=>(List.nodup_cons.mp nd).1 (List.of_mem_zip hv).1,if_neg hk];simp
 | p::P,w::vs,i+1,m,nd,h1,h2,hk=>by
  show bindC kindOf ((p,w)::P.zip vs) m x=_;unfold bindC;exact zim (i:=i) (List.nodup_cons.mp nd).2 (by simpa using h1) (by simpa using h2) hk
def start (N:List Str) (vs:List V):St:=vs.map some++List.replicate (N.length - vs.length) none
def cxOf (CX:CXT) (P:Program) (w:World) (K:PySem.W.Frag) (mg:Str->Option Value) (base:Heap) (N:List Str) (qual:Str) (scope:Scope) (f:Addr) (cd:Value) (A:Around) (outer:List Env) (s:Shared) (H:Hp) (E:XK):Cx where
 prog:=P
 w:=w
 K:=K
 mg:=mg
 base:=base
 A:=A.deeper (envOfC qual scope s.heap.objs.size f cd)
 N:=N
 s₀:=s
 H₀:=H
 env:=envOfC qual scope s.heap.objs.size f cd
 outer:=outer
 stack:=envOfC qual scope s.heap.objs.size f cd::outer
 ex:=[]
 calm:=true
 fn:=fun _=>true
 pn:=[]
 xe:=fun e s'=>wpAny (model P w) (A.deeper (envOfC qual scope s.heap.objs.size f cd)) (leaving (envOfC qual scope s.heap.objs.size f cd) e) (fun _ s''=>CX outer H s E e s'') (fun e' s''=>CX outer H s E e' s'') s'
theorem zjQ {sc:Scope}{n:Nat}{x:Str}(h:sc.names.lookup x=some .cell):∃c,(cellsFrom n sc.names []).lookup x=some c:=by
 have q:=PySem.W.cellsFrom_some sc.names n [] (.inl h);exact Option.isSome_iff_exists.mp q
theorem zmh {CX:CXT}{P:Program}{w:World}{K:PySem.W.Frag}{mg:Str->Option Value}{base:Heap}{N ps:List Str}{qual:Str}{scope:Scope}{f:Addr}{cd:Value}{A:Around}{outer:List Env}{s s1:Shared}{H:Hp}{E:XK}{us:List Value}{vs:List V}
  (S:FnScope N ps scope) (hd:A.handled=none) (e0:Env0 P w K mg base A outer s H) (hl:vs.length=ps.length) (r:Vals vs us)
  (x:InCallC s s.heap.objs.size (bindL (envOfC qual scope s.heap.objs.size f cd).kindOf (ps.zip us) fun _=>none) (cellsFrom (s.heap.objs.size+1) scope.names []) (bindC (envOfC qual scope s.heap.objs.size f cd).kindOf (ps.zip us) fun _=>none) s1) :
  Inv (cxOf CX P w K mg base N qual scope f cd A outer s H E) [] (start N vs) H s1:=by
 have hpl:ps.length<=N.length:=by have:=congrArg List.length S.pre;rw [Zq1] at this;omega
 obtain ⟨h1,tk,rfl,hk⟩:=x.done;have noA:∀b:Addr,b∉(cxOf CX P w K mg base N qual scope f cd A outer s H E).ex:=fun b z=>absurd (show b∈([]:List Addr) from z) (by simp);refine ⟨⟨e0.mod,S.kind,rfl,rfl,Nat.le_refl _,fun y z c h1 h2=>?_,fun y hy=>?_,fun y c _ h=>?_,fun _=>hd,Around.frames_deeper e0.frames,.inr ⟨rfl,rfl⟩,fun b z=>absurd z (noA b),e0.bs,e0.bsz,fun b _ _=>noA b,fun b z=>absurd z (noA b),e0.funs,e0.frf⟩,
  rfl,e0.bare,Un.kept hk,⟨_,x.toInCall.ns,fun i y v h1 h2 h3=>?_⟩,fun y c h=>⟨_,x.cell y c h⟩,e0.hok.fresh (Nat.le_refl _),fun y c h=>?_,fun p hp=>absurd (show p∈([]:List (Addr×Obj)) from hp) (by simp),e0.hok.kept hk,?_⟩
 ·exact name_of_addr x.apart (PySem.mem_of_lookup h1) (PySem.mem_of_lookup h2)
 ·have hy:scope.names.lookup y=some .cell\/scope.names.lookup y=some .free:=hy
  rcases hy with hy|hy
  ·exact zjQ hy
  ·exact absurd rfl (S.nofree _ (PySem.mem_of_lookup hy))
 ·exact Nat.le_of_lt (x.above y c (PySem.mem_of_lookup h))
 ·have hi:i < vs.length:=by
   unfold start at h2;by_cases hi:i < vs.length
   ·exact hi
   ·rw [List.getElem?_append_right (by simpa using hi)] at h2
    rw [List.getElem?_replicate] at h2;split at h2<;>cases h2
  have ha:vs[i]?=some v:=by
   unfold start at h2;rw [Za1 (by simpa using hi),Zj] at h2;cases e:vs[i]? with
   | none=>rw [e] at h2;cases h2
   | some a=>rw [e] at h2;cases h2;rfl
  obtain ⟨u,hu,rv⟩:=r.get ha;have hp:ps[i]?=some y:=by
   rw [<- S.pre,List.getElem?_take_of_lt (by omega)];exact h1
  have ndP:ps.Nodup:=by rw [<- S.pre];exact S.nd.sublist (List.take_sublist _ _)
  refine ⟨u,rv,?_⟩;rcases S.par y (Zw hp) with k|k
  ·exact .inl ⟨k,zik ndP hp hu k⟩
  ·obtain ⟨c,e⟩:=zjQ (n:=s.heap.objs.size+1) k
   refine .inr ⟨.inl k,c,e,?_⟩;have q:=x.cell y c e;rw [zim ndP hp hu (by show scope.names.lookup y≠_;rw [k];decide)] at q;exact q
 ·exact e0.hok.fresh (Nat.le_of_lt (x.above y c (PySem.mem_of_lookup h)))
 ·unfold start
  show _=N.length;rw [Zp,Zd,List.length_replicate];omega
theorem zwJ {CX:CXT}{P:Program}{w:World}{K:PySem.W.Frag}{mg:Str->Option Value}{base:Heap}{k:Nat}{f:Addr}{name qual:Str}{params:Arguments}{body:List Stmt}{scope:Scope}{dV kV doc pm cdv ct oc:Value}{an od:Option Addr}
  {osl:Array (Option Value)}{N ps:List Str}{sp:Sp}(lk:K.lookup f=some ⟨oc,od,.func (PySem.W.fnOf name qual params body scope dV kV doc pm an cdv ct),osl⟩) (hcd:PySem.W.codeIn K cdv qual=true) (S:FnScope N ps scope)
  (len:∀vs H Q E,sp vs H Q E->vs.length=ps.length)
  (hbody:∀(A:Around) (outer:List Env) (s:Shared) (H:Hp) (vs:List V) (Q:VK) (E:XK),Room k (A.deeper (envOfC qual scope s.heap.objs.size f cdv))->sp vs H Q E ->
   ∃t,PSs (cxOf CX P w K mg base N qual scope f cdv A outer s H E) body t/\t { nx:=fun _ H'=>Q .non H',rt:=Q } (start N vs) H) :
  FnOk P w K mg base CX (k+1) f (PySem.W.fnOf name qual params body scope dV kV doc pm an cdv ct) ps sp:=by
 refine ⟨len,fun A outer s H args us vs Q E hr e0 hb r hsp=>?_⟩;have hl:=len _ _ _ _ hsp;have KX:K.In s.heap:=e0.mod.kin.keeps fun b o e=>(e0.bs b o e).1;have lim:s.heap.NoLimit:=e0.mod.nolimit.keeps fun b o e=>(e0.bs b o e).1;have hkind:∀y∈ps.zip us,scope.names.lookup y.1=some .local\/(scope.names.lookup y.1=some .cell/\((cellsFrom (s.heap.objs.size+1) scope.names []).lookup y.1).isSome=true):=fun ⟨n,v⟩ hy=>by
  rcases S.par n (List.of_mem_zip hy).1 with q|q
  ·exact .inl q
  ·exact .inr ⟨q,PySem.W.cellsFrom_some _ _ _ (.inl q)⟩
 refine codeAny_call_function hr.depth (KX _ _ lk) rfl S.co S.gen rfl (PySem.W.codeRec_of KX hcd) (hb _ _ _ _ ?_);refine wpAny_newFunctionEnv_cells S.kind hkind fun env he s1 x=>?_;subst he;refine ⟨lim.keeps x.toInCall.keep,codeAny_func ?_⟩;obtain ⟨t,ht,hq⟩:=hbody A outer s H vs Q E (hr.deeper _) hsp;have I:Inv (cxOf CX P w K mg base N qual scope f cdv A outer s H E) [] (start N vs) H s1:=zmh S hr.hd e0 hl r x;refine wpAny_mono (ht [] s1 (start N vs) H _ I hq) (fun fl s' hs=>?_) fun e s' hs=>hs;have fin:∀{σ':St}{H':Hp}{v:V}{u:Value},Inv (cxOf CX P w K mg base N qual scope f cdv A outer s H E) [] σ' H' s' -> RelV v u->Q v H' -> CE outer P w H s Q u s' :=
  fun {σ' H' v u} J rv q=>⟨v,H',J.os,J.bare,J.base,J.hok,rv,q⟩
 cases fl with
 | ret u =>
  obtain ⟨v,σ',H',J,rv,q⟩:=hs;exact fin J rv q
 | next =>
  obtain ⟨σ',H',J,q⟩:=hs;exact fin (v:=V.non) (u:=Value.none) J rfl q
 | brk =>
  obtain ⟨_,_,_,q⟩:=hs;exact False.elim q
 | cont =>
  obtain ⟨_,_,_,q⟩:=hs;exact False.elim q
section
variable {X:Cx}{x:Str}{p pos:Pos}{e:Expr}{es:List Expr}{t:TA}{id T:String}{r:List V->Hp->VK->Prop}
def tCB (r:List V->Hp->VK->Prop) (t:TA):TE:=fun σ H Q=>t σ H fun vs H1=>r vs H1 Q
theorem zjp (hc:zbL X (.builtin id) r) (hg:Gl X x) (hm:X.mg x=none) (hv:bootBuiltins x=some (.builtin id)) (ha:PA X (e::es) t) (hn:x≠"__name__":=by decide) (hdb:(x==("__debug__" : Str))=false:=by decide)
  (he:starEach (e::es) X.env=(false,eval e X.env)::starEach es X.env:=by rfl) (hpl:(backTo pos (starEach es X.env)).any (·.1)=false:=by rfl):PE X (.Call (.Name x p) (e::es) [] pos) (tCB r t):=by
 intro pins s σ H Q I h;refine wpAny_Call_Name_kw (zf1 I hg hm hv ?_ hn hdb);exact PyProof.Rows.callWith_builtin1 (thn (ha pos pins s σ H _ I h) fun us s1 ⟨vs,H1,I1,r1,q1⟩=>hc pins s1 σ H1 vs us Q I1 r1 q1) he hpl
theorem zhG (hc:zbL X (.type T) r) (hg:Gl X x) (hm:X.mg x=none) (hv:bootBuiltins x=some (.type T)) (ha:PA X (e::es) t) (hn:x≠"__name__":=by decide) (hdb:(x==("__debug__" : Str))=false:=by decide)
  (he:starEach (e::es) X.env=(false,eval e X.env)::starEach es X.env:=by rfl) (hpl:(backTo pos (starEach es X.env)).any (·.1)=false:=by rfl):PE X (.Call (.Name x p) (e::es) [] pos) (tCB r t):=by
 intro pins s σ H Q I h;refine wpAny_Call_Name_kw (zf1 I hg hm hv ?_ hn hdb);exact PyProof.Rows.callWith_type1 (thn (ha pos pins s σ H _ I h) fun us s1 ⟨vs,H1,I1,r1,q1⟩=>hc pins s1 σ H1 vs us Q I1 r1 q1) he hpl
end
end L2
namespace HT
open PySem PyProof.Rows
def lexLt:List Int->List Int->Bool
 | [],[]=>false
 | [],_::_=>true
 | _::_,[]=>false
 | x::xs,y::ys=>if x=y then lexLt xs ys else decide (x < y)
section
variable {prog:Program}{w:World}{A:Around}{E:Value->Shared->Prop}{s:Shared}
def sIx (n d:Nat):Option Int->Nat
 | none=>d
 | some v=>if v < 0 then (v + (n:Int)).toNat else min v.toNat n
theorem zjf (n d:Nat):sIx n d none=d:=rfl
theorem zeH (n d k:Nat):sIx n d (some (k:Int))=min k n:=by
 show (if (k:Int) < 0 then ((k:Int) + (n:Int)).toNat else min (k:Int).toNat n)=min k n;rw [if_neg (by omega),Zv]
end
end HT
namespace L2
open PySem PySem.Spec PyProof.Rows
abbrev TO:=St->Hp->(Option Int->Hp->Prop)->Prop
def PO (X:Cx) (e:Option Expr) (t:TO):Prop :=
 ∀(pins:List (Addr×Obj)) (s:Shared) (σ:St) (H:Hp) (Q:Option Int->Hp->Prop),Inv X pins σ H s->t σ H Q ->
  wpAny (model X.prog X.w) X.A (evalPart e X.env) (fun u s'=>∃o H',Inv X pins σ H' s' /\ IsPart u o/\Q o H') X.xe s
def zkV:TO:=fun _ H Q=>Q none H
def zsF (t:TE):TO:=fun σ H Q=>t σ H fun x H1=>∃i,x=.int i/\Q (some i) H1
theorem intsAre_of {ns:List Int}:∀{us:List Value},Vals (ns.map V.int) us->IntsAre us ns:=by
 induction ns with
 | nil=>intro us r;rw [List.map_nil] at r;cases r;exact .nil
 | cons n ns ih =>
  intro us r;rw [Zh] at r;cases r with
  | cons r1 r2 =>
   obtain ⟨t,e⟩:=r1;subst e;exact .cons n t (ih r2)
section
variable {X:Cx}{e:Expr}{te:TE}{lo hi:Option Expr}{tl th:TO}{pos p2:Pos}
theorem ziD:PO X none zkV:=by
 intro pins s σ H Q I h;rw [evalPart_none];exact wpAny_pure ⟨none,H,I,.none,h⟩
theorem zqG (h:PE X e te):PO X (some e) (zsF te):=by
 intro pins s σ H Q I hw;rw [evalPart_some];refine thn (h pins s σ H _ I hw) fun u s1 ⟨x,H1,I1,r1,q1⟩=>?_;obtain ⟨i,rfl,q⟩:=q1;obtain ⟨t,rfl⟩:=r1;exact ⟨some i,H1,I1,.int i t,q⟩
def SlR (X:Cx) (r:V->Option Int->Option Int->Hp->VK->Prop):Prop :=
 ∀(pins:List (Addr×Obj)) (s:Shared) (σ:St) (H:Hp) (x:V) (v vl vu:Value) (lo hi:Option Int) (sl:Addr) (Q:VK),Inv X pins σ H s->RelV x v->s.heap.IsSliceOf sl vl vu .none->IsPart vl lo->IsPart vu hi->r x lo hi H Q ->
  ∃T id,typeLookup (.type T) "__getitem__" = pure (some (.builtin id))/\s.TypeIs v T/\wpAny (model X.prog X.w) X.A (getItem v (.ref sl)) (EP X pins σ Q) X.xe s
def tSl (r:V->Option Int->Option Int->Hp->VK->Prop) (te:TE) (tl th:TO):TE:=fun σ H Q=>te σ H fun x H1=>tl σ H1 fun l H2=>th σ H2 fun u H3=>r x l u H3 Q
theorem znL {r:V->Option Int->Option Int->Hp->VK->Prop}(hr:SlR X r) (he:PE X e te) (hl:PO X lo tl) (hu:PO X hi th):PE X (.Subscript e (.Slice lo hi none p2) pos) (tSl r te tl th):=by
 intro pins s σ H Q I h;refine Subscript_ (thn (he pins s σ H _ I h) fun v s1 ⟨x,H1,I1,r1,q1⟩=>?_);refine wpAny_Slice (thn (hl pins s1 σ H1 _ I1 q1) fun vl s2 ⟨l,H2,I2,pl,q2⟩=>thn (hu pins s2 σ H2 _ I2 q2) fun vu s3 ⟨u,H3,I3,pu,q3⟩=>?_);rw [evalPart_none];refine wpAny_pure ?_;have I4:Inv X pins σ H3 { s3 with heap:=s3.heap.push { cls:=.type "slice",data:=.fields #[vl,vu,.none] } }:=I3.kept (t':=s3.toks) fun b ob q=>Heap.get?_push_of_some _ q;obtain ⟨T,id,hT,ht,hg⟩:=hr pins { s3 with heap:=s3.heap.push { cls:=.type "slice",data:=.fields #[vl,vu,.none] } } σ H3 x v vl vu l u s3.heap.objs.size Q I4 r1 (Heap.IsSliceOf.new ..) pl pu q3;show wpAny (model X.prog X.w) X.A (subscriptTail e (.Slice lo hi none p2) v (.ref s3.heap.objs.size)) (EP X pins σ Q) X.xe { s3 with heap:=s3.heap.push { cls:=.type "slice",data:=.fields #[vl,vu,.none] } };exact tail_any (ops:=[.ref s3.heap.objs.size,v]) ht hT hg (by with_unfolding_all rfl)
def cutV (xs:List V) (lo hi:Option Int):List V:=(xs.drop (HT.sIx xs.length 0 lo)).take (HT.sIx xs.length xs.length hi - HT.sIx xs.length 0 lo)
theorem ziT (xs:List V) (lo hi:Option Int):(cutV xs lo hi).length<=xs.length:=by
 unfold cutV;rw [Zq1,List.length_drop];omega
end
def ixN (n:Nat) (i:Int):Option Nat:=if 0<=i then (if i < n then some i.toNat else none) else if -(n:Int)<=i then some (i+n).toNat else none
def atI {α:Type}(xs:List α) (i:Int):Option α:=(ixN xs.length i).bind fun j=>xs[j]?
theorem zmg {n:Nat}{i:Int}{j:Nat}(h:ixN n i=some j):seqIndex? i n=some j/\j < n /\ -(n:Int)<=i/\i < n:=by
 unfold ixN at h;by_cases h0:0<=i
 ·rw [if_pos h0] at h
  by_cases h1:i < n
  ·rw [if_pos h1] at h
   have e:i.toNat=j:=Option.some.inj h;exact ⟨by rw [seqIndex_of h0 h1,e],by omega,by omega,h1⟩
  ·rw [if_neg h1] at h;cases h
 ·rw [if_neg h0] at h
  by_cases h1:-(n:Int)<=i
  ·rw [if_pos h1] at h
   have e:(i+n).toNat=j:=Option.some.inj h;exact ⟨by rw [seqIndex_neg (by omega) h1,e],by omega,h1,by omega⟩
  ·rw [if_neg h1] at h;cases h
theorem zmT {α:Type}{xs:List α}{i:Int}{v:α}(h:atI xs i=some v):∃j,seqIndex? i xs.length=some j/\xs[j]?=some v/\j < xs.length /\ -(xs.length:Int)<=i/\i < xs.length:=by
 unfold atI at h;cases e:ixN xs.length i with
 | none=>rw [e] at h;cases h
 | some j =>
  rw [e] at h;obtain ⟨h1,h2,h3,h4⟩:=zmg e;exact ⟨j,h1,h,h2,h3,h4⟩
def zmZ (b:Expr):Prop:=∀o i,subscripted b false o i=operate [o,i] (getItem o i)
def IxR (X:Cx) (r:R2):Prop :=
 ∀(value slice:Expr) (pins:List (Addr×Obj)) (s:Shared) (σ:St) (H:Hp) (x y:V) (v u:Value) (Q:VK),Inv X pins σ H s->RelV x v->RelV y u->r x y H Q ->
  subscripted slice false v u=operate [v,u] (getItem v u)->wpAny (model X.prog X.w) X.A (subscriptTail value slice v u) (EP X pins σ Q) X.xe s
def MtR (X:Cx) (id:String) (r:V->List V->Hp->VK->Prop):Prop :=
 ∀(pins:List (Addr×Obj)) (s:Shared) (σ:St) (H:Hp) (x:V) (xs:List V) (v:Value) (us:List Value) (Q:VK),Inv X pins σ H s->RelV x v->Vals xs us->r x xs H Q ->
  wpAny (model X.prog X.w) X.A (call (.builtin id) (v::us)) (EP X pins σ Q) X.xe s
section
variable {X:Cx}{a b:Expr}{ta tb:TE}{pos:Pos}
theorem zwk {r:R2}(hr:IxR X r) (ha:PE X a ta) (hb:PE X b tb) (hs:zmZ b):PE X (.Subscript a b pos) (tOp r ta tb):=by
 intro pins s σ H Q I h;exact Subscript_ (binT ha hb I h fun v u s2 x y H2 I2 rx ry q=>hr a b pins s2 σ H2 x y v u Q I2 rx ry q (hs _ _))
def rIxL (K:PySem.W.Frag):R2:=fun x y H Q=>∃p xs i v,x=.ref p/\y=.int i/\SqL K H p xs/\atI xs i=some v/\Q v H
def rIxT (K:PySem.W.Frag):R2:=fun x y H Q=>∃p xs i v,x=.ref p/\y=.int i/\SqT K H p xs/\atI xs i=some v/\Q v H
theorem zrd:IxR X (rIxL X.K):=by
 intro value slice pins s σ H x y v u Q I rx ry h hs;obtain ⟨p,xs,i,z,rfl,rfl,hq,he,q⟩:=h;cases rx;obtain ⟨t,rfl⟩:=ry;obtain ⟨its,r,pl,hz⟩:=I.list hq;obtain ⟨j,h1,h2,h3,h4,h5⟩:=zmT he;obtain ⟨w,ew,rw'⟩:=r.get h2;have hl:=r.length;have hn:=zhW;have fin:EP X pins σ Q w s:=⟨z,H,I,rw',q⟩
 by_cases h0:0<=i
 ·have hj:i.toNat=j:=by
   rw [seqIndex_of h0 h5] at h1;exact Option.some.inj h1
  exact item_listR pl.isList h0 (by omega) (by rw [hj];simpa using ew) fin hs
 ·have hj:(i + (its.toArray.size:Int)).toNat=j:=by
   rw [seqIndex_neg (by omega) h4] at h1;rw [Zm,<- hl];exact Option.some.inj h1
  exact subscriptTail_builtinR (x:=w) pl.isList.typeIs slot_list_getitem.lookup
   (wpAny_getItem_list_neg (Q:=fun r s'=>r=w/\EP X pins σ Q r s') pl.isList (by omega) (by rw [Zm]<;>omega) (by omega) (by rw [hj];simpa using ew) ⟨rfl,fin⟩) hs
theorem zui:IxR X (rIxT X.K):=by
 intro value slice pins s σ H x y v u Q I rx ry h hs;obtain ⟨p,xs,i,z,rfl,rfl,hq,he,q⟩:=h;cases rx;obtain ⟨t,rfl⟩:=ry;obtain ⟨its,r,pl,hz⟩:=I.tuple hq;obtain ⟨j,h1,h2,h3,h4,h5⟩:=zmT he;obtain ⟨w,ew,rw'⟩:=r.get h2;have hl:=r.length;have hn:=zhW;have fin:EP X pins σ Q w s:=⟨z,H,I,rw',q⟩
 exact subscriptTail_builtinR (x:=w) pl.typeIs slot_tuple_getitem.lookup
  (getItem_tuple (j:=j) (Q:=fun r s'=>r=w/\EP X pins σ Q r s') pl (by omega) (by omega) (by rw [Zm,<- hl];exact h1) (by simpa using ew) ⟨rfl,fin⟩) hs
theorem zko (its:List Value) (n j:Nat) (u:Value):Obj.mapSeq (·.setIfInBounds j u) { cls:=.type "list",data:=.seq its.toArray n } = { cls:=.type "list",data:=.seq (its.set j u).toArray n }:=by
 simp [Obj.mapSeq]
theorem Inv.lst {pins:List (Addr×Obj)}{σ:St}{H:Hp}{s:Shared}{p:Addr}{xs:List V}(I:Inv X pins σ H s) (h:H p=some (.lst xs)) :
  ∃(its:List Value) (n:Nat),Vals xs its/\s.heap.get? p=some { cls:=.type "list",data:=.seq its.toArray n }/\xs.length<=sizeLine:=by
 obtain ⟨z,its,n,r,e⟩:=I.hok p _ h;exact ⟨its,n,r,e,z⟩
theorem Inv.lstUpd {pins:List (Addr×Obj)}{σ:St}{H:Hp}{s:Shared}{p:Addr}{xs ys:List V}{its its':List Value}{n n':Nat}{f:Obj->Obj}(I:Inv X pins σ H s) (h:H p=some (.lst xs))
  (ho:s.heap.get? p=some { cls:=.type "list",data:=.seq its.toArray n }) (hf:f { cls:=.type "list",data:=.seq its.toArray n } = { cls:=.type "list",data:=.seq its'.toArray n' }) (r:Vals ys its') (hz:ys.length<=sizeLine) (t:Nat) :
  Inv X pins σ (upd H p (.lst ys)) { s with heap:=s.heap.update p f,toks:=t }:=by
 have e:(s.heap.update p f).get? p=some { cls:=.type "list",data:=.seq its'.toArray n' }:=by
  rw [Heap.get?_update_self f ho (by rw [hf]<;>rfl),hf]
 refine I.write (x:=p) (e:=p) (by rw [h];trivial) (.inl rfl) (fun b u hb q=>(Heap.get?_update_other _ _ (Ne.symm hb)).trans q) ⟨_,e⟩ ?_;exact ⟨hz,its',n',r,e⟩
def zqs:V->V->V->Hp->(Hp->Prop)->Prop:=fun o i v H Q=>∃p xs k j,o=.ref p/\i=.int k/\H p=some (.lst xs)/\ixN xs.length k=some j/\Q (upd H p (.lst (xs.set j v)))
theorem set_list:PSet X zqs:=by
 intro pins s σ H o i v ov iv u Q I ro ri rv h;obtain ⟨p,xs,k,j,rfl,rfl,hp,hj,q⟩:=h;cases ro;obtain ⟨t,rfl⟩:=ri;obtain ⟨its,n,r,ho,hz⟩:=I.lst hp;obtain ⟨h1,h2,h3,h4⟩:=zmg hj;have hl:=r.length;have hn:=zhW;have I':Inv X pins σ (upd H p (.lst (xs.set j v))) { s with heap:=s.heap.update p (Obj.mapSeq (·.setIfInBounds j u)) } :=
  I.lstUpd hp ho (zko its n j u) (r.set rv j) (by rw [List.length_set];exact hz) s.toks
 by_cases h0:0<=k
 ·have hk:k.toNat=j:=by
   rw [seqIndex_of h0 h4] at h1;exact Option.some.inj h1
  exact PySem.W.ki_setAt ho h0 (by omega) (by rw [Zm,<- hl];exact h4) (by rw [hk];exact ⟨_,I',q⟩)
 ·have hk:(k + (its.toArray.size:Int)).toNat=j:=by
   rw [seqIndex_neg (by omega) h3] at h1;rw [Zm,<- hl];exact Option.some.inj h1
  exact PySem.W.ki_setBack ho (by omega) (by rw [Zm,<- hl];exact h3) (by omega) (by rw [hk];exact ⟨_,I',q⟩)
theorem zhh (lo hi:Option Int) (n:Nat):(sliceBounds lo hi none n).1=((HT.sIx n 0 lo:Nat):Int)/\(sliceBounds lo hi none n).2.1=((HT.sIx n n hi:Nat):Int)/\(sliceBounds lo hi none n).2.2=1:=by
 refine ⟨?_,?_,rfl⟩
 ·cases lo with
  | none=>simp [sliceBounds,HT.sIx]
  | some i =>
   simp only [sliceBounds,HT.sIx,Option.getD_none,show (1:Int) > 0 by decide,if_true];by_cases h:i < 0
   ·simp only [h,if_true]<;>omega
   ·simp only [h,if_false]<;>omega
 ·cases hi with
  | none=>simp [sliceBounds,HT.sIx]
  | some i =>
   simp only [sliceBounds,HT.sIx,Option.getD_none,show (1:Int) > 0 by decide,if_true];by_cases h:i < 0
   ·simp only [h,if_true]<;>omega
   ·simp only [h,if_false]<;>omega
theorem zgr (its:List Value) (lo hi:Option Int):slicePick its.toArray lo hi none=((its.drop (HT.sIx its.length 0 lo)).take (HT.sIx its.length its.length hi - HT.sIx its.length 0 lo)).toArray:=by
 obtain ⟨h1,h2,h3⟩:=zhh lo hi its.toArray.size;unfold slicePick;rw [h1,h2,h3];simp only [sliceRange_one,pick_run,Zm]<;>rfl
def rSlL (K:PySem.W.Frag):V->Option Int->Option Int->Hp->VK->Prop:=fun x lo hi H Q=>∃a xs,x=.ref a/\SqL K H a xs /\ ∀p,H p=none->Q (.ref p) (upd H p (.lst (cutV xs lo hi)))
theorem zqa:SlR X (rSlL X.K):=by
 intro pins s σ H x v vl vu lo hi sl Q I rx hs pl pu h;obtain ⟨a,xs,rfl,hx,q⟩:=h;cases rx;obtain ⟨its,r,ht,hz⟩:=I.list hx;have hlen:=r.length;refine ⟨"list",_,slot_list_getitem.lookup,ht.isList.typeIs,?_⟩;refine wpAny_getItem_list_slice ht.isList hs pl pu .none (by simp) ?_ (by rw [Zm]<;>omega);rw [zgr,<- hlen];refine ⟨.ref s.heap.objs.size,_,I.laid (t':=s.toks) (o:=.lst (cutV xs lo hi)) (fun b ob q=>Heap.get?_push_of_some _ q) (Nat.le_refl _) ?_,rfl,q _ (I.hok.fresh (Nat.le_refl _))⟩;exact ⟨Nat.le_trans (ziT xs lo hi) hz,_,0,(r.drop (HT.sIx xs.length 0 lo)).take (HT.sIx xs.length xs.length hi - HT.sIx xs.length 0 lo),Heap.get?_push_size _ rfl⟩
def zfK:V->Bool
 | .non=>true
 | .bl _=>true
 | .int _=>true
 | .str _=>true
 | _=>false
def eqV:V->V->Bool
 | .non,.non=>true
 | .bl a,.bl b=>a==b
 | .bl a,.int b=>(if a then 1 else 0)==b
 | .int a,.bl b=>a==(if b then 1 else 0)
 | .int a,.int b=>a==b
 | .str a,.str b=>a==b
 | _,_=>false
theorem zus {A:Around}{s:Shared}{y x:V}{u v:Value}(ry:RelV y u) (rx:RelV x v) (fy:zfK y=true) (fx:zfK x=true):SeqAt.EqAt A s u v (eqV y x):=by
 cases y with
 | non =>
  cases ry;cases x with
  | non=>cases rx;exact SeqAt.EqAt.same _
  | bl b=>cases rx;exact SeqAt.EqAt.none_bool b
  | int b=>obtain ⟨t,rfl⟩:=rx;exact SeqAt.EqAt.none_int b t
  | str b=>obtain ⟨t,rfl⟩:=rx;exact SeqAt.EqAt.none_str b t
  | _=>exact absurd (show false=true from fx) Zl
 | bl a =>
  cases ry;cases x with
  | non=>cases rx;exact SeqAt.EqAt.bool_none a
  | bl b=>cases rx;exact SeqAt.EqAt.bool_bool a b
  | int b=>obtain ⟨t,rfl⟩:=rx;exact SeqAt.EqAt.bool_int a b t
  | str b=>obtain ⟨t,rfl⟩:=rx;exact SeqAt.EqAt.bool_str a b t
  | _=>exact absurd (show false=true from fx) Zl
 | int a =>
  obtain ⟨t',rfl⟩:=ry;cases x with
  | non=>cases rx;exact SeqAt.EqAt.int_none a t'
  | bl b=>cases rx;exact SeqAt.EqAt.int_bool a t' b
  | int b=>obtain ⟨t,rfl⟩:=rx;exact SeqAt.EqAt.int_int a t' b t
  | str b=>obtain ⟨t,rfl⟩:=rx;exact SeqAt.EqAt.int_str a t' b t
  | _=>exact absurd (show false=true from fx) Zl
 | str a =>
  obtain ⟨t',rfl⟩:=ry;cases x with
  | non=>cases rx;exact SeqAt.EqAt.str_none a t'
  | bl b=>cases rx;exact SeqAt.EqAt.str_bool a t' b
  | int b=>obtain ⟨t,rfl⟩:=rx;exact SeqAt.EqAt.str_int a t' b t
  | str b=>obtain ⟨t,rfl⟩:=rx;exact SeqAt.EqAt.str_str a t' b t
  | _=>exact absurd (show false=true from fx) Zl
 | _=>exact absurd (show false=true from fy) Zl
def eqU (x:V) (u:Value):Bool:=match u with
 | .none=>eqV .non x
 | .bool b=>eqV (.bl b) x
 | .int i _=>eqV (.int i) x
 | .str z _=>eqV (.str z) x
 | _=>false
theorem zpc {x y:V}{u:Value}(r:RelV y u) (f:zfK y=true):eqU x u=eqV y x:=by
 cases y with
 | non=>cases r;rfl
 | bl b=>cases r;rfl
 | int i=>obtain ⟨t,rfl⟩:=r;rfl
 | str z=>obtain ⟨t,rfl⟩:=r;rfl
 | _=>exact absurd (show false=true from f) Zl
theorem zfr {x:V}:∀{xs:List V}{us:List Value},Vals xs us->xs.all zfK=true->us.any (eqU x)=xs.any fun y=>eqV y x
 | _,_,.nil,_=>rfl
 | y::xs,u::us,.cons r t,f=>by
  rw [List.all_cons,Zc1] at f;rw [List.any_cons,List.any_cons,zpc r f.1,zfr t f.2]
theorem zdx {A:Around}{s:Shared}{x:V}{v:Value}(rx:RelV x v) (fx:zfK x=true):∀{xs:List V}{us:List Value},Vals xs us->xs.all zfK=true -> ∀u∈us,SeqAt.EqAt A s u v (eqU x u)
 | _,_,.nil,_=>fun u hu=>by cases hu
 | y::xs,u::us,.cons r t,f=>fun u' hu=>by
  rw [List.all_cons,Zc1] at f;rcases Zk.mp hu with rfl|hu
  ·rw [zpc r f.1];exact zus r rx f.1 fx
  ·exact zdx rx fx t f.2 u' hu
def inV (x:V) (xs:List V):Bool:=xs.any fun y=>eqV y x
def rIn (K:PySem.W.Frag) (neg:Bool):R2:=fun x y H Q=>∃p xs,y=.ref p/\(SqL K H p xs\/SqT K H p xs)/\zfK x=true/\xs.all zfK=true/\Q (.bl (if neg then !inV x xs else inV x xs)) H
theorem zlJ:OpR X (compareOp .In) (rIn X.K false):=by
 intro pins s σ H x y v u Q I rx ry h;obtain ⟨p,xs,rfl,hq,fx,fs,q⟩:=h;cases ry;rcases hq with hq|hq
 ·obtain ⟨its,r,pl,hz⟩:=I.list hq
  refine SeqAt.in_listAt (eqU x) pl.isList (fun w hw=>zdx rx fx r fs w (by simpa using hw)) ⟨.bl _,H,I,rfl,?_⟩;rw [show its.toArray.any (eqU x)=its.any (eqU x) by simp,zfr r fs];exact q
 ·obtain ⟨its,r,pl,hz⟩:=I.tuple hq
  refine SeqAt.in_tupleAt (eqU x) pl (fun w hw=>zdx rx fx r fs w (by simpa using hw)) ⟨.bl _,H,I,rfl,?_⟩;rw [show its.toArray.any (eqU x)=its.any (eqU x) by simp,zfr r fs];exact q
theorem zhM:OpR X (compareOp .NotIn) (rIn X.K true):=by
 intro pins s σ H x y v u Q I rx ry h;obtain ⟨p,xs,rfl,hq,fx,fs,q⟩:=h;cases ry;rcases hq with hq|hq
 ·obtain ⟨its,r,pl,hz⟩:=I.list hq
  refine SeqAt.notIn_listAt (eqU x) pl.isList (fun w hw=>zdx rx fx r fs w (by simpa using hw)) ⟨.bl _,H,I,rfl,?_⟩;rw [show its.toArray.any (eqU x)=its.any (eqU x) by simp,zfr r fs];exact q
 ·obtain ⟨its,r,pl,hz⟩:=I.tuple hq
  refine SeqAt.notIn_tupleAt (eqU x) pl (fun w hw=>zdx rx fx r fs w (by simpa using hw)) ⟨.bl _,H,I,rfl,?_⟩;rw [show its.toArray.any (eqU x)=its.any (eqU x) by simp,zfr r fs];exact q
theorem zii:zbL X (.builtin "len") (fun xs H Q=>∃p ys,xs = [.ref p]/\(SqL X.K H p ys\/SqT X.K H p ys)/\Q (.int ys.length) H):=by
 intro pins s σ H xs us Q I r h;obtain ⟨p,ys,rfl,hq,q⟩:=h;obtain ⟨u,rfl,rx⟩:=vals1 r;cases rx;have hn:=zhW;rcases hq with hq|hq
 ·obtain ⟨its,r',pl,hz⟩:=I.list hq
  have hlen:=r'.length;exact Calls.call_len_list pl.isList (by simp only [Zm]<;>omega) ⟨.int ys.length,H,I.tok _,⟨s.toks+1,by rw [Zm,hlen]⟩,q⟩
 ·obtain ⟨its,r',pl,hz⟩:=I.tuple hq
  have hlen:=r'.length;exact len_tuple pl (by simp only [Zm]<;>omega) ⟨.int ys.length,H,I.tok _,⟨s.toks+1,by rw [Zm,hlen]⟩,q⟩
theorem zih:zbL X (.builtin "len") (fun xs H Q=>∃z,xs = [.str z]/\z.length<=sizeLine/\Q (.int z.length) H):=by
 intro pins s σ H xs us Q I r h;obtain ⟨z,rfl,hz,q⟩:=h;obtain ⟨u,rfl,t,rfl⟩:=vals1 r;have hn:=zhW;exact len_str (by omega) ⟨.int z.length,H,I.tok _,⟨_,rfl⟩,q⟩
theorem zig:zbL X (.type "list") (fun xs H Q=>∃p ys,xs = [.ref p]/\(SqL X.K H p ys\/SqT X.K H p ys) /\ ∀l,H l=none->Q (.ref l) (upd H l (.lst ys))):=by
 intro pins s σ H xs us Q I r h;obtain ⟨p,ys,rfl,hq,q⟩:=h;obtain ⟨u,rfl,rx⟩:=vals1 r;cases rx;have fin:∀(its:List Value),Vals ys its->ys.length<=sizeLine -> ∀(h':Heap) (c':Nat),(∀b o',s.heap.get? b=some o' -> h'.get? b=some o') ->
   h'.get? s.heap.objs.size=some { cls:=.type "list",dict:=none,data:=.seq its.toArray c',slots:=#[] }->EP X pins σ Q (.ref s.heap.objs.size) { s with heap:=h' }:=fun its r' hz h' c' kp e =>
  ⟨.ref s.heap.objs.size,_,I.laid (t':=s.toks) kp (Nat.le_refl _) (show za4 X.prog X.w _ h' _ (.lst ys) from ⟨hz,its,c',r',e⟩),rfl,q _ (I.hok.fresh (Nat.le_refl _))⟩
 rcases hq with hq|hq
 ·obtain ⟨its,r',pl,hz⟩:=I.list hq
  have hlen:=r'.length;obtain ⟨o,ho,hc,n,hd⟩:=pl.isList;exact call_list_seq p (.inl rfl) ho hc hd (fun h' c' kp e=>fin its r' hz h' c' kp e) (by simp only [Zm]<;>omega)
 ·obtain ⟨its,r',pl,hz⟩:=I.tuple hq
  have hlen:=r'.length;obtain ⟨o,ho,hc,n,hd⟩:=pl;exact call_list_seq p (.inr rfl) ho hc hd (fun h' c' kp e=>fin its r' hz h' c' kp e) (by simp only [Zm]<;>omega)
theorem zg1:zbL X (.type "tuple") (fun xs H Q=>∃p ys,xs = [.ref p]/\((SqL X.K H p ys /\ ∀l,H l=none->Q (.ref l) (upd H l (.tup ys)))\/(SqT X.K H p ys/\Q (.ref p) H))):=by
 intro pins s σ H xs us Q I r h;obtain ⟨p,ys,rfl,h⟩:=h;obtain ⟨u,rfl,rx⟩:=vals1 r;cases rx;rcases h with ⟨hq,q⟩|⟨hq,q⟩
 ·obtain ⟨its,r',pl,hz⟩:=I.list hq
  have hlen:=r'.length;refine call_tuple_list pl.isList (fun h' kp=>?_) (by simp only [Zm]<;>omega);have I1:Inv X pins σ H { s with heap:=h' }:=I.kept (t':=s.toks) kp;have I2:Inv X pins σ (upd H h'.objs.size (.tup ys)) { s with heap:=h'.push { cls:=.type "tuple",data:=.seq its.toArray } } :=
   I1.laid (t':=s.toks) (fun b o e=>Heap.get?_push_of_some _ e) (Nat.le_refl _) (show za4 X.prog X.w _ _ _ (.tup ys) from ⟨hz,its,r',IsTup.new _ _⟩)
  exact ⟨.ref h'.objs.size,_,I2,rfl,q _ (I1.hok.fresh (Nat.le_refl _))⟩
 ·obtain ⟨its,r',pl,hz⟩:=I.tuple hq
  exact call_tuple_same pl ⟨.ref p,H,I,rfl,q⟩
def tyV (K:PySem.W.Frag) (T:String) (x:V) (H:Hp):Prop:=match x with
 | .str _=>T = "str"
 | .int _=>T = "int"
 | .ref p=>(T = "list" /\ ∃xs,SqL K H p xs)\/(T = "tuple" /\ ∃o,K.lookup p=some o/\o.cls=.type "tuple" /\ o.dict=none) \/
   (T = "dict" /\ ((∃kvs,H p=some (.dK kvs)) \/ ∃kvs,H p=some (.dT kvs)))\/(T = "set" /\ ∃S n,H p=some (.set S n))
 | _=>False
theorem zsB {pins:List (Addr×Obj)}{σ:St}{H:Hp}{s:Shared}{T:String}{x:V}{v:Value}(I:Inv X pins σ H s) (r:RelV x v) (ty:tyV X.K T x H) :
  s.TypeIs v T /\ ∀a,v=.ref a -> ∃ob,s.heap.get? a=some ob/\ob.dict=none:=by
 cases x with
 | str z =>
  obtain ⟨t,rfl⟩:=r;cases (show T = "str" from ty);exact ⟨typeIs_str s z t,fun _ e=>nomatch e⟩
 | int i =>
  obtain ⟨t,rfl⟩:=r;cases (show T = "int" from ty);exact ⟨typeIs_int s i t,fun _ e=>nomatch e⟩
 | ref p =>
  cases r;rcases ty with ⟨rfl,xs,hq⟩|⟨rfl,o,hk,hc,hd⟩|⟨rfl,hk⟩|⟨rfl,S,n,hk⟩
  ·obtain ⟨its,_,pl,_⟩:=I.list hq
   refine ⟨pl.isList.typeIs,fun a e=>?_⟩;cases e;obtain ⟨o,n,e,c,hd,_⟩:=pl;exact ⟨o,e,hd⟩
  ·refine ⟨⟨o,I.kIn p o hk,hc⟩,fun a e=>?_⟩
   cases e;exact ⟨o,I.kIn _ o hk,hd⟩
  ·have z:∃o,s.heap.get? p=some o/\o.ExactDict:=by
    rcases hk with ⟨kvs,hk⟩|⟨kvs,hk⟩
    ·obtain ⟨_,_,_,_,o,_,_,e,ex,_⟩:=I.hok p _ hk
     exact ⟨o,e,ex⟩
    ·obtain ⟨_,_,_,_,o,_,_,e,ex,_⟩:=I.hok p _ hk
     exact ⟨o,e,ex⟩
   obtain ⟨o,e,ex⟩:=z;refine ⟨⟨o,e,ex.1⟩,fun a e2=>?_⟩;cases e2;exact ⟨o,e,ex.2.1⟩
  ·obtain ⟨o,_,_,_,e,ex,_⟩:=I.hok p _ hk
   refine ⟨⟨o,e,ex.1⟩,fun a e2=>?_⟩;cases e2;exact ⟨o,e,ex.2.1⟩
 | _=>exact False.elim ty
def tBM (K:PySem.W.Frag) (T:String) (r:V->List V->Hp->VK->Prop) (to:TE) (t:TA):TE:=fun σ H Q=>to σ H fun x H1=>tyV K T x H1/\t σ H1 fun xs H2=>r x xs H2 Q
variable {o e:Expr}{es:List Expr}{to:TE}{t:TA}{name:Str}{apos cpos:Pos}{T id:String}{r:V->List V->Hp->VK->Prop}
theorem zwl (pa:PlainAttrs T) (slot:Slot T name id) (hty:typeOf (.builtin id)=pure (.type "method_descriptor")) (hm:MtR X id r) (ho:PE X o to) (ha:PA X (e::es) t)
  (hbase:attributeBase o name X.env (eval o X.env)=eval o X.env:=by rfl)
  (hfew:((backTo cpos (starEach (e::es) X.env)).all (fun x=>!x.1)&&(backToKw cpos (keywordEach [] X.env)).all (fun x=>x.1.isSome)
   && decide ((e::es).length + ([]:List Keyword).length + (if ([]:List Keyword).isEmpty then 0 else 1) < 30))=true:=by rfl)
  (hline:(apos.endLine==cpos.line)=true:=by rfl) (hs:starEach (e::es) X.env=(false,eval e X.env)::starEach es X.env:=by rfl) (hplain:(backTo cpos (starEach es X.env)).any (·.1)=false:=by rfl) :
  PE X (.Call (.Attribute o name apos) (e::es) [] cpos) (tBM X.K T r to t):=by
 intro pins s σ H Q I h;refine wpAny_Call_method_late hbase hfew hline rfl (thn (ho pins s σ H _ I h) fun v s1 ⟨x,H1,I1,r1,ty,q1⟩=>?_);obtain ⟨h1,h2⟩:=zsB I1 r1 ty;refine ⟨T,id,pa,slot,hty,h1,h2,?_⟩;have hA:=ha cpos pins s1 σ H1 _ I1 q1;rw [hs] at hA ⊢;refine Calls.callWith_builtin (by show (false || (backTo cpos (starEach es X.env)).any (·.1))=false;rw [hplain]<;>rfl) (Calls.evalArgs_plain ?_);exact thn hA fun us s2 ⟨vs,H2,I2,r2,q2⟩=>hm pins s2 σ H2 x vs v us Q I2 r1 r2 q2
end
def MtM (X:Cx) (id:String) (r:V->List V->Hp->VK->Prop):Prop :=
 ∀(pins:List (Addr×Obj)) (s:Shared) (σ:St) (H:Hp) (x:V) (xs:List V) (v:Value) (us:List Value) (Q:VK),Inv X pins σ H s->RelV x v->Vals xs us->r x xs H Q ->
  wpAny (model X.prog X.w) X.A (call (.builtin id) (v::us)) (EP X pins σ Q) X.xe s
theorem Vals.one:∀{x:V}{us:List Value},Vals [x] us -> ∃u,us = [u]/\RelV x u
 | _,_,.cons r .nil=>⟨_,rfl,r⟩
theorem Vals.reverse {xs:List V}{us:List Value}(h:Vals xs us):Vals xs.reverse us.reverse:=by
 induction h with
 | nil=>exact .nil
 | cons r t ih=>rw [List.reverse_cons,List.reverse_cons];exact Vals.append ih (.cons r .nil)
theorem Vals.rep {xs:List V}{us:List Value}(h:Vals xs us):∀k:Nat,Vals (List.replicate k xs).flatten (List.replicate k us).flatten
 | 0=>.nil
 | k+1=>by
  rw [List.replicate_succ,List.replicate_succ,List.flatten_cons,List.flatten_cons];exact Vals.append h (Vals.rep h k)
theorem foldl_rep (its:List Value):∀(k:Nat) (acc:List Value),
  List.foldl (fun x1 x2=>x1++x2) acc.toArray (List.replicate k its.toArray)=(acc++(List.replicate k its).flatten).toArray
 | 0,acc=>by simp
 | k+1,acc=>by
  have e:acc.toArray++its.toArray=(acc++its).toArray:=by simp
  have e2:(acc++its)++(List.replicate k its).flatten=acc++(List.replicate (k+1) its).flatten:=by
   rw [List.replicate_succ,List.flatten_cons,Zb1]
  rw [<- e2,<- foldl_rep its k (acc++its),<- e,List.replicate_succ,List.foldl_cons]
section
variable {X:Cx}{pins:List (Addr×Obj)}{σ:St}{H:Hp}{s:Shared}{l b:Addr}{xs ys zs:List V}
theorem Inv.lset {its its':List Value}{n:Nat}{f:Array Value->Array Value}{t':Nat}(I:Inv X pins σ H s) (hH:H l=some (.lst xs))
  (e:s.heap.get? l=some { cls:=.type "list",data:=.seq its.toArray n }) (hf:f its.toArray=its'.toArray) (hv:Vals ys its') (hz:ys.length<=sizeLine) :
  Inv X pins σ (upd H l (.lst ys)) { s with heap:=s.heap.update l (Obj.mapSeq f),toks:=t' }:=by
 have q:=PySem.IsL.update e f;rw [hf] at q;refine I.write (x:=l) (e:=l) (by rw [hH];exact trivial) (.inl rfl) (fun b' u hb hu=>(Heap.get?_update_other s.heap (Obj.mapSeq f) (Ne.symm hb)).trans hu) ⟨_,q⟩ ?_;exact ⟨hz,its',_,hv,q⟩
theorem Inv.lnew {its:List Value}{t':Nat}(I:Inv X pins σ H s) (hv:Vals ys its) (hz:ys.length<=sizeLine) :
  Inv X pins σ (upd H s.heap.objs.size (.lst ys)) { s with heap:=s.heap.push { cls:=.type "list",data:=.seq its.toArray },toks:=t' } :=
 I.laid (fun _ _ q=>Heap.get?_push_of_some _ q) (Nat.le_refl _) ⟨hz,its,0,hv,Heap.get?_push_size _ rfl⟩
theorem Inv.fresh (I:Inv X pins σ H s):H s.heap.objs.size=none:=I.hok.fresh (Nat.le_refl _)
theorem Inv.lstM (I:Inv X pins σ H s) (hH:H l=some (.lst xs)):xs.length<=sizeLine /\ ∃(its:List Value) (n:Nat),Vals xs its/\xs.length=its.length/\s.heap.get? l=some { cls:=.type "list",data:=.seq its.toArray n }:=by
 obtain ⟨z,its,n,r,e⟩:=I.hok l _ hH;exact ⟨z,its,n,r,r.length,e⟩
theorem zjq {n:Nat}(h:n<=sizeLine):Builtin.List.listTooLong n=false:=by
 unfold Builtin.List.listTooLong;exact Zo (by omega)
end
section
variable {X:Cx}
def ziA:V->List V->Hp->VK->Prop:=fun x vs H Q=>∃l xs y,x=.ref l/\vs = [y]/\H l=some (.lst xs)/\xs.length < sizeLine/\Q .non (upd H l (.lst (xs++[y])))
theorem zhV:MtM X "list.append" ziA:=by
 intro pins s σ H x vs v us Q I rx rv h;obtain ⟨l,xs,y,rfl,rfl,hH,hz,q⟩:=h;cases rx;obtain ⟨u,rfl,ru⟩:=rv.one;obtain ⟨z,its,n,r,hl,e⟩:=I.lstM hH;refine call_meets F.slot_list_append ⟨_,e,rfl⟩ F.entry_list_append (F.args_list_append_2 _ _) (PySem.list_append l its.toArray n u (by rw [Zm];omega)) ⟨e,?_⟩;refine ⟨.non,_,I.lset (its':=its++[u]) hH e (by simp) (r.append (.cons ru .nil)) ?_,rfl,q⟩;rw [Zp,Zx];omega
def zlh:V->List V->Hp->VK->Prop:=fun x vs H Q=>∃l b xs zs,x=.ref l/\vs = [.ref b]/\H l=some (.lst xs)/\H b=some (.lst zs)/\xs.length+zs.length<=sizeLine/\Q .non (upd H l (.lst (xs++zs)))
theorem zlT:MtM X "list.extend" zlh:=by
 intro pins s σ H x vs v us Q I rx rv h;obtain ⟨l,b,xs,zs,rfl,rfl,hH,hB,hz,q⟩:=h;cases rx;obtain ⟨u,rfl,ru⟩:=rv.one;cases ru;obtain ⟨z,its,n,r,hl,e⟩:=I.lstM hH;obtain ⟨z2,its2,n2,r2,hl2,e2⟩:=I.lstM hB;have hsz:its.toArray.size+its2.toArray.size<=sizeLine:=by rw [Zm,Zm];omega
 have hlong:¬(!its.toArray.isEmpty&&Builtin.List.listTooLong (its.toArray.size+its2.toArray.size))=true:=by
  rw [zjq hsz,Bool.and_false];exact Zl
 refine call_meets F.slot_list_extend ⟨_,e,rfl⟩ F.entry_list_extend (F.args_list_extend_2 _ _)
  (AutoSeq1.list_extend_list_list_0 l its.toArray n b its2.toArray n2 hlong (by rw [Zm];omega) (by omega)) ⟨e,e2,?_⟩
 refine ⟨.non,_,I.lset (its':=its++its2) hH e (by simp) (r.append r2) ?_,rfl,q⟩;rw [Zp];omega
def rCat:R2:=fun x y H Q=>∃l b xs zs,x=.ref l/\y=.ref b/\H l=some (.lst xs)/\H b=some (.lst zs)/\xs.length+zs.length<=sizeLine /\ ∀p,H p=none->Q (.ref p) (upd H p (.lst (xs++zs)))
theorem zt0:OpR X (binaryOp .Add) rCat:=by
 intro pins s σ H x y v u Q I rx ry h;obtain ⟨l,b,xs,zs,rfl,rfl,hH,hB,hz,q⟩:=h;cases rx;cases ry;obtain ⟨z,its,n,r,hl,e⟩:=I.lstM hH;obtain ⟨z2,its2,n2,r2,hl2,e2⟩:=I.lstM hB;refine PySem.P.add_list e e2 ?_ (by rw [Zm,Zm];omega);have ea:its.toArray++its2.toArray=(its++its2).toArray:=by simp
 rw [ea];exact ⟨.ref _,_,I.lnew (t':=s.toks) (r.append r2) (by rw [Zp];omega),rfl,q _ I.fresh⟩
def rRep:R2:=fun x y H Q=>∃l k xs,x=.ref l/\y=.int k/\H l=some (.lst xs) /\ -(2 ^ 63)<=k/\k < 2 ^ 63/\xs.length * k.toNat<=sizeLine /\
 ∀p,H p=none->Q (.ref p) (upd H p (.lst (List.replicate k.toNat xs).flatten))
theorem len_rep {α:Type}(xs:List α) (k:Nat):(List.replicate k xs).flatten.length=k * xs.length:=by
 induction k with
 | zero=>simp
 | succ k ih=>rw [List.replicate_succ,List.flatten_cons,Zp,ih,Nat.succ_mul,Nat.add_comm]
theorem ztX:OpR X (binaryOp .Mult) rRep:=by
 intro pins s σ H x y v u Q I rx ry h;obtain ⟨l,k,xs,rfl,rfl,hH,h1,h2,hz,q⟩:=h;cases rx;obtain ⟨t,rfl⟩:=ry;obtain ⟨z,its,n,r,hl,e⟩:=I.lstM hH;have hlen:its.toArray.size * k.toNat<=sizeLine:=by rw [Zm,<- hl];exact hz
 have hcap:¬its.toArray.size * k.toNat > (2 ^ 63 - 1) / 8:=by
  have:(sizeLine:Nat)<=(2 ^ 63 - 1) / 8:=by decide
  omega
 have hfit:¬(!Builtin.List.listFitsIndex k)=true:=by
  rw [fitsIndex_both h1 h2];exact Zl
 have hlong:¬Builtin.List.listTooLong (its.toArray.size * k.toNat)=true:=by
  rw [zjq hlen];exact Zl
 have hnew:List.foldl (fun x1 x2=>x1++x2) #[] (List.replicate (if its.toArray.isEmpty=true then 0 else k.toNat) its.toArray)=(List.replicate k.toNat its).flatten.toArray:=by
  have f0:∀m:Nat,List.foldl (fun x1 x2=>x1++x2) #[] (List.replicate m its.toArray)=(List.replicate m its).flatten.toArray:=fun m=>by
   have:=foldl_rep its m [];rw [List.nil_append] at this;exact this
  rw [f0];cases its with
  | nil=>simp
  | cons a r'=>rw [if_neg (by simp)]
 refine wpAny_binaryOp_repeat_ref (T:="list") (U:="int") (by decide) ⟨_,e,rfl⟩ (fun s'=>typeIs_int s' k t) noFill_list_mul F.fills_int_mul F.slot_int_rmul repeat_list F.slot_int_index.lookup
  (call_meets F.slot_int_rmul (typeIs_int s k t) F.entry_int_rmul (F.args_int_rmul_2 _ _) (int___rmul___int_list k t l its.toArray n)
   ⟨e,rfl,⟨_,e,rfl⟩,call_meets F.slot_list_mul ⟨_,e,rfl⟩ F.entry_list_mul (F.args_list_mul_2 _ _) (AutoListH.list___mul___list_int_3 l its.toArray n k t hfit hcap hlong) ⟨e,?_⟩⟩)
 rw [hnew];exact ⟨.ref _,_,I.lnew (t':=s.toks) (r.rep k.toNat) (by rw [len_rep,Nat.mul_comm];exact hz),rfl,q _ I.fresh⟩
end
section
variable {κ:Type} [DecidableEq κ]
def valV (kvs:List (κ×V)) (k:κ):Option V:=(kvs.find? fun kv=>decide (kv.1=k)).map (·.2)
def putK (kvs:List (κ×V)) (k:κ) (v:V):List (κ×V) :=
 if (kvs.any fun kv=>decide (kv.1=k))=true then kvs.map (fun kv=>if kv.1=k then (kv.1,v) else kv) else kvs++[(k,v)]
theorem zgi {p:κ×V}{r:List (κ×V)}{k:κ}(e:p.1=k):valV (p::r) k=some p.2:=by simp [valV,List.find?_cons,e]
theorem zgj {p:κ×V}{r:List (κ×V)}{k:κ}(e:¬p.1=k):valV (p::r) k=valV r k:=by simp [valV,List.find?_cons,e]
theorem zi5 (k:κ):∀kvs:List (κ×V),(kvs.any fun kv=>decide (kv.1=k))=(valV kvs k).isSome
 | []=>rfl
 | p::r=>by
  rw [List.any_cons];by_cases e:p.1=k
  ·simp only [zgi e,Zn e,Bool.true_or,Option.isSome_some]
  ·rw [zgj e,Zo e,Bool.false_or];exact zi5 k r
theorem zdc (kvs:List (κ×V)) (k:κ) (v:V):(putK kvs k v).length<=kvs.length+1:=by
 unfold putK;split
 ·rw [Zd];omega
 ·rw [Zp,Zq,List.length_nil];omega
theorem RelO.isSome_eq {o:Option V}{u:Option Value}(r:RelO o u):o.isSome=u.isSome:=by
 cases o with
 | none=>cases u with
  | none=>rfl
  | some _=>exact (show False from r).elim
 | some _=>cases u with
  | none=>exact (show False from r).elim
  | some _=>rfl
theorem KV.val {kvs:List (κ×V)}{vs:List (κ×Value)}(r:KV kvs vs) (k:κ):RelO (valV kvs k) (valueAt vs k):=by
 unfold KV at r
 induction r with
 | nil=>exact True.intro
 | @cons p q ps qs h t ih =>
  obtain ⟨h1,h2⟩:=h;by_cases e:p.1=k
  ·have e':q.1=k:=h1.symm.trans e
   have b:valueAt (q::qs) k=some q.2:=by simp [valueAt,List.find?_cons,e']
   rw [zgi e,b];exact h2
  ·have e':¬q.1=k:=fun z=>e (h1.trans z)
   have b:valueAt (q::qs) k=valueAt qs k:=by simp [valueAt,List.find?_cons,e']
   rw [zgj e,b];exact ih
theorem KV.any {kvs:List (κ×V)}{vs:List (κ×Value)}(r:KV kvs vs) (k:κ):(kvs.any fun kv=>decide (kv.1=k))=vs.any fun kv=>decide (kv.1=k):=by
 unfold KV at r
 induction r with
 | nil=>rfl
 | cons h t ih=>rw [List.any_cons,List.any_cons,ih,h.1]
theorem KV.repl {kvs:List (κ×V)}{vs:List (κ×Value)}(r:KV kvs vs) (k:κ) {y:V}{u:Value}(ry:RelV y u) :
  KV (kvs.map fun kv=>if kv.1=k then (kv.1,y) else kv) (vs.map fun kv=>if kv.1=k then (kv.1,u) else kv):=by
 unfold KV at r ⊢
 induction r with
 | nil=>exact .nil
 | @cons p q ps qs h t ih =>
  rw [Zh,Zh];refine .cons ?_ ih;obtain ⟨h1,h2⟩:=h;by_cases e:p.1=k
  ·rw [if_pos e,if_pos (h1.symm.trans e)];exact ⟨h1,ry⟩
  ·rw [if_neg e,if_neg (fun z=>e (h1.trans z))];exact ⟨h1,h2⟩
theorem KV.put {kvs:List (κ×V)}{vs:List (κ×Value)}(r:KV kvs vs) (k:κ) {y:V}{u:Value}(ry:RelV y u):KV (putK kvs k y) (stored vs k u):=by
 unfold putK stored;rw [r.any k];by_cases e:(vs.any fun kv=>decide (kv.1=k))=true
 ·rw [if_pos e,if_pos e];exact r.repl k ry
 ·rw [if_neg e,if_neg e];exact Paired.snoc r ⟨rfl,ry⟩
theorem KV.length {kvs:List (κ×V)}{vs:List (κ×Value)}(r:KV kvs vs):kvs.length=vs.length:=Paired.length r
end
theorem zku {P:Program}{w:World}{k:Key}{u:Value}(r:RelV (kV k) u):(zaE P w).is k u=true:=by
 cases k with
 | inl i=>obtain ⟨t,e⟩:=(show ∃t,u=Value.int i t from r);subst e;exact ziJ P w i t
 | inr x=>obtain ⟨t,e⟩:=(show ∃t,u=Value.str x t from r);subst e;exact ziI P w x t
theorem zh2 {P:Program}{w:World}:∀{ks:List Key}{us:List Value},Vals (ks.map kV) us->ItemsAre (zaE P w) ks us
 | [],_,r=>by rw [List.map_nil] at r;cases r;exact .nil
 | k::ks,_,r=>by
  rw [Zh] at r;cases r with
  | cons h t=>exact .cons (zku h) (zh2 t)
abbrev KT (H:Hp):List (List Key×V)->List (List Key×Addr×Value)->Prop:=Paired fun p q=>p.1=q.1/\H q.2.1=some (.tup (p.1.map kV))/\RelV p.2 q.2.2
theorem KT.val {H:Hp}{kvs:List (List Key×V)}{xs:List (List Key×Addr×Value)}(r:KT H kvs xs) (k:List Key):RelO (valV kvs k) ((atKey xs k).map (·.2)):=by
 induction r with
 | nil=>exact True.intro
 | @cons p q ps qs h t ih =>
  obtain ⟨h1,_,h2⟩:=h;by_cases e:p.1=k
  ·have e':q.1=k:=h1.symm.trans e
   have b:atKey (q::qs) k=some q.2:=by simp [atKey,List.find?_cons,e']
   rw [zgi e,b];exact h2
  ·have e':¬q.1=k:=fun z=>e (h1.trans z)
   have b:atKey (q::qs) k=atKey qs k:=by simp [atKey,List.find?_cons,e']
   rw [zgj e,b];exact ih
theorem KT.repl {H:Hp}{kvs:List (List Key×V)}{xs:List (List Key×Addr×Value)}(r:KT H kvs xs) (k:List Key) {y:V}{u:Value}(ry:RelV y u) :
  KT H (kvs.map fun kv=>if kv.1=k then (kv.1,y) else kv) (xs.map (putAt k u)):=by
 induction r with
 | nil=>exact .nil
 | @cons p q ps qs h t ih =>
  rw [Zh,Zh];refine .cons ?_ ih;obtain ⟨h1,h2,h3⟩:=h;unfold putAt;by_cases e:p.1=k
  ·rw [if_pos e,if_pos (h1.symm.trans e)];exact ⟨h1,h2,ry⟩
  ·rw [if_neg e,if_neg (fun z=>e (h1.trans z))];exact ⟨h1,h2,h3⟩
theorem KT.put {H:Hp}{kvs:List (List Key×V)}{xs:List (List Key×Addr×Value)}(r:KT H kvs xs) (k:List Key) {b:Addr}{y:V}{u:Value}(hb:H b=some (.tup (k.map kV))) (ry:RelV y u) :
  KT H (putK kvs k y) (storedH xs k b u):=by
 have e:(kvs.any fun kv=>decide (kv.1=k))=(atKey xs k).isSome:=by
  rw [zi5,(r.val k).isSome_eq,Zn1]
 unfold putK storedH;rw [e];by_cases q:(atKey xs k).isSome=true
 ·rw [if_pos q,if_pos q];exact r.repl k ry
 ·rw [if_neg q,if_neg q];exact Paired.snoc r ⟨rfl,hb,ry⟩
theorem KT.keeps {H H':Hp}{kvs:List (List Key×V)}{xs:List (List Key×Addr×Value)}(r:KT H kvs xs) (ht:∀b ys,H b=some (.tup ys)->H' b=some (.tup ys)):KT H' kvs xs :=
 Paired.mapP r fun _ _ z=>⟨z.1,ht _ _ z.2.1,z.2.2⟩
section
variable {P:Program}{w:World}{H:Hp}{h:Heap}{a:Addr}
theorem zsY {u:HO}(ok:HOk P w H h) (e:Rd H a u):za4 P w H h a u:=e.ok ok
theorem zgY {kvs:List (Key×V)}(ok:HOk P w H h) (e:Rd H a (.dK kvs)):kvs.length<=sizeLine/\(a==sysModules)=false /\ ∃vs,KV kvs vs/\h.DictOf (zaE P w) a vs :=
 show za4 P w H h a (.dK kvs) from zsY ok e
theorem zuO {kvs:List (Key×V)}(ok:HOk P w H h) (e:H a=some (.dK kvs)):kvs.length<=sizeLine/\(a==sysModules)=false /\ ∃vs,KV kvs vs/\h.DictOf (zaE P w) a vs:=zgY ok (.inl e)
theorem zf2 {ks:List Key}(ok:HOk P w H h) (e:H a=some (.tup (ks.map kV))):(tupleKind (zaE P w)).is h ks a:=by
 obtain ⟨_,its,r,o,h1,h2,n,h3⟩:=(show za4 P w H h a (.tup (ks.map kV)) from ok a _ e)
 exact ⟨o,its.toArray,n,h1,h2,h3,by simpa using zh2 r⟩
theorem zkx {kvs:List (List Key×V)}(ok:HOk P w H h) (e:Rd H a (.dT kvs)):kvs.length<=sizeLine/\(a==sysModules)=false /\
  ∃xs,KT H kvs xs/\h.DictOfH (tupleKind (zaE P w)) a xs:=by
 obtain ⟨z,y,xs,r,o,es,ep,h1,h2,h3,h4,h5⟩:=(show za4 P w H h a (.dT kvs) from zsY ok e)
 refine ⟨z,y,xs,r,o,es,ep,h1,h2,h3,h4,fun x hx=>?_,h5⟩;have all:∀{l:List (List Key×V)}{m:List (List Key×Addr×Value)},KT H l m -> ∀x∈m,(tupleKind (zaE P w)).is h x.1 x.2.1:=by
  intro l m q
  induction q with
  | nil=>intro x hx;exact nomatch hx
  | @cons p q ps qs hq t ih =>
   intro x hx;rcases Zk.mp hx with e|hx
   ·subst e
    exact zf2 ok (by rw [<- hq.1];exact hq.2.1)
   ·exact ih x hx
 exact all r x hx
theorem zoh {kvs:List (List Key×V)}(ok:HOk P w H h) (e:H a=some (.dT kvs)):kvs.length<=sizeLine/\(a==sysModules)=false /\
  ∃xs,KT H kvs xs/\h.DictOfH (tupleKind (zaE P w)) a xs:=zkx ok (.inl e)
end
def DGet (H:Hp) (a:Addr) (y:V) (r:Option V):Prop :=
 (∃kvs k,Rd H a (.dK kvs)/\y=kV k/\r=valV kvs k) \/ ∃kvs k b,Rd H a (.dT kvs)/\y=.ref b/\H b=some (.tup (k.map kV))/\r=valV kvs k
def DPut (H:Hp) (a:Addr) (y v:V) (H':Hp):Prop :=
 (∃kvs k,H a=some (.dK kvs)/\y=kV k/\kvs.length < sizeLine/\H'=upd H a (.dK (putK kvs k v))) \/
 ∃kvs k b,H a=some (.dT kvs)/\y=.ref b/\H b=some (.tup (k.map kV))/\kvs.length < sizeLine/\H'=upd H a (.dT (putK kvs k v))
theorem DPut.k {H:Hp}{a:Addr}{kvs:List (Key×V)}{k:Key}{v:V}(e:H a=some (.dK kvs)) (hl:kvs.length < sizeLine):DPut H a (kV k) v (upd H a (.dK (putK kvs k v))):=.inl ⟨kvs,k,e,rfl,hl,rfl⟩
theorem DPut.t {H:Hp}{a b:Addr}{kvs:List (List Key×V)}{k:List Key}{v:V}(e:H a=some (.dT kvs)) (eb:H b=some (.tup (k.map kV))) (hl:kvs.length < sizeLine) :
  DPut H a (.ref b) v (upd H a (.dT (putK kvs k v))):=.inr ⟨kvs,k,b,e,rfl,eb,hl,rfl⟩
section
variable {X:Cx}{pins:List (Addr×Obj)}{σ:St}{H:Hp}{s:Shared}{a:Addr}{y v:V}{u r:Value}{o:Option V}{A:Around}{E:Value->Shared->Prop}
theorem Inv.big (I:Inv X pins σ H s):sysModules < s.heap.objs.size:=by
 have h:mainGlobals < s.heap.objs.size:=(I.mod.glob.keeps I.bk).lt;exact Nat.lt_trans (by decide) h
theorem zmD {Q:Value->Shared->Prop}(hu:A.units+1 < cLine) (I:Inv X pins σ H s) (g:DGet H a y (some v)) (ry:RelV y u) (h:∀w' s',Inv X pins σ H s' -> RelV v w' -> Q w' s') :
  wpAny (model X.prog X.w) A (getItem (.ref a) u) Q E s:=by
 rcases g with ⟨kvs,k,e,ey,l⟩|⟨kvs,k,b,e,ey,eb,l⟩
 ·subst ey
  obtain ⟨z,hd,vs,rel,dd⟩:=zgY I.hok e;obtain ⟨w',hw,rw'⟩:=RelO.some_of (v:=v) (o:=valueAt vs k) (by rw [l];exact rel.val k);exact wpAny_getItem_of (zku ry) dd.mapOf hw (h w' _ (I.tok _) rw')
 ·subst ey
  cases (show u=Value.ref b from ry);obtain ⟨z,hd,xs,rel,dd⟩:=zkx I.hok e;obtain ⟨w',hw,rw'⟩:=RelO.some_of (v:=v) (o:=(atKey xs k).map (·.2)) (by rw [l];exact rel.val k);obtain ⟨p,hp,hp2⟩:=Zb.mp hw;refine wpAny_getItem_heap (tupleKind_room_in1 hu) (zf2 I.hok eb) dd hp ?_;rw [hp2];exact h w' _ (I.tok _) rw'
theorem d_in {Q:Value->Shared->Prop}(hu:A.units+1 < cLine) (I:Inv X pins σ H s) (g:DGet H a y o) (ry:RelV y u) (h:∀s',Inv X pins σ H s' -> Q (.bool o.isSome) s') :
  wpAny (model X.prog X.w) A (compareOp .In u (.ref a)) Q E s:=by
 rcases g with ⟨kvs,k,e,ey,l⟩|⟨kvs,k,b,e,ey,eb,l⟩
 ·subst ey
  obtain ⟨z,hd,vs,rel,dd⟩:=zgY I.hok e;refine wpAny_in_of (zku ry) hd dd.mapOf ?_;rw [<- (rel.val k).isSome_eq,<- l];exact h _ (I.tok _)
 ·subst ey
  cases (show u=Value.ref b from ry);obtain ⟨z,hd,xs,rel,dd⟩:=zkx I.hok e;refine wpAny_in_heap (tupleKind_room_in1 hu) (zf2 I.hok eb) hd dd ?_;have q:=(rel.val k).isSome_eq;rw [Zn1] at q;rw [<- q,<- l];exact h _ (I.tok _)
theorem zrz {Q:Value->Shared->Prop}(hu:A.units+1 < cLine) (I:Inv X pins σ H s) (g:DGet H a y o) (ry:RelV y u) (h:∀s',Inv X pins σ H s' -> Q (.bool (!o.isSome)) s') :
  wpAny (model X.prog X.w) A (compareOp .NotIn u (.ref a)) Q E s:=by
 rcases g with ⟨kvs,k,e,ey,l⟩|⟨kvs,k,b,e,ey,eb,l⟩
 ·subst ey
  obtain ⟨z,hd,vs,rel,dd⟩:=zgY I.hok e;refine wpAny_notIn_of (zku ry) hd dd.mapOf ?_;rw [<- (rel.val k).isSome_eq,<- l];exact h _ (I.tok _)
 ·subst ey
  cases (show u=Value.ref b from ry);obtain ⟨z,hd,xs,rel,dd⟩:=zkx I.hok e;refine wpAny_notIn_heap (tupleKind_room_in1 hu) (zf2 I.hok eb) hd dd ?_;have q:=(rel.val k).isSome_eq;rw [Zn1] at q;rw [<- q,<- l];exact h _ (I.tok _)
theorem zgZ {h':Heap}{t':Nat}{ob:HO}(I:Inv X pins σ H s) (mu:Mut (H a)) (hs:Heap.SameBut a s.heap h') (he:∃q,h'.get? a=some q) (new:za4 X.prog X.w (upd H a ob) h' a ob) :
  Inv X pins σ (upd H a ob) { s with heap:=h',toks:=t' } :=
 I.write (x:=a) (e:=a) mu (.inl rfl) (fun b q hb z=>(hs.2 b hb).trans z) he new
theorem zpj {P:Program}{w:World}{H':Hp}{h':Heap}{kvs:List (Key×V)}{vs:List (Key×Value)}(z:kvs.length<=sizeLine) (hd:(a==sysModules)=false) (rel:KV kvs vs) (dd:h'.DictOf (zaE P w) a vs) :
  za4 P w H' h' a (.dK kvs):=⟨z,hd,vs,rel,dd⟩
theorem zmC {H':Hp}{Q:Unit->Shared->Prop}(hu:A.units+1 < cLine) (I:Inv X pins σ H s) (g:DPut H a y v H') (ry:RelV y u) (rv:RelV v r) (h:∀s',Inv X pins σ H' s' -> Q () s') :
  wpAny (model X.prog X.w) A (setItem (.ref a) u r) Q E s:=by
 rcases g with ⟨kvs,k,e,ey,l,eH⟩|⟨kvs,k,b,e,ey,eb,l,eH⟩
 ·subst ey eH
  obtain ⟨z,hd,vs,rel,dd⟩:=zuO I.hok e;have hz:vs.length<=sizeLine:=by rw [<- rel.length];exact z
  have hl:(putK kvs k v).length<=sizeLine:=by have:=zdc kvs k v;omega
  refine wpAny_setItem_pairs (hsz:=hz) (zku ry) dd fun h' dd' hs=>h _ ?_;have he:∃q,h'.get? a=some q:=let ⟨q,_,_,hq,_⟩:=dd';⟨q,hq⟩;exact zgZ I (by rw [e];exact True.intro) hs he (zpj hl hd (rel.put k rv) dd')
 ·subst ey eH
  cases (show u=Value.ref b from ry);obtain ⟨z,hd,xs,rel,dd⟩:=zoh I.hok e;have hz:xs.length<=sizeLine:=by rw [<- Paired.length rel];exact z
  have hl:(putK kvs k v).length<=sizeLine:=by have:=zdc kvs k v;omega
  refine wpAny_setItem_heap (hsz:=hz) (tupleKind_room_in1 hu) (zf2 I.hok eb) dd fun h' dd' hs=>h _ ?_;obtain ⟨q,es,ep,hq,h2,h3,h4,_,h5⟩:=dd';refine zgZ I (by rw [e];exact True.intro) hs ⟨q,hq⟩ ⟨hl,hd,_,(rel.put k eb rv).keeps fun c ys ec=>?_,q,es,ep,hq,h2,h3,h4,h5⟩;rw [zac (zkn ec e (fun z=>nomatch z))];exact ec
end
section
variable {X:Cx}{pins:List (Addr×Obj)}{σ:St}{H:Hp}{s:Shared}{a:Addr}{kvs:List (Key×V)}{k:Key}{u:Value}{A:Around}{E:Value->Shared->Prop}
theorem zxe {Q:Value->Shared->Prop}(I:Inv X pins σ H s) (e:Rd H a (.dK kvs)) (h:∀t s',Inv X pins σ H s' -> Q (.int kvs.length t) s'):wpAny (model X.prog X.w) A (call (.builtin "len") [.ref a]) Q E s:=by
 obtain ⟨z,hd,vs,rel,dd⟩:=zgY I.hok e;refine call_len_dict hd dd (by rw [<- rel.length];rw [sizeLine_eq] at z;omega) ?_;rw [<- rel.length];exact h _ _ (I.tok _)
end
def NoSl (i:Expr):Prop:=∀ov iv,subscripted i false ov iv=operate [ov,iv] (getItem ov iv)
theorem zp3 {prog:Program}{w:World}{A:Around}{E:Value->Shared->Prop}{s:Shared}{env:Env}{value slice:Expr}{pos:Pos}{T id:String}{Q:Value->Shared->Prop}
  (hl:typeLookup (.type T) "__getitem__" = pure (some (.builtin id))) (hs:NoSl slice)
  (h:wpAny (model prog w) A (eval value env) (fun o s₁=>wpAny (model prog w) A (eval slice env) (fun i s₂=>s₂.TypeIs o T/\wpAny (model prog w) A (getItem o i) Q E s₂) E s₁) E s) :
  wpAny (model prog w) A (eval (.Subscript value slice pos) env) Q E s:=by
 refine Subscript_ (wpAny_mono h (fun o s₁ h₁=>wpAny_mono h₁ (fun i s₂ h₂=>?_) fun _ _ x=>x) fun _ _ x=>x);obtain ⟨hT,h₂⟩:=h₂;unfold subscriptTail;refine wpAny_bind ?_;rw [getitemInPython_of_ne hT.not_modules];refine wpAny_bind (wpAny_specialOf hT hl ?_);have fin:wpAny (model prog w) A (subscripted slice false o i) (fun r s₃=>wpAny (model prog w) A (letTemporaryGo value o r >>= fun _=>pure r) Q E s₃) E s₂:=by
  rw [hs o i];exact wpAny_operating (wpAny_mono h₂ (fun r s₃ h₃=>wpAny_bind (wpAny_letTemporaryGo (wpAny_pure h₃))) fun _ _ x=>x)
 first
  | exact wpAny_pure (wpAny_bind fin)
  | exact wpAny_bind (wpAny_pure (wpAny_bind fin))
  | exact wpAny_bind fin
theorem ziQ {X:Cx}{pins:List (Addr×Obj)}{σ:St}{H:Hp}{s:Shared}{a:Addr}{y:V}{o:Option V}(I:Inv X pins σ H s) (g:DGet H a y o):s.TypeIs (.ref a) "dict":=by
 rcases g with ⟨kvs,k,e,_,_⟩|⟨kvs,k,b,e,_,_,_⟩
 ·obtain ⟨_,_,vs,_,dd⟩:=zgY I.hok e
  exact dd.typeIs
 ·obtain ⟨_,_,xs,_,dd⟩:=zkx I.hok e
  exact dd.typeIs
def zsL (td ty:TE):TE:=fun σ H Q=>td σ H fun x H1=>ty σ H1 fun y H2=>∃a v,x=.ref a/\DGet H2 a y (some v)/\Q v H2
def tDIn (ty td:TE):TE:=fun σ H Q=>ty σ H fun y H1=>td σ H1 fun x H2=>∃a o,x=.ref a/\DGet H2 a y o/\Q (.bl o.isSome) H2
def zkW (ty td:TE):TE:=fun σ H Q=>ty σ H fun y H1=>td σ H1 fun x H2=>∃a o,x=.ref a/\DGet H2 a y o/\Q (.bl (!o.isSome)) H2
def zqh (td ty tv:TE):TS:=fun D σ H=>tv σ H fun v H1=>td σ H1 fun x H2=>ty σ H2 fun y H3=>∃a H4,x=.ref a/\DPut H3 a y v H4/\D.nx σ H4
section
variable {X:Cx}{o i e value:Expr}{pos pos' tpos:Pos}{td ty tv:TE}
theorem zqS (hu:X.A.units+1 < cLine) (ho:PE X o td) (hi:PE X i ty) (hs:NoSl i):PE X (.Subscript o i pos) (zsL td ty):=by
 intro pins s σ H Q I h;refine zp3 PySem.F.slot_dict_getitem.lookup hs (thn (ho pins s σ H _ I h) fun u s1 ⟨x,H1,I1,rx,q1⟩=>thn (hi pins s1 σ H1 _ I1 q1) fun iv s2 ⟨y,H2,I2,ry,a,v,ex,g,q2⟩=>?_);subst ex;obtain rfl:u=Value.ref a:=rx;exact ⟨ziQ I2 g,zmD hu I2 g ry fun w' s3 I3 rw'=>⟨v,H2,I3,rw',q2⟩⟩
theorem zo3 (hu:X.A.units+1 < cLine) (hi:PE X i ty) (ho:PE X o td):PC X .In i o (tDIn ty td):=by
 intro pins s σ H Q I h;refine thn (hi pins s σ H _ I h) fun iv s1 ⟨y,H1,I1,ry,q1⟩=>thn (ho pins s1 σ H1 _ I1 q1) fun u s2 ⟨x,H2,I2,rx,a,ov,ex,g,q2⟩=>?_;subst ex;obtain rfl:u=Value.ref a:=rx;exact d_in hu I2 g ry fun s3 I3=>⟨.bl ov.isSome,H2,I3,rfl,q2⟩
theorem zlG (hu:X.A.units+1 < cLine) (hi:PE X i ty) (ho:PE X o td):PC X .NotIn i o (zkW ty td):=by
 intro pins s σ H Q I h;refine thn (hi pins s σ H _ I h) fun iv s1 ⟨y,H1,I1,ry,q1⟩=>thn (ho pins s1 σ H1 _ I1 q1) fun u s2 ⟨x,H2,I2,rx,a,ov,ex,g,q2⟩=>?_;subst ex;obtain rfl:u=Value.ref a:=rx;exact zrz hu I2 g ry fun s3 I3=>⟨.bl (!ov.isSome),H2,I3,rfl,q2⟩
theorem zlu (hu:X.A.units+1 < cLine) (ho:PE X o td) (hi:PE X i ty) (hv:PE X value tv) (hs:swapsWith value (some (.Subscript o i pos')) pos.line X.env=pure false) :
  PS X (.Assign [.Subscript o i pos'] value pos) (zqh td ty tv):=by
 intro pins s σ H D I h;refine wpAny_Assign_Subscript (thn (hv pins s σ H _ I h) fun r s1 ⟨v,H1,I1,rv,q1⟩=>thn (ho pins s1 σ H1 _ I1 q1) fun u s2 ⟨x,H2,I2,rx,q2⟩=>thn (hi pins s2 σ H2 _ I2 q2) fun iv s3 ⟨y,H3,I3,ry,a,H4,ex,g,q3⟩=>?_) hs;subst ex;obtain rfl:u=Value.ref a:=rx;exact zmC hu I3 g ry rv fun s4 I4=>⟨σ,H4,I4,q3⟩
end
theorem zjN {P:Program}{w:World}{H:Hp}(h:Heap) (hb:sysModules < h.objs.size):za4 P w H (h.push { cls:=.type "dict",data:=.dict #[] }) h.objs.size (.dK []) :=
 ⟨Nat.zero_le _,beq_eq_false_iff_ne.mpr (Ne.symm (Nat.ne_of_lt hb)),[],.nil,Heap.DictOf.new h⟩
theorem zoi {P:Program}{w:World}{H:Hp}(h:Heap) (hb:sysModules < h.objs.size):za4 P w H (h.push { cls:=.type "dict",data:=.dict #[] }) h.objs.size (.dT []) :=
 ⟨Nat.zero_le _,beq_eq_false_iff_ne.mpr (Ne.symm (Nat.ne_of_lt hb)),[],.nil,_,#[],0,Heap.get?_push_size _ rfl,⟨rfl,rfl,rfl⟩,rfl,rfl,List.nodup_nil⟩
def zoH:TE:=fun _ H Q=>∀p,H p=none->Q (.ref p) (upd H p (.dK []))
section
variable {X:Cx}{pos:Pos}
theorem znN:PE X (.Dict [] [] pos) zoH:=fun pins s σ H Q I h =>
 wpAny_Dict_empty ⟨.ref s.heap.objs.size,_,I.laid (a:=s.heap.objs.size) (o:=.dK []) (t':=s.toks) (fun _ _ q=>Heap.get?_push_of_some _ q) (Nat.le_refl _) (zjN s.heap I.big),rfl,h _ (I.hok.fresh (Nat.le_refl _))⟩
end
def zkU:List (TE×TE)->St->Hp->(List (V×V)->Hp->Prop)->Prop
 | [],_,H,Q=>Q [] H
 | (tk,tv)::r,σ,H,Q=>tk σ H fun x H1=>tv σ H1 fun y H2=>zkU r σ H2 fun ps H3=>Q ((x,y)::ps) H3
abbrev VV:List (V×V)->List (Value×Value)->Prop:=Paired fun p q=>RelV p.1 q.1/\RelV p.2 q.2
def PPs (X:Cx) (pos:Pos) (keys:List (Option Expr)) (values:List Expr) (trs:List (TE×TE)):Prop :=
 ∀(pins:List (Addr×Obj)) (s:Shared) (σ:St) (H:Hp) (Q:List (V×V)->Hp->Prop),Inv X pins σ H s->zkU trs σ H Q ->
  wpAny (model X.prog X.w) X.A (evalPairs (pairTrees keys values X.env pos)) (fun vs s'=>∃ps H',Inv X pins σ H' s' /\ VV ps vs/\Q ps H') X.xe s
theorem zqF {X:Cx}{pos:Pos}:PPs X pos [] [] []:=fun pins s σ H Q I h=>pairTrees_nil_walk ⟨[],H,I,.nil,h⟩
theorem znF {X:Cx}{pos:Pos}{k v:Expr}{ks:List (Option Expr)}{vs:List Expr}{tk tv:TE}{trs:List (TE×TE)}(hk:PE X k tk) (hv:PE X v tv) (hr:PPs X pos ks vs trs) :
  PPs X pos (some k::ks) (v::vs) ((tk,tv)::trs):=fun pins s σ H Q I h =>
 pairTrees_cons_walk (thn (hk pins s σ H _ I h) fun u s1 ⟨x,H1,I1,rx,q1⟩=>thn (hv pins s1 σ H1 _ I1 q1) fun w2 s2 ⟨y,H2,I2,ry,q2⟩ =>
  thn (hr pins s2 σ H2 _ I2 q2) fun ws s3 ⟨ps,H3,I3,rel,q3⟩=>⟨(x,y)::ps,H3,I3,.cons ⟨rx,ry⟩ rel,q3⟩)
def zeU (kvs more:List (Key×V)):List (Key×V):=more.foldl (fun acc kv=>putK acc kv.1 kv.2) kvs
theorem KV.merge:∀{more:List (Key×V)}{rs:List (Key×Value)}{kvs:List (Key×V)}{vs:List (Key×Value)},KV more rs->KV kvs vs->KV (zeU kvs more) (merged vs rs):=by
 intro more rs kvs vs r;unfold KV at r
 induction r generalizing kvs vs with
 | nil=>intro q;exact q
 | @cons p q ps qs h t ih =>
  intro r0;have e:KV (putK kvs p.1 p.2) (stored vs q.1 q.2):=by
   have:=r0.put p.1 h.2;rw [<- h.1];exact this
  exact ih e
theorem zdB:∀(more kvs:List (Key×V)),(zeU kvs more).length<=kvs.length+more.length
 | [],kvs=>by show kvs.length<=kvs.length+0;omega
 | p::r,kvs=>by
  have h1:=zdB r (putK kvs p.1 p.2);have h2:=zdc kvs p.1 p.2;show (zeU (putK kvs p.1 p.2) r).length<=_;rw [Zq];omega
theorem zgd {P:Program}{w:World}:∀{kvs:List (Key×V)}{ws:List (Value×Value)},VV (kvs.map fun kv=>(kV kv.1,kv.2)) ws -> ∃rs,Carries (zaE P w) ws rs/\KV kvs rs
 | [],_,r=>by rw [List.map_nil] at r;cases r;exact ⟨[],True.intro,.nil⟩
 | p::kvs,_,r=>by
  rw [Zh] at r;cases r with
  | @cons a b as bs h t =>
   obtain ⟨rs,c,q⟩:=zgd (P:=P) (w:=w) t;obtain ⟨b1,b2⟩:=b;exact ⟨(p.1,b2)::rs,⟨zku h.1,rfl,c⟩,.cons ⟨rfl,h.2⟩ q⟩
def zsJ (trs:List (TE×TE)):TE:=fun σ H Q=>∀p,H p=none->zkU trs σ (upd H p (.dK [])) fun ps H2=>H2 p=some (.dK []) /\ ∃kvs:List (Key×V),ps=kvs.map (fun kv=>(kV kv.1,kv.2))/\kvs.length<=15/\Q (.ref p) (upd H2 p (.dK (zeU [] kvs)))
theorem zqR {X:Cx}{pos:Pos}{keys:List (Option Expr)}{values:List Expr}{trs:List (TE×TE)}(h:PPs X pos keys values trs) (hall:keys.all (·.isSome)=true) (hl:keys.length=values.length) (h0:keys≠[])
  (h15:keys.length<=15):PE X (.Dict keys values pos) (zsJ trs):=by
 intro pins s σ H Q I q;have hn:=I.hok.fresh (Nat.le_refl s.heap.objs.size);have I1:=I.laid (a:=s.heap.objs.size) (o:=.dK []) (h':=s.heap.push { cls:=.type "dict",data:=.dict #[] }) (t':=s.toks) (fun _ _ q=>Heap.get?_push_of_some _ q) (Nat.le_refl _) (zjN s.heap I.big);refine wpAny_Dict_walk (knd:=zaE X.prog X.w) hall hl h0 h15 (thn (h pins _ σ _ _ I1 (q _ hn)) fun ws s2 ⟨ps,H2,I2,rel,e,kvs,ep,lk,q2⟩=>?_);subst ep;obtain ⟨rs,c,rk⟩:=zgd (P:=X.prog) (w:=X.w) rel;obtain ⟨z,hd,vs0,r0,dd⟩:=zuO I2.hok e;cases r0;refine ⟨rs,c,dd,fun h' dd' hs=>⟨.ref s.heap.objs.size,_,?_,rfl,q2⟩⟩;have hz:(zeU [] kvs).length<=sizeLine:=by
  have h1:=zdB kvs [];rw [List.length_nil] at h1;rw [sizeLine_eq];omega
 have he:∃q,h'.get? s.heap.objs.size=some q:=let ⟨q,_,_,hq,_⟩:=dd';⟨q,hq⟩;exact zgZ I2 (by rw [e];exact True.intro) hs he (zpj hz hd (rk.merge .nil) dd')
def IsD (H:Hp) (a:Addr):Prop:=(∃kvs,Rd H a (.dK kvs)) \/ ∃kvs,Rd H a (.dT kvs)
theorem zuj {X:Cx}{pins:List (Addr×Obj)}{σ:St}{H:Hp}{s:Shared}{a:Addr}(I:Inv X pins σ H s) (d:IsD H a) :
  s.TypeIs (.ref a) "dict" /\ (∀b,Value.ref a=.ref b -> ∃ob,s.heap.get? b=some ob/\ob.dict=none)/\(a==sysModules)=false:=by
 rcases d with ⟨kvs,e⟩|⟨kvs,e⟩
 ·obtain ⟨_,hd,vs,_,dd⟩:=zgY I.hok e
  refine ⟨dd.typeIs,fun b q=>?_,hd⟩;cases q;obtain ⟨ob,_,_,h1,h2,_⟩:=dd;exact ⟨ob,h1,h2.2.1⟩
 ·obtain ⟨_,hd,xs,_,dd⟩:=zkx I.hok e
  refine ⟨dd.typeIs,fun b q=>?_,hd⟩;cases q;obtain ⟨ob,_,_,h1,h2,_⟩:=dd;exact ⟨ob,h1,h2.2.1⟩
end L2
namespace Att
open PySem PySem.W PySem.Calls PyProof.Rows
theorem zfb {P:Params}{h:Heap}:∀(ns:List Int) (vs:List Value),WellAll P h vs (ns.map WData.int)->IntsAre vs ns:=by
 intro ns
 induction ns with
 | nil =>
  intro vs w;rw [List.map_nil] at w;cases w;exact .nil
 | cons n ns ih =>
  intro vs w;rw [Zh] at w;cases w with
  | cons a b =>
   cases a;exact .cons _ _ (ih _ b)
theorem zk3 {l:OpenLaw}{n:Nat}(hn:l.most=some n) {P:Params}{h:Heap}{args:List WData}{vals:List Value}
  (hpre:l.row.toRowW.claim.pre args=true) (hwl:WellAll P h vals args) :
  ∃a vs ns,vals = [Value.ref a]/\args = [WData.list (ns.map WData.int)]/\h.get? a=some { cls:=.type "list",data:=.seq vs.toArray }/\IntsAre vs ns/\ns.length<=n:=by
 have hsh:WShape.hasAll [] args [.list .int]=true:=(pre_splitW hpre).1;have hc:l.pre.holds [] { args:=args }=true:=(pre_splitW hpre).2;obtain ⟨d,r,rfl,h1,h2⟩:=hasAllW_cons hsh;obtain rfl:=hasAllW_nil h2;obtain ⟨xs,rfl,h3⟩:=hasW_list h1;obtain ⟨ns,rfl⟩:=items_int h3;have hlen:ns.length<=n:=by
  unfold OpenLaw.pre at hc;have h4:(WTm.not (.lt (.lit (.int (n:Int))) (.len (.arg 0)))).holds [] { args:=[.list (ns.map .int)] }=true:=by
   have h4:=(holds_andW hc).1;rw [hn] at h4;exact h4
  have h5:=condW_of h4 (w_not (w_lt w_lit (w_len_list (w_arg rfl))));rw [Zd] at h5;refine Nat.le_of_not_lt fun q=>?_;have q':(n:Int) < ((ns.length:Nat):Int):=by omega
  first
   | (rw [Zn q'] at h5;exact absurd h5 (by decide))
   | (simp at h5;omega)
 cases hwl with
 | cons w1 w2 =>
  cases w2;cases w1 with
  | list ho hall=>exact ⟨_,_,ns,rfl,rfl,ho,zfb ns _ hall,hlen⟩
theorem zlv (l:OpenLaw) (args:List WData):l.row.toRowW.claim.post args (.bool true) args=true :=
 postW_of (r:=l.row.toRowW) (X:=(true==true))
  (show WShape.has [] (.bool true) .bool=true by first|rfl|decide|simp [WShape.has,WShape.arms,WShape.armsAll])
  (show (WTm.eq .res (.lit (.bool true))).value [] { args:=args,res:=some (.bool true),after:=args }=some (.bool (true==true)) from w_eq_bool (w_res rfl) w_lit) rfl
theorem attach_call {l:OpenLaw}{n:Nat}{q:Program}{loose:List Str}{XP:(Str->Option Value)->Heap->Prop}{YP:World->Heap->Prop}{d:DefRec}
  (hn:l.most=some n) (hdf:d.params.defaults = [])
  (call:∀(w:World) (s₀ s₁:Shared) (mg mb:Str->Option Value) (fa:Addr) (o:Obj) (pm cd doc:Value) (a:Addr) (vs:List Value) (ns:List Int),
   Ground q loose [] XP w s₀ mg mb s₁.heap->YP w s₁.heap ->
   s₁.heap.get? fa=some o->o.data=.func (docDef d.name d.params d.body d.scope pm cd doc)->s₁.heap.CodeRec cd d.name->mg d.name=some (.ref fa) ->
   s₁.heap.get? a=some { cls:=.type "list",data:=.seq vs.toArray }->IntsAre vs ns->ns.length<=n->s₁.gens = #[] ->
   codeAny (model l.prog w) callerA (.call (.ref fa) ⟨[.ref a],[]⟩) (fun r s'=>r=.ok (.ret (.bool true))/\OldK s₁.heap s'.heap/\s'.os=s₁.os/\AllBare s'.gens) s₁) :
  WalkO q loose XP YP l.row.toRowW d [] (fun f vs=>PySem.call f vs):=by
 intro w s₀ s₁ mg mb G Y fa o pm cd doc dV kV ho hd hcd hD hmg hg args vals as hpre hlay hrd hwl hlo;obtain rfl:dV=.none:=Dflts.none hD hdf;obtain rfl:kV=.none:=Dflts.noKw hD;obtain ⟨a,vs,ns,rfl,rfl,hobj,hints,hlen⟩:=zk3 hn hpre hwl;refine enter_call (codeAny_mono (call w s₀ s₁ mg mb fa o pm cd doc a vs ns G Y ho (fd_plain hd) hcd hmg hobj hints hlen hg) fun r s' hq=>?_);obtain ⟨rfl,h2,h3,h4⟩:=hq;exact ⟨.inl ⟨.bool true,.bool true,[],rfl,fun _=>rfl,.bool true,zlv l _,fun _=>⟨List.Pairwise.nil,fun _ hm=>(nomatch hm)⟩⟩,h2,h3,h4⟩
end Att
namespace L2
open PySem PySem.Spec PyProof.Rows
theorem zhc:∀{vs:List Value}{ns:List Int},IntsAre vs ns->Vals (ns.map V.int) vs
 | _,_,.nil=>.nil
 | _,_,.cons n t h=>.cons ⟨t,rfl⟩ (zhc h)
def Only (H:Hp):Prop:=∀b,H b=none \/ ∃o xs,H b=some (.frz o (.lst xs))
theorem zn3 {P:Program}{w:World}{K:PySem.W.Frag}{mg mb:Str->Option Value}{CX:CXT}{k:Nat}{fa a:Addr}{fd:FuncData}{x:Str}{sp:Sp}{s₁:Shared}{vs:List Value}{ns:List Int}
  (KX:K.In s₁.heap) (hns:s₁.heap.Ns mainGlobals mg) (hb:s₁.heap.Ns builtinsNs mb) (hbb:∀x:Str,x≠"__name__" -> mb x=bootBuiltins x) (hlim:s₁.heap.NoLimit) (hg:s₁.gens = #[])
  (ha:s₁.heap.get? a=some { cls:=.type "list",data:=.seq vs.toArray }) (hi:IntsAre vs ns) (hl:ns.length<=sizeLine) (hr:Room k callerA)
  (F:∀base:Heap,K.In base->base.Ns mainGlobals mg->FnOk P w K mg base CX k fa fd [x] sp) (hbind:∀(s:Shared) (u:Value),BindsTo s fd ⟨[u],[]⟩ [(x,u)])
  (hsp:∀H:Hp,Only H->SqL K H a (ns.map V.int)->sp [.ref a] H (fun v _=>v=.bl true) fun _ _ _=>False)
  (hCX:∀H e s',CX [] H s₁ (fun _ _ _=>False) e s' -> False) :
  codeAny (model P w) callerA (.call (.ref fa) ⟨[.ref a],[]⟩) (fun r s'=>r=.ok (.ret (.bool true))/\OldK s₁.heap s'.heap/\s'.os=s₁.os/\AllBare s'.gens) s₁:=by
 have rv:=zhc hi;have lenV:=hi.length;have core:∀H:Hp,Only H->SqL K H a (ns.map V.int)->HOk P w H s₁.heap->(∀b,H b≠none->b=a)->(H a≠none->K.lookup a=none) ->
   codeAny (model P w) callerA (.call (.ref fa) ⟨[.ref a],[]⟩) (fun r s'=>r=.ok (.ret (.bool true))/\OldK s₁.heap s'.heap/\s'.os=s₁.os/\AllBare s'.gens) s₁:=by
  intro H hO hS hok hA hK;have base_of:∀{b:Addr}{o:Obj},s₁.heap.get? b=some o->H b=none->(hidT s₁.heap H).get? b=some o:=fun e n=>zoa e n;have noA:∀{b:Addr}{o:Obj}{es:Array DictEntry}{ep:Nat},s₁.heap.get? b=some o->o.data=.dict es ep->H b=none:=fun {b o es ep} e d=>by
   cases q:H b with
   | none=>rfl
   | some u =>
    have e':b=a:=hA b (by rw [q];simp);subst e';rw [ha] at e;cases e;have d':Data.seq vs.toArray _=Data.dict es ep:=d;cases d'
  have nsK:∀{b:Addr}{m:Str->Option Value},s₁.heap.Ns b m->(hidT s₁.heap H).Ns b m:=fun {b m} ⟨o,es,ep,e,d,r⟩=>⟨o,es,ep,base_of e (noA e d),d,r⟩
  have hKb:K.In (hidT s₁.heap H):=fun b o e=>base_of (KX b o e) (by
   cases q:H b with
   | none=>rfl
   | some u =>
    have e':b=a:=hA b (by rw [q];simp);subst e';rw [hK (by rw [q];simp)] at e;cases e)
  have hM:Mod K mg (hidT s₁.heap H):=⟨hKb,nsK hns,⟨mb,nsK hb,hbb⟩,let ⟨mc,h1,h2⟩:=hlim;⟨mc,nsK h1,h2⟩⟩
  have e0:Env0 P w K mg (hidT s₁.heap H) callerA [] s₁ H:=⟨rfl,hM,fun b o e=>zqZ e,Nat.le_of_eq (zmm _ _),trivial,fun b hb=>absurd (show b∈([]:List Addr) from hb) (by simp),hok,.of_eq hg⟩
  refine codeAny_mono ((F _ hKb (nsK hns)).run callerA [] s₁ H ⟨[.ref a],[]⟩ [.ref a] [.ref a] _ _ hr e0 (hbind s₁ (.ref a)) (.cons rfl .nil) (hsp H hO hS)) fun r s' h=>?_;cases r with
  | error e=>exact (hCX H e s' h).elim
  | ok fl =>
   cases fl with
   | next=>exact False.elim h
   | brk=>exact False.elim h
   | cont=>exact False.elim h
   | ret u =>
    obtain ⟨v,H',os,bare,un,hok',r',q⟩:=h;have q':v=.bl true:=q;subst q';obtain rfl:u=Value.bool true:=r';refine ⟨rfl,OldK.of_keep fun b o e=>?_,os,bare⟩;cases q:H b with
    | none=>exact un.keep b o e q (by intro z;exact absurd (show b∈([]:List Addr) from z) (by simp)) (by simp)
    | some u =>
     rcases hO b with z|⟨ob,xs,z⟩
     ·rw [q] at z;cases z
     ·have z2:=un.frzs b ob _ z
      obtain ⟨e1,_⟩:=hok b _ z;obtain ⟨e2,_⟩:=hok' b _ z2;rw [e] at e1;cases e1;exact e2
 cases hk:K.lookup a with
 | some o =>
  have e:=KX a o hk;rw [ha] at e;cases e;refine core (fun _=>none) (fun _=>.inl rfl) (.inr ⟨_,vs.toArray,_,hk,rfl,rfl,rfl,by rw [Zm,lenV];exact hl,by simpa using rv⟩) (fun b u z=>by have z':(none:Option HO)=some u:=z;cases z') (fun b z=>absurd rfl z) fun z=>absurd rfl z
 | none =>
  refine core (fun b=>if b=a then some (.frz { cls:=.type "list",data:=.seq vs.toArray } (.lst (ns.map V.int))) else none) (fun b=>?_) (.inl (.inr ⟨{ cls:=.type "list",data:=.seq vs.toArray },if_pos rfl⟩)) (fun b u z=>?_) (fun b z=>?_) fun _=>hk
  ·by_cases hb:b=a
   ·exact .inr ⟨_,_,if_pos hb⟩
   ·exact .inl (if_neg hb)
  ·by_cases hb:b=a
   ·have z':=(if_pos hb).symm.trans z
    cases z';subst hb;exact ⟨ha,by rw [Zd];exact hl,vs,_,rv,ha⟩
   ·have z':=(if_neg hb).symm.trans z
    cases z'
  ·by_cases hb:b=a
   ·exact hb
   ·exact absurd (if_neg hb) z
theorem zpr {l:PySem.W.OpenLaw}{n k:Nat}{q:Program}{loose:List Str}{XP:(Str->Option Value)->Heap->Prop}{YP:World->Heap->Prop}{d:DefRec}{K:Params->PySem.W.Frag}{CX:World->CXT}{sp:World->Sp}{x:Str}
  (hn:l.most=some n) (hn2:n<=sizeLine) (hdf:d.params.defaults = []) (hr:Room k callerA)
  (hY:∀(w:World) (h:Heap),YP w h->(K w.params).In h)
  (F:∀(w:World) (mg:Str->Option Value) (fa:Addr) (h:Heap),(K w.params).In h->h.Ns mainGlobals mg->mg d.name=some (.ref fa) ->
   ∃fd:FuncData,(∀(s:Shared) (u:Value),BindsTo s fd ⟨[u],[]⟩ [(x,u)]) /\
    ∀base:Heap,(K w.params).In base->base.Ns mainGlobals mg->FnOk l.prog w (K w.params) mg base (CX w) k fa fd [x] (sp w))
  (hsp:∀(w:World) (H:Hp) (a:Addr) (ns:List Int),ns.length<=n->Only H->SqL (K w.params) H a (ns.map V.int)->sp w [.ref a] H (fun v _=>v=.bl true) fun _ _ _=>False)
  (hCX:∀(w:World) (H:Hp) (s:Shared) (e:Value) (s':Shared),CX w [] H s (fun _ _ _=>False) e s' -> False) :
  PySem.W.WalkO q loose XP YP l.row.toRowW d [] (fun f vs=>PySem.call f vs):=by
 refine Att.attach_call hn hdf fun w s₀ s₁ mg mb fa o pm cd doc a vs ns G Y ho hd hcd hmg hobj hints hlen hg=>?_;have KX:=hY w _ Y;obtain ⟨fd,hb,hF⟩:=F w mg fa _ KX G.T.g hmg;exact zn3 KX G.T.g G.T.b G.T.builtins G.T.nolimit hg hobj hints (Nat.le_trans hlen hn2) hr hF hb (fun H hO hS=>hsp w H a ns hlen hO hS) fun H e s'=>hCX w H s₁ e s'
def inClass (s:Stmt) (j:Nat):Stmt:=match s with
 | .ClassDef _ _ _ body _ _ _ _ _ _ _=>body.getD j (.Pass ⟨0,0,0,0⟩)
 | _=>.Pass ⟨0,0,0,0⟩
def zbO (s:Stmt):Arguments:=match s with
 | .FunctionDef _ a _ _ _ _ _ _ _ _=>a
 | _=>{ posonlyargs:=[],args:=[],vararg:=none,kwonlyargs:=[],kw_defaults:=[],kwarg:=none,defaults:=[] }
def za0 (s:Stmt):List Stmt:=match s with
 | .FunctionDef _ _ b _ _ _ _ _ _ _=>b
 | _=>[]
def zad (s:Stmt):Scope:=match s with
 | .FunctionDef _ _ _ _ _ _ sc _ _ _=>sc
 | _=>{ kind:=.function,names:=[],isGenerator:=false,isCoroutine:=false }
abbrev CX0:CXT:=fun _ _ _ _ _ _=>False
abbrev E0:XK:=fun _ _ _=>False
theorem ziE {X:Cx}:zfs CX0 X E0:=fun _ _ _ _ _ _ _ h=>h.elim
structure Fun (K:PySem.W.Frag) (x qual:Str) (st:Stmt) (f:Addr) (fd:FuncData):Prop where
 ex:∃(oc:Value) (od:Option Addr) (kV doc pm:Value) (an:Option Addr) (cdv ct:Value) (osl:Array (Option Value)),
  fd=PySem.W.fnOf x qual (zbO st) (za0 st) (zad st) .none kV doc pm an cdv ct/\K.lookup f=some ⟨oc,od,.func fd,osl⟩/\PySem.W.codeIn K cdv qual=true
 kp:PySem.W.keepIn K (.ref f)=true
section
variable {P:Program}{w:World}{K:PySem.W.Frag}{mg:Str->Option Value}{base:Heap}
theorem Fun.ok {x qual:Str}{st:Stmt}{f:Addr}{fd:FuncData}{N ps:List Str}{k:Nat}{sp:Sp}(F:Fun K x qual st f fd) (S:FnScope N ps (zad st)) (len:∀vs H Q E,sp vs H Q E->vs.length=ps.length)
  (hbody:∀(cdv:Value) (A:Around) (outer:List Env) (s:Shared) (H:Hp) (vs:List V) (Q:VK) (E:XK),Room k (A.deeper (envOfC qual (zad st) s.heap.objs.size f cdv))->sp vs H Q E ->
   ∃t,PSs (cxOf CX0 P w K mg base N qual (zad st) f cdv A outer s H E).nox (za0 st) t/\t { nx:=fun _ H'=>Q .non H',rt:=Q } (start N vs) H):FnOk P w K mg base CX0 (k+1) f fd ps sp:=by
 obtain ⟨oc,od,kV,doc,pm,an,cdv,ct,osl,rfl,lk,hcd⟩:=F.ex;refine zwJ lk hcd S len fun A outer s H vs Q E hr hsp=>?_;obtain ⟨t,h,q⟩:=hbody cdv A outer s H vs Q E hr hsp;exact ⟨t,h.nox,q⟩
theorem Fun.binds {x qual:Str}{st:Stmt}{f:Addr}{fd:FuncData}{ps:List Str}(F:Fun K x qual st f fd)
  (h:∀(kV doc pm:Value) (an:Option Addr) (cdv ct:Value) (us:List Value),us.length=ps.length->bindArgs (PySem.W.fnOf x qual (zbO st) (za0 st) (zad st) .none kV doc pm an cdv ct) ⟨us,[]⟩=pure (ps.zip us)):Binds K fd ps []:=by
 obtain ⟨oc,od,kV,doc,pm,an,cdv,ct,osl,rfl,lk,hcd⟩:=F.ex;exact .all (h kV doc pm an cdv ct)
theorem zfg {x qual:Str}{st:Stmt}{f:Addr}{oc:Value}{od an:Option Addr}{osl:Array (Option Value)}{kV doc pm cdv ct:Value}(l:K.lookup f=some ⟨oc,od,.func (PySem.W.fnOf x qual (zbO st) (za0 st) (zad st) .none kV doc pm an cdv ct),osl⟩)
  (c:PySem.W.codeIn K cdv qual=true) (k:PySem.W.keepIn K (.ref f)=true):Fun K x qual st f (PySem.W.fnOf x qual (zbO st) (za0 st) (zad st) .none kV doc pm an cdv ct):=⟨⟨oc,od,kV,doc,pm,an,cdv,ct,osl,rfl,l,c⟩,k⟩
end
section
variable {X:Cx}
theorem pv (i:Nat) {x:Str}{pos:Pos}(hN:X.N[i]?=some x:=by rfl) (hv:Vis X.env.scope x:=by first|exact Or.inl rfl|exact Or.inr (Or.inl rfl)|exact Or.inr (Or.inr rfl)) (hd:(x==("__debug__" : Str))=false:=by decide)
  (hcd:(x==("__classdict__" : Str))=false:=by decide):PE X (.Name x pos) (tVar i):=zlB hN hv hd hcd
end
def Same (H H':Hp):Prop:=∀b o,H b=some o->H' b=some o
end L2
set_option maxHeartbeats 4000000
namespace L2
open PySem PySem.Spec PyProof.Rows
def zbC (cells:List (Str×Addr)):List (Str×NameKind)->List (Str×Addr)->List (Str×Addr)
 | [],cs=>cs
 | (n,k)::r,cs=>zbC cells r (if (k==NameKind.free)=true then (n,(cells.lookup n).getD 0)::cs else cs)
theorem zdH {env:Env}{scope:Scope}(h:∀x∈scope.names,x.2=NameKind.free->(env.cells.lookup x.1).isSome=true) :
  closureFor scope env=pure (zbC env.cells scope.names []):=by
 have gen:∀(l:List (Str×NameKind)) (cs:List (Str×Addr)),(∀x∈l,x.2=NameKind.free->(env.cells.lookup x.1).isSome=true) ->
   (forIn l cs fun (x:Str×NameKind) (r:List (Str×Addr))=>if (x.2==NameKind.free)=true then (do let c <- cellOf env x.1;pure (ForInStep.yield ((x.1,c)::r))) else pure (ForInStep.yield r))=(pure (zbC env.cells l cs):Sem _):=by
  intro l
  induction l with
  | nil=>intro cs _;rfl
  | cons x r ih =>
   intro cs hx;obtain ⟨n,k⟩:=x;rw [List.forIn_cons];by_cases hk:(k==NameKind.free)=true
   ·have hs:=hx (n,k) Zf (by simpa using hk)
    obtain ⟨c,hc⟩:=Option.isSome_iff_exists.mp hs;have e1:cellOf env n=pure c:=by unfold cellOf;rw [show env.cells.lookup n=some c from hc]
    simp only [hk,if_true,e1,pure_bind];rw [ih _ fun y hy=>hx y (Ze _ hy)];simp only [zbC,hk,if_true];rw [show env.cells.lookup n=some c from hc];rfl
   ·simp only [hk,if_false,pure_bind,Bool.false_eq_true]
    rw [ih _ fun y hy=>hx y (Ze _ hy)];simp only [zbC,hk,if_false,Bool.false_eq_true]
 have:=gen scope.names [] h;unfold closureFor;refine Eq.trans ?_ (Eq.trans (congrArg (fun m=>m >>= fun cs=>pure cs) this) (by simp));simp
theorem zeb (cells:List (Str×Addr)) (x:Str) (c:Addr):∀(l:List (Str×NameKind)) (cs:List (Str×Addr)),(∀y∈l,y.2=NameKind.free->(cells.lookup y.1).isSome=true) ->
  (∀c,cs.lookup x=some c->cells.lookup x=some c)->(zbC cells l cs).lookup x=some c->cells.lookup x=some c
 | [],cs,_,h,e=>h c e
 | (n,k)::r,cs,hf,h,e=>by
  refine zeb cells x c r _ (fun y hy=>hf y (Ze _ hy)) (fun c' e'=>?_) e;by_cases hk:(k==NameKind.free)=true
  ·rw [if_pos hk,List.lookup_cons] at e'
   by_cases hx:(x==n)=true
   ·rw [hx] at e'
    have hn:x=n:=by simpa using hx
    subst hn;obtain ⟨c2,hc2⟩:=Option.isSome_iff_exists.mp (hf (x,k) Zf (by simpa using hk));have hc2':cells.lookup x=some c2:=hc2;rw [hc2'] at e' ⊢;simpa using e'
   ·simp only [hx] at e'
    exact h c' e'
  ·rw [if_neg hk] at e'
   exact h c' e'
theorem zec (cells:List (Str×Addr)) (x:Str):∀(l:List (Str×NameKind)) (cs:List (Str×Addr)),(cs.lookup x).isSome=true->((zbC cells l cs).lookup x).isSome=true
 | [],_,h=>h
 | (n,k)::r,cs,h=>by
  refine zec cells x r _ ?_;by_cases hk:(k==NameKind.free)=true
  ·rw [if_pos hk,List.lookup_cons]
   by_cases hx:(x==n)=true
   ·rw [hx];rfl
   ·simp only [hx];exact h
  ·rw [if_neg hk];exact h
theorem zdg (cells:List (Str×Addr)) (x:Str):∀(l:List (Str×NameKind)) (cs:List (Str×Addr)),(x,NameKind.free)∈l->((zbC cells l cs).lookup x).isSome=true
 | (n,k)::r,cs,h=>by
  rcases Zk.mp h with e|h
  ·cases e
   refine zec cells x r _ ?_;rw [if_pos (by rfl),List.lookup_cons];simp
  ·exact zdg cells x r _ h
def zav (X:Cx) (scope:Scope) (N':List Str) (C:Addr) (s:Shared) (H:Hp) (fp:List Addr):Cx where
 prog:=X.prog
 w:=X.w
 K:=X.K
 mg:=X.mg
 base:=X.base
 A:=X.A
 N:=N'
 s₀:=s
 H₀:=H
 env:=compEnvC scope (zbC X.env.cells scope.names []) C X.env
 outer:=X.stack
 stack:=X.stack
 ex:=fp
 fn:=fun _=>false
 calm:=X.calm
 pn:=[]
 xe:=fun _ _=>False
def zdW (src:List (Option Nat)) (σ:St):St:=src.map fun o=>match o with
 | some j=>(σ[j]?).join
 | none=>none
structure CompScope (X:Cx) (scope:Scope) (N':List Str) (src:List (Option Nat)):Prop where
 kind:scope.kind=.function
 nocell:∀y∈scope.names,y.2≠.cell
 names:∀y∈scope.names,y.2=.local->scope.names.lookup y.1=some .local
 free:∀y∈scope.names,y.2=.free->X.env.kindOf y.1=some .cell\/X.env.kindOf y.1=some .free
 len:src.length=N'.length
 src:∀(i j:Nat) (x:Str),src[i]?=some (some j)->N'[i]?=some x->X.N[j]?=some x/\(X.env.kindOf x=some .cell\/X.env.kindOf x=some .free)/\scope.names.lookup x=some .free
theorem zd3 {env:Env}{x:Str}:∀{names:List (Str×NameKind)},names.lookup x=some .free ->
  (names.map fun (n,k)=>if (k==NameKind.free&&env.scope.kind == .function&&env.kindOf n==some .cell) then (n,NameKind.cell) else (n,k)).lookup x=some .cell \/
  (names.map fun (n,k)=>if (k==NameKind.free&&env.scope.kind == .function&&env.kindOf n==some .cell) then (n,NameKind.cell) else (n,k)).lookup x=some .free
 | [],h=>by simp at h
 | (n,k)::r,h=>by
  have ih:=@zd3 env x r;rw [Zh];by_cases hx:(x==n)=true
  ·simp only [List.lookup_cons,hx] at h
   have hk:k=.free:=by simpa using h
   subst hk;by_cases hc:(NameKind.free==NameKind.free&&env.scope.kind == .function&&env.kindOf n==some .cell)=true
   ·left;simp only [hc,if_true,List.lookup_cons,hx]
   ·right;simp only [hc,if_false,List.lookup_cons,hx,Bool.false_eq_true]
  ·simp only [List.lookup_cons,hx] at h
   by_cases hc:(k==NameKind.free&&env.scope.kind == .function&&env.kindOf n==some .cell)=true
   ·simp only [hc,if_true,List.lookup_cons,hx];exact ih h
   ·simp only [hc,if_false,List.lookup_cons,hx,Bool.false_eq_true];exact ih h
theorem zb4 {env:Env}{x:Str}{k:NameKind}:∀{names:List (Str×NameKind)},(names.map fun (n,k)=>if (k==NameKind.free&&env.scope.kind == .function&&env.kindOf n==some .cell) then (n,NameKind.cell) else (n,k)).lookup x=some k ->
  (k=.cell->(∀y∈names,y.2≠.cell)->(x,NameKind.free)∈names)/\(k=.free->(x,NameKind.free)∈names)
 | [],h=>by simp at h
 | (n,k0)::r,h=>by
  have ih:=@zb4 env x k r;rw [Zh] at h;by_cases hc:(k0==NameKind.free&&env.scope.kind == .function&&env.kindOf n==some .cell)=true
  ·simp only [hc,if_true,List.lookup_cons] at h
   have hk0:k0=.free:=by
    simp only [Zc1] at hc;simpa using hc.1.1
   subst hk0;by_cases hx:(x==n)=true
   ·have:x=n:=by simpa using hx
    subst this;exact ⟨fun _ _=>Zf,fun _=>Zf⟩
   ·simp only [hx] at h
    obtain ⟨a,b⟩:=ih h;exact ⟨fun e z=>Ze _ (a e fun y hy=>z y (Ze _ hy)),fun e=>Ze _ (b e)⟩
  ·simp only [hc,if_false,List.lookup_cons,Bool.false_eq_true] at h
   by_cases hx:(x==n)=true
   ·have:x=n:=by simpa using hx
    subst this;simp only [hx] at h;have hk:k0=k:=by simpa using h
    subst hk;exact ⟨fun e z=>absurd e (z (x,k0) Zf),fun e=>by rw [e];exact Zf⟩
   ·simp only [hx] at h
    obtain ⟨a,b⟩:=ih h;exact ⟨fun e z=>Ze _ (a e fun y hy=>z y (Ze _ hy)),fun e=>Ze _ (b e)⟩
section
variable {X:Cx}{scope:Scope}{N':List Str}{src:List (Option Nat)}{pins:List (Addr×Obj)}{σ:St}{H:Hp}{s:Shared}{fp:List Addr}{C:Addr}
theorem CompScope.isFree (S:CompScope X scope N' src) (ok:X.Ok):∀y∈scope.names,y.2=NameKind.free->(X.env.cells.lookup y.1).isSome=true:=fun y hy e=>by
 obtain ⟨c,hc⟩:=ok.has y.1 (S.free y hy e);rw [hc];rfl
theorem CompScope.cell (S:CompScope X scope N' src) (ok:X.Ok) {x:Str}{c:Addr}(h:(zbC X.env.cells scope.names []).lookup x=some c):X.env.cells.lookup x=some c :=
 zeb X.env.cells x c scope.names [] (S.isFree ok) (fun _ e=>by simp at e) h
theorem zn7 (S:CompScope X scope N' src) (I:Inv X pins σ H s) (hfp:∀b∈fp,FpOk X pins H b) (hob:∀b∈fp,∃o,s.heap.get? b=some o) (hC:s.heap.objs.size<=C) {h1:Heap}{tk:Nat}{m:Str->Option Value}
  (hk:∀b o,s.heap.get? b=some o->h1.get? b=some o) (hns:h1.Ns C m):Inv (zav X scope N' C s H fp) [] (zdW src σ) H { s with heap:=h1,toks:=tk }:=by
 have cellOk:∀x c,(zbC X.env.cells scope.names []).lookup x=some c->X.env.cells.lookup x=some c:=fun x c h=>S.cell I.ok h;refine ⟨⟨I.ok.mod,?_,I.ok.glob,I.ok.blt,hC,?_,?_,?_,I.ok.hd,I.ok.frames,.inl rfl,?_,?_,?_,?_,?_,I.stack,I.stkFree⟩,rfl,I.bare,Un.kept hk,?_,?_,?_,?_,?_,I.hok.kept hk,?_⟩
 ·exact S.kind
 ·intro x y c hx hy
  exact I.ok.inj x y c (cellOk x c hx) (cellOk y c hy)
 ·intro x hx
  have hm:(x,NameKind.free)∈scope.names:=by
   rcases hx with hx|hx
   ·exact (zb4 (env:=X.env) (names:=scope.names) hx).1 rfl S.nocell
   ·exact (zb4 (env:=X.env) (names:=scope.names) hx).2 rfl
  exact Option.isSome_iff_exists.mp (zdg X.env.cells x scope.names [] hm)
 ·intro x c hf _
  exact nomatch hf
 ·intro b hb
  obtain ⟨o,ho⟩:=hob b hb;refine ⟨Nat.ne_of_lt (Nat.lt_of_lt_of_le (Heap.lt_size ho) hC),fun x c hc=>?_⟩;exact (hfp b hb).2.2.2.2.1 x c (cellOk x c hc)
 ·exact I.bs
 ·exact Nat.le_trans I.ok.bsz I.sz
 ·intro b o e hb
  rcases (hfp b hb).2.2.2.1 with z|z
  ·exact I.ok.noex b o e z
  ·exact absurd (Nat.lt_of_lt_of_le (Heap.lt_size e) (Nat.le_trans I.ok.bsz z)) (Nat.lt_irrefl _)
 ·intro b hb hf
  rcases Zk.mp (I.stkSub b hf) with z|z
  ·exact (hfp b hb).2.1 z
  ·exact (hfp b hb).2.2.1 z
 ·refine ⟨m,hns,fun i x v e1 e2 e3=>?_⟩
  have e2':((src.map fun o=>match o with|some j=>(σ[j]?).join|none=>none):St)[i]?=some (some v):=e2;rw [Zj] at e2';cases hs:src[i]? with
  | none=>rw [hs] at e2';cases e2'
  | some o =>
   rw [hs] at e2';cases o with
   | none=>simp at e2'
   | some j =>
    have ej:(σ[j]?).join=some v:=by simpa using e2'
    have ej':σ[j]?=some (some v):=by
     cases q:σ[j]? with
     | none=>rw [q] at ej;cases ej
     | some z=>rw [q] at ej;simp at ej;rw [ej]
    obtain ⟨hN,hkk,hlk⟩:=S.src i j x hs e1;have hmem:(x,NameKind.free)∈scope.names:=PySem.mem_of_lookup hlk;obtain ⟨m0,_,hl⟩:=I.loc;have vis:Vis X.env.scope x:=by rcases hkk with k|k;exact .inr (.inl k);exact .inr (.inr k)
    obtain ⟨u,r,l⟩:=hl j x v hN ej' vis;refine ⟨u,r,.inr ?_⟩;rcases l with ⟨hk',_⟩|⟨_,c,hc,z⟩
    ·rcases hkk with k|k<;>(rw [k] at hk';cases hk')
    ·obtain ⟨c',hc'⟩:=Option.isSome_iff_exists.mp (zdg X.env.cells x scope.names [] hmem)
     have hcc:=cellOk x c' hc';rw [hc] at hcc;cases hcc;obtain ⟨oc,ho,hd⟩:=z;refine ⟨?_,c,hc',⟨oc,hk _ _ ho,hd⟩⟩;exact zd3 (env:=X.env) hlk
 ·intro x c hc
  obtain ⟨v,o,ho,hd⟩:=I.cell x c (cellOk x c hc);exact ⟨v,o,hk _ _ ho,hd⟩
 ·exact I.hok.fresh hC
 ·intro x c hc
  exact I.freeC x c (cellOk x c hc)
 ·intro p hp
  exact absurd (show p∈([]:List (Addr×Obj)) from hp) (by simp)
 ·show (src.map _).length=N'.length
  rw [Zd];exact S.len
end
theorem zcW {prog:Program}{w:World}{A:Around}{R:Result->Shared->Prop}{s:Shared}{elt target iter:Expr}{ifs:List Expr}{scope:Scope}{pos:Pos}{it acc:Value}{env:Env}(I:Nat->Shared->Prop)
  (turn:∀n s,I n s->wpAny (model prog w) A (pyNext it) (fun r s₁=>match r with
   | none=>R (.ok .next) s₁
   | some v=>wpAny (model prog w) A (letOwnedTupleGo target it v) (fun _ s₁'=>wpAny (model prog w) A (assign target env v) (fun _ s₂ =>
     wpAny (model prog w) A (forIn ifs true fun c r=>if r=true then do let ok <- isTrue c env (eval c env);pure (ForInStep.yield ok) else pure (ForInStep.yield r)) (fun ok s₃ =>
      if ok=true then wpAny (model prog w) A (eval elt env) (fun x s₄ =>
       wpAny (model prog w) A (call (.builtin "list.append") [acc,x]) (fun _ s₅=>∃m,m < n/\I m s₅) (fun _ _=>False) s₄) (fun _ _=>False) s₃
      else ∃m,m < n/\I m s₃) (fun _ _=>False) s₂) (fun _ _=>False) s₁') (fun _ _=>False) s₁) (fun _ _=>False) s)
  (n:Nat) (h:I n s):codeAny (model prog w) A (.compLoop (.ListComp elt [⟨target,iter,ifs,0⟩] scope pos) 0 it acc env) R s:=by
 refine codeAny_loop rfl I (fun n s hI=>?_) n h;show wpAny _ A ((compTurn (.ListComp elt [⟨target,iter,ifs,0⟩] scope pos) 0 it acc env).onRaise (fun x=>do noteFrame x env;theTreesLotGoes x)) _ _ s;refine wpAny_noted ?_;rw [compTurn_list];refine wpAny_bind (wpAny_standAt (wpAny_bind (wpAny_mono (turn n s hI) (fun r s₁ h₁=>?_) fun _ _ h'=>h'.elim)));cases r with
 | none=>exact wpAny_pure h₁
 | some v =>
  refine wpAny_bind (wpAny_mono h₁ (fun _ s₁' h₁'=>?_) fun _ _ h'=>h'.elim);refine wpAny_bind (wpAny_mono h₁' (fun _ s₂ h₂=>wpAny_bind (wpAny_mono h₂ (fun ok s₃ h₃=>?_) fun _ _ h'=>h'.elim)) fun _ _ h'=>h'.elim);cases ok with
  | false=>exact wpAny_pure ⟨rfl,h₃⟩
  | true =>
   exact wpAny_bind (wpAny_bind (wpAny_mono h₃ (fun x s₄ h₄=>wpAny_bind (wpAny_mono h₄ (fun _ s₅ h₅=>wpAny_pure (wpAny_pure ⟨rfl,h₅⟩)) fun _ _ h'=>h'.elim)) fun _ _ h'=>h'.elim))
def PIfs (X:Cx) (ifs:List Expr) (t:TT):Prop :=
 ∀(pins:List (Addr×Obj)) (s:Shared) (σ:St) (H:Hp) (Q:Bool->Hp->Prop),Inv X pins σ H s->t σ H Q ->
  wpAny (model X.prog X.w) X.A (forIn ifs true fun c r=>if r=true then do let ok <- isTrue c X.env (eval c X.env);pure (ForInStep.yield ok) else pure (ForInStep.yield r)) (TP X pins σ Q) X.xe s
def tAll:TT:=fun _ H Q=>Q true H
theorem znH {X:Cx}:PIfs X [] tAll:=fun _ _ _ H _ I h=>wpAny_tests_nil ⟨H,I,h⟩
theorem znG {X:Cx}{c:Expr}{t:TT}(h:PT X c t):PIfs X [c] t:=fun pins s σ H Q I hq=>wpAny_tests_one (h pins s σ H Q I hq)
def zr1 (J:It) (g:TG) (tif:TT) (te:TE) (Fin:List V->Hp->Prop) (W:Nat->Nat->List V->St->Hp->Prop):Prop:=∀i m ys τ H,W i m ys τ H ->
 (J.stop i H/\ys.length<=sizeLine/\Fin ys H) \/
 (J.go i H/\ys.length < sizeLine /\ ∀x H',J.yld i H x H' -> g x τ H' fun τ2 H2=>tif τ2 H2 fun b H3=>if b=true then te τ2 H3 fun v H4=>∃m',m' < m/\W (i+1) m' (ys++[v]) τ2 H4 else ∃m',m' < m/\W (i+1) m' ys τ2 H3)
theorem HOk.track {P:Program}{w:World}{H:Hp}{h:Heap}{a:Addr}{o:HO}(x:HOk P w H h) (hn:H a=none) (new:za4 P w (upd H a o) h a o):HOk P w (upd H a o) h:=fun b u e=>by
 by_cases hb:b=a
 ·subst hb;rw [zaf] at e;cases e;exact new
 ·rw [zac hb] at e
  exact (x b u e).stay (fun c v _ q=>q) (fun c q=>by rw [zac (zaw q hn)];exact q) fun c xs q=>by rw [zac (zaw q hn)];exact q
section
variable {X:Cx}{scope:Scope}{N':List Str}{src:List (Option Nat)}{pins:List (Addr×Obj)}{σ τ:St}{H H':Hp}{s s':Shared}{fp:List Addr}{C D:Addr}
theorem zic {ys:List V}{its:List Value}{cap:Nat}(I:Inv X pins σ H s) (hfp:∀b∈fp,FpOk X pins H b) (J:Inv (zav X scope N' C s H fp) [] τ H' s') (hD:s.heap.objs.size<=D) (hn:H' D=none)
  (hv:Vals ys its) (hz:ys.length<=sizeLine) (e:s'.heap.get? D=some { cls:=.type "list",data:=.seq its.toArray cap }):Inv X pins σ (upd H' D (.lst ys)) s':=by
 have nD:∀b o,s.heap.get? b=some o->b≠D:=fun b o q=>Nat.ne_of_lt (Nat.lt_of_lt_of_le (Heap.lt_size q) hD);have nH:∀b o,H b=some o->b≠D:=fun b o q=>Nat.ne_of_lt (Nat.lt_of_lt_of_le (I.hok.lt q) hD);have u:=J.base;have u':Un (frs X.stack) fp H (upd H' D (.lst ys)) s.heap s'.heap:=by
  refine ⟨u.keep,u.slot,fun b o q n hx=>?_,u.there,fun b xs q=>?_,fun b o z q=>?_,fun b ps q=>?_⟩
  ·rw [zac (nD b o q)];exact u.free b o q n hx
  ·rw [zac (nH b _ q)];exact u.tups b xs q
  ·rw [zac (nH b _ q)];exact u.frzs b o z q
  ·rw [zac (nH b _ q)];exact u.tbls b ps q
 refine I.call' (ch:=fp) J.os u' (J.hok.track hn ⟨hz,its,cap,hv,e⟩) J.bare fun b hb=>?_;obtain ⟨_,h2,_,h4,h5,h6⟩:=hfp b hb;exact ⟨h4,h2,h5,h6⟩
theorem zga {H1:Hp}{h':Heap}(I:Inv X pins σ H s) (J:Inv X pins τ H1 s') (hC:s.heap.objs.size<=C) (hn:H1 C=none) (hs:Heap.SameBut C s'.heap h'):Inv X pins τ H1 { s' with heap:=h' }:=by
 have f:FpOk X pins H1 C:=I.fpOk hC hn;exact J.turned (t':=s'.toks) (fun b o hb q=>(hs.2 b hb).trans q) hn f.2.1 f.2.2.2.1 f.2.2.2.2.1 f.2.2.2.2.2
end
section
variable {X:Cx}{scope:Scope}{N':List Str}{src:List (Option Nat)}{elt target iter:Expr}{ifs:List Expr}{pos:Pos}{g:TG}{tif:TT}{te:TE}
theorem zgb {pins:List (Addr×Obj)}{σ:St}{H2:Hp}{s₂:Shared}{it:Addr}{fp:List Addr}{tn:Nat->Heap->Prop}{J:It}{Fin:List V->Hp->Prop}{W:Nat->Nat->List V->St->Hp->Prop}{RR:Value->Addr->Result->Shared->Prop}{E:Value->Shared->Prop}
  (S:CompScope X scope N' src) (hc:X.calm=true) (hg:∀C s H fp,PG (zav X scope N' C s H fp) target g) (hif:∀C s H fp,PIfs (zav X scope N' C s H fp) ifs tif) (he:∀C s H fp,PE (zav X scope N' C s H fp) elt te)
  (I2:Inv X pins σ H2 s₂) (T:Turn X.prog X.w X.K target J fp it tn) (st:tn 0 s₂.heap) (hfp:∀b∈fp,FpOk X pins H2 b) (w0:∃m,W 0 m [] (zdW src σ) H2) (hW:zr1 J g tif te Fin W)
  (hRR:∀D C τ H ys its cap s',Inv (zav X scope N' C s₂ H2 fp) [] τ H s' -> s₂.heap.objs.size<=D->s₂.heap.objs.size<=C->D≠C->H D=none->Vals ys its->ys.length<=sizeLine ->
   s'.heap.get? D=some { cls:=.type "list",data:=.seq its.toArray cap }->Fin ys H->RR (.ref D) C (.ok .next) s') :
  wpAny (model X.prog X.w) X.A (newList []) (fun acc s₃=>wpAny (model X.prog X.w) X.A (newFunctionEnv scope X.env.globals (zbC X.env.cells scope.names []) [] X.env.qual none .none (some X.env)) (fun cenv s₄ =>
   codeAny (model X.prog X.w) X.A (.compStart (.ListComp elt [⟨target,iter,ifs,0⟩] scope pos) 0 (.ref it) acc { cenv with scope:=relabel scope X.env }) (RR acc cenv.locals) s₄) E s₃) E s₂:=by
 refine wpAny_newObj_type (wpAny_newFunctionEnv S.nocell (by intro y hy;simp at hy) (fun h₁ hns₁ hsb₁=>?_) S.kind);dsimp only at hns₁ hsb₁ ⊢;generalize hH2:s₂.heap.push { cls:=.type "list",dict:=none,data:=.seq ([]:List Value).toArray }=G at hns₁ hsb₁ ⊢;have hC:G.objs.size=s₂.heap.objs.size+1:=by rw [<- hH2,Heap.size_push]
 have hDC:s₂.heap.objs.size≠G.objs.size:=by rw [hC];exact Nat.ne_of_lt (Nat.lt_succ_self _)
 have hCle:s₂.heap.objs.size<=G.objs.size:=by rw [hC];exact Nat.le_succ _
 have below:∀b,b < s₂.heap.objs.size->b≠G.objs.size/\b≠s₂.heap.objs.size:=fun b hb=>⟨by rw [hC];exact Nat.ne_of_lt (Nat.lt_succ_of_lt hb),Nat.ne_of_lt hb⟩
 have old:∀b o,s₂.heap.get? b=some o->h₁.get? b=some o:=fun b o e=>hsb₁.extBut b o (below b (Heap.lt_size e)).1 (Heap.get?_push_of_some _ (hH2 ▸ Heap.get?_push_of_some _ e));have hacc:h₁.get? s₂.heap.objs.size=some { cls:=.type "list",data:=.seq ([]:List Value).toArray 0 }:=hsb₁.extBut _ _ hDC (Heap.get?_push_of_some _ (hH2 ▸ Heap.get?_push_size _ rfl));have hob:∀b∈fp,∃o,s₂.heap.get? b=some o:=fun b hb=>let ⟨o,e,_⟩:=T.obj 0 _ st b hb;⟨o,e⟩;have hst₁:tn 0 h₁:=T.keep _ _ _ st fun b _ o e=>old b o e;generalize hCe:G.objs.size=C at *;generalize hDe:s₂.heap.objs.size=D at *;have I0:Inv (zav X scope N' C s₂ H2 fp) [] (zdW src σ) H2 { s₂ with heap:=h₁,toks:=s₂.toks + ([]:List (Str×Value)).length }:=zn7 S I2 hfp hob (by rw [hDe];exact hCle) old hns₁;have hDfs:D∉frs X.stack:=fun hb=>by
  rcases Zk.mp (I2.stkSub D hb) with z|z
  ·exact absurd I2.lt (by rw [<- z,hDe];exact Nat.lt_irrefl _)
  ·exact I2.nofs (Nat.le_of_eq hDe) z
 obtain ⟨m0,w0⟩:=w0;have loop:∀s₃:Shared,s₃ = { s₂ with heap:=h₁,toks:=s₂.toks + ([]:List (Str×Value)).length } ->
   codeAny (model X.prog X.w) X.A (.compLoop (.ListComp elt [⟨target,iter,ifs,0⟩] scope pos) 0 (.ref it) (.ref D) (compEnvC scope (zbC X.env.cells scope.names []) C X.env)) (RR (.ref D) C) s₃:=by
  rintro s₃ rfl;refine zcW (fun n s'=>∃i τ H ys its cap,Inv (zav X scope N' C s₂ H2 fp) [] τ H s' /\ tn i s'.heap/\(∀b∈fp,H b=none)/\H D=none/\Vals ys its /\
   s'.heap.get? D=some { cls:=.type "list",data:=.seq its.toArray cap }/\W i n ys τ H) ?_ m0 ⟨0,_,H2,[],[],0,I0,hst₁,fun b hb=>(hfp b hb).1,I2.hok.fresh (Nat.le_of_eq hDe),.nil,hacc,w0⟩
  rintro n s3 ⟨i,τ,H,ys,its,cap,I3,st3,fr3,hD3,rv,hl,w3⟩;have stat:∀{H':Hp}(ob:Obj),(∀b∈fp,H' b=none) -> ∀b∈fp,FpOk (zav X scope N' C s₂ H2 fp) [(D,ob)] H' b:=fun {H'} ob hn b hb=>by
   obtain ⟨e1,e2⟩:=I3.ok.exf b hb;refine ⟨hn b hb,e1,I3.ok.exfs b hb,.inl hb,e2,fun p hp=>?_⟩;have hp':p=(D,ob):=by simpa [zav] using hp
   subst hp';obtain ⟨o,ho⟩:=hob b hb;exact fun z=>absurd (Heap.lt_size ho) (by rw [<- z,hDe];exact Nat.lt_irrefl _)
  have I3':Inv (zav X scope N' C s₂ H2 fp) [(D,{ cls:=.type "list",data:=.seq its.toArray cap })] τ H s3:=I3.pins_of fun p hp=>by
   have hp':p=(D,{ cls:=.type "list",data:=.seq its.toArray cap }):=by simpa using hp
   subst hp';exact ⟨hl,hD3,hDC,hDfs,fun v z=>nomatch z⟩
  rcases hW i n ys τ H w3 with ⟨stop,hz,fin⟩|⟨go,hlt,step⟩
  ·refine thn (T.done (zav X scope N' C s₂ H2 fp) rfl rfl rfl hc i _ s3 τ H (fun _ _=>False) I3' (stat _ fr3) st3 stop) fun r s4 ⟨hr,I4⟩=>?_
   subst hr;have pD:=I4.pin (D,{ cls:=.type "list",data:=.seq its.toArray cap }) (by simp [zav]);exact hRR D C τ H ys its cap s4 (I4.pins_of fun p hp=>absurd hp (by simp)) (Nat.le_refl _) hCle hDC pD.2.1 rv hz pD.1 fin
  ·refine thn (T.item (zav X scope N' C s₂ H2 fp) rfl rfl rfl hc i _ s3 τ H (fun _ _=>False) I3' (stat _ fr3) st3 go) fun r s4 ⟨u,hr,h4⟩=>?_
   subst hr;refine thn h4 fun _ s5 ⟨x,H5,I5,r5,y5,st5,fr5⟩=>?_;have I5':=I5.pinned (stat _ fr5) (T.obj _ _ st5);refine thn (hg C s₂ H2 fp _ s5 τ H5 x u _ I5' r5 (step x H5 y5)) fun _ s6 ⟨τ6,H6,I6,q6⟩=>?_;refine thn (hif C s₂ H2 fp _ s6 τ6 H6 _ I6 q6) fun ok s7 ⟨H7,I7,q7⟩=>?_;have again:∀{τ':St}{H':Hp}{s':Shared},Inv (zav X scope N' C s₂ H2 fp) ([(D,{ cls:=.type "list",data:=.seq its.toArray cap })]++zhD fp s5.heap) τ' H' s' ->
     Inv (zav X scope N' C s₂ H2 fp) [] τ' H' s' /\ tn (i+1) s'.heap/\(∀b∈fp,H' b=none)/\H' D=none/\s'.heap.get? D=some { cls:=.type "list",data:=.seq its.toArray cap }:=fun {τ' H' s'} K=>by
    have pD:=K.pin (D,{ cls:=.type "list",data:=.seq its.toArray cap }) (by simp [zav]);refine ⟨K.pins_of fun p hp=>absurd hp (by simp),T.keep _ _ _ st5 fun b hb o e=>(K.pin (b,o) (List.mem_append_right _ (List.mem_append_right _ (zcS hb e)))).1,fun b hb=>?_,pD.2.1,pD.1⟩;obtain ⟨o,e,d⟩:=T.obj _ _ st5 b hb;exact (K.pin (b,o) (List.mem_append_right _ (List.mem_append_right _ (zcS hb e)))).2.1
   cases ok with
   | false =>
    obtain ⟨m',hm,w'⟩:=q7;obtain ⟨K,k2,k3,k4,k5⟩:=again I7;exact ⟨m',hm,i+1,τ6,H7,ys,its,cap,K,k2,k3,k4,rv,k5,w'⟩
   | true =>
    refine thn (he C s₂ H2 fp _ s7 τ6 H7 _ I7 q7) fun z s8 ⟨v,H8,I8,r8,m',hm,w'⟩=>?_;obtain ⟨K,k2,k3,k4,k5⟩:=again I8;have hlen:=rv.length;refine call_meets F.slot_list_append ⟨_,k5,rfl⟩ F.entry_list_append (F.args_list_append_2 _ _) (PySem.list_append D its.toArray cap z (by rw [Zm];omega)) ⟨k5,?_⟩;obtain ⟨cap',q⟩:∃cap',(s8.heap.update D (Obj.mapSeq fun a=>a.push z)).get? D=some { cls:=.type "list",data:=.seq (its++[z]).toArray cap' }:=by
     have q:=PySem.IsL.update k5 (fun a=>a.push z);have e2:its.toArray.push z=(its++[z]).toArray:=by simp
     rw [e2] at q;exact ⟨_,q⟩
    have keep:∀b o,b≠D->s8.heap.get? b=some o->(s8.heap.update D (Obj.mapSeq fun a=>a.push z)).get? b=some o:=fun b o hb hu=>(Heap.get?_update_other s8.heap _ (Ne.symm hb)).trans hu;have fD:∀x c,(zav X scope N' C s₂ H2 fp).env.cells.lookup x=some c->c≠D:=fun x c hcc zz=>by
     obtain ⟨v,o,ho,_⟩:=I2.cell x c (S.cell I2.ok hcc);exact absurd (Heap.lt_size ho) (by rw [zz,hDe];exact Nat.lt_irrefl _)
    refine ⟨m',hm,i+1,τ6,H8,ys++[v],its++[z],cap',K.turned (t':=s8.toks) keep k4 hDC (.inr (Nat.le_of_eq hDe)) fD (fun p hp=>absurd (show p∈([]:List (Addr×Obj)) from hp) (by simp)),T.keep _ _ _ k2 fun b hb o e=>keep b o (fun zz=>?_) e,k3,k4,rv.append (.cons r8 .nil),q,w'⟩;obtain ⟨o',ho'⟩:=hob b hb;exact absurd (Heap.lt_size ho') (by rw [zz,hDe];exact Nat.lt_irrefl _)
 exact codeAny_compStart_list (loop _ rfl) (T.self _ 0 _ _ _ hst₁ (loop _ rfl))
def zhf (src:List (Option Nat)) (wi:TI) (g:TG) (tif:TT) (te:TE):TE:=fun σ H Q=>wi σ H fun J H1=>∃W:Nat->Nat->List V->St->Hp->Prop,(∃m,W 0 m [] (zdW src σ) H1) /\
 zr1 J g tif te (fun ys H'=>∀D,H' D=none->Q (.ref D) (upd H' D (.lst ys))) W
theorem zlE {wi:TI}(S:CompScope X scope N' src) (hc:X.calm=true) (hi:PI X target iter wi) (hg:∀C s H fp,PG (zav X scope N' C s H fp) target g) (hif:∀C s H fp,PIfs (zav X scope N' C s H fp) ifs tif)
  (he:∀C s H fp,PE (zav X scope N' C s H fp) elt te) (hs:∀x,foldedSetIterable iter X.env x=pure x:=by intro _;rfl):PE X (.ListComp elt [⟨target,iter,ifs,0⟩] scope pos) (zhf src wi g tif te):=by
 intro pins s σ H Q I h;rw [eval_ListComp];refine wpAny_comprehension_free (use:=none) rfl hs (zdH (S.isFree I.ok)) S.kind S.names (thn (hi pins s σ H _ I h) fun v s1 h1=>thn h1 fun itv s2 h2=>?_);obtain ⟨it,fp,tn,J,H2,rfl,I2,T,st2,f2,W,w0,hW⟩:=h2;refine zgb (RR:=fun acc C=>compPost (model X.prog X.w) X.A X.xe none (EP X pins σ Q) acc C) S hc hg hif he I2 T st2 f2 w0 hW ?_;intro D C τ H' ys its cap s' K hD hC hDC hn rv hz e fin;obtain ⟨m,hns,_⟩:=K.loc;refine ⟨m,hns,fun h' hsb=>⟨.ref D,upd H' D (.lst ys),?_,rfl,fin D hn⟩⟩;exact zga I2 (zic I2 f2 K hD hn rv hz e) hC (by rw [zac (Ne.symm hDC)];exact K.free) hsb
def zgm (j:Nat) (src:List (Option Nat)) (wi:TI) (g:TG) (tif:TT) (te:TE):TS:=fun D σ H=>zhf src wi g tif te σ H fun v H1=>D.nx (σ.set j (some v)) H1
theorem zfT {wi:TI}{j:Nat}{y:Str}{py spos:Pos}(hN:X.N.Nodup) (hj:X.N[j]?=some y) (hy:X.env.scope.names.lookup y=some .local) (S:CompScope X scope N' src) (hc:X.calm=true) (hi:PI X target iter wi) (hg:∀C s H fp,PG (zav X scope N' C s H fp) target g)
  (hif:∀C s H fp,PIfs (zav X scope N' C s H fp) ifs tif) (he:∀C s H fp,PE (zav X scope N' C s H fp) elt te) (hsw:swapsWith (.ListComp elt [⟨target,iter,ifs,0⟩] scope pos) (some (.Name y py)) spos.line X.env=pure true:=by rfl)
  (hs:∀x,foldedSetIterable iter X.env x=pure x:=by intro _;rfl):PS X (.Assign [.Name y py] (.ListComp elt [⟨target,iter,ifs,0⟩] scope pos) spos) (zgm j src wi g tif te):=by
 intro pins s σ H Q I h;rw [exec_Assign_Name_used _ _ _ _ hsw];refine wpAny_bind (wpAny_standAt (wpAny_bind ?_));show wpAny _ X.A (do let _ <- comprehension (.ListComp elt [⟨target,iter,ifs,0⟩] scope pos) scope X.env _ (newList []) false (eval iter X.env) (some (assign (.Name y py) X.env))) _ _ s;refine wpAny_bind (wpAny_mono (wpAny_comprehension_free (use:=some (assign (.Name y py) X.env)) (Q:=fun _ s'=>SP X pins Q .next s') rfl hs (zdH (S.isFree I.ok)) S.kind S.names
  (thn (hi pins s σ H _ I h) fun v s1 h1=>thn h1 fun itv s2 h2=>?_)) (fun _ s' hq=>wpAny_pure (wpAny_pure hq)) fun _ _ e=>e)
 obtain ⟨it,fp,tn,J,H2,rfl,I2,T,st2,f2,W,w0,hW⟩:=h2;refine zgb (RR:=fun acc C=>compPost (model X.prog X.w) X.A X.xe (some (assign (.Name y py) X.env)) (fun _ s'=>SP X pins Q .next s') acc C) S hc hg hif he I2 T st2 f2 w0 hW ?_;intro D C τ H' ys its cap s' K hD hC hDC hn rv hz e fin;obtain ⟨m,hns,_⟩:=K.loc;have J0:=zic I2 f2 K hD hn rv hz e;show wpAny _ X.A (assign (.Name y py) X.env (.ref D)) _ _ _;refine wpAny_assign_Name (zhg J0 hN hj (.inl hy) (v:=.ref D) rfl (fun s'' J1 ⟨a,hsa,ha⟩=>?_) (.inr hy));have hCa:C≠a:=by
  have f:=I2.fpOk (pins:=pins) hC (H':=fun _=>none) rfl;rcases ha with ha|ha
  ·rw [ha];exact f.2.1
  ·exact fun z=>f.2.2.2.2.1 y a ha z.symm
 refine ⟨m,hns.sameBut hsa hCa,fun h' hsb=>⟨_,_,?_,fin D hn⟩⟩;exact zga I2 J1 hC (by rw [zac (Ne.symm hDC)];exact K.free) hsb
end
def Itf (val:Nat->V) (n:Nat):It:=⟨fun i _=>i < n,fun i H x H'=>H'=H/\x=val i,fun i _=>i=n⟩
theorem zdL {P:Program}{w:World}{K:PySem.W.Frag}{tg:Expr}{it:Addr}{n:Nat}{Pv:Nat->Value->Prop}{St:Nat->Heap->Prop}{val:Nat->V}
  (W:∀A:Around,A.handled=none->Walks P w A it [it] [it] n Pv St)
  (ho:∀i h,St i h -> ∃(o:Obj) (T:String) (vs:Array Value),h.get? it=some o/\o.cls=.type T/\o.data=.fields vs /\
   ["enumerate","zip","dict_itemiterator","dict_reverseitemiterator","odict_iterator","itertools.zip_longest","itertools.pairwise"].contains T=false)
  (hv:∀i v,Pv i v->RelV (val i) v) (hself:∀(A:Around) (i:Nat) (s:Shared) (Q:Value->Shared->Prop) (E:Value->Shared->Prop),St i s.heap->Q (.ref it) s->wpAny (model P w) A (pyIter (.ref it)) Q E s):Turn P w K tg (Itf val n) [it] it St where
 mem:=by simp
 obj:=fun i h st b hb=>by
  have e:b=it:=by simpa using hb
  subst e;obtain ⟨o,T,vs,h1,h2,h3,_⟩:=ho i h st;exact ⟨o,h1,fun v z=>by rw [h3] at z;cases z⟩
 keep:=fun i h h' st k=>(W {} rfl).frame i h h' st k
 item:=by
  intro X hP hw hK hc i pins s σ H E I hf st hg;subst hP hw hK;obtain ⟨f0,f1,f2,f3,f4,f5⟩:=hf it (by simp);refine (W X.A (I.ok.hd hc)).item i s _ _ hg st fun v h' tk pv st' kk=>?_;have I1:Inv X pins σ H { s with heap:=h',toks:=tk }:=I.turned (fun b o hb e=>kk b o (by simpa using hb) e) f0 f1 f3 f4 f5;obtain ⟨o,T,vs,h1,h2,h3,h4⟩:=ho _ _ st';exact ⟨v,rfl,zmp (s:={ s with heap:=h',toks:=tk }) h1 h2 h3 h4 ⟨val i,H,I1,hv i v pv,⟨rfl,rfl⟩,st',fun b hb=>(hf b hb).1⟩⟩
 done:=by
  intro X hP hw hK hc i pins s σ H E I hf st hg;subst hP hw hK;obtain ⟨f0,f1,f2,f3,f4,f5⟩:=hf it (by simp);cases (show i=n from hg);exact (W X.A (I.ok.hd hc)).done s _ _ st fun h' tk kk=>⟨rfl,I.turned (fun b o hb e=>kk b o (by simpa using hb) e) f0 f1 f3 f4 f5⟩
 self:=hself
def zqb (x:Str) (i:Nat):V:=.str ⟨#[x.cps.getD i 0]⟩
theorem zi9 {x:Str}{i:Nat}{v:Value}(h:SignAt x i v):RelV (zqb x i) v:=by
 obtain ⟨c,u,hc,rfl⟩:=h;refine ⟨u,?_⟩;rw [Array.getD_eq_getD_getElem?,hc];rfl
section
variable {X:Cx}{tg:Expr}
def iStr (tl:TE):TI:=fun σ H R=>tl σ H fun x H1=>∃z,x=.str z/\R (Itf (zqb z) z.cps.size) H1
theorem ztN {l:Expr}{tl:TE}(hl:PE X l tl):PI X tg l (iStr tl):=by
 intro pins s σ H R I h;refine thn (hl pins s σ H _ I h) fun v s1 ⟨x,H1,I1,r1,q1⟩=>?_;obtain ⟨z,rfl,q⟩:=q1;obtain ⟨t,rfl⟩:=r1;have fin:∀(o:Obj) (St:Nat->Heap->Prop),Turn X.prog X.w X.K tg (Itf (zqb z) z.cps.size) [s1.heap.objs.size] s1.heap.objs.size St->St 0 (s1.heap.push o)->PIE X pins σ tg R (.ref s1.heap.objs.size) { s1 with heap:=s1.heap.push o }:=fun o St T st=>by
  refine ⟨s1.heap.objs.size,[s1.heap.objs.size],St,_,H1,rfl,I1.kept (t':=s1.toks) fun b o e=>Heap.get?_push_of_some _ e,T,st,fun b hb=>?_,q⟩;have e:b=s1.heap.objs.size:=by simpa using hb
  subst e;exact I1.fpOk (Nat.le_refl _) (I1.hok.fresh (Nat.le_refl _))
 cases ha:z.cps.all (· < 128)
 ·refine wpAny_pyIter_wide ha (fin _ (fun i h=>h.IsStrIter s1.heap.objs.size "str_iterator" z t i) (zdL (fun A hA=>Walks.strWide hA _ z t) (fun i h ⟨o,h1,h2,h3⟩=>⟨o,_,_,h1,h2,h3,by decide⟩) (fun i v pv=>zi9 pv)
   (fun A i s Q E st h=>wpAny_pyIter_striter_wide st h)) ⟨_,Heap.get?_push_size _ rfl,rfl,rfl⟩)
 ·refine wpAny_pyIter_ascii ha (fin _ (fun i h=>h.IsStrIter s1.heap.objs.size "str_ascii_iterator" z t i) (zdL (fun A hA=>Walks.strAscii hA _ z t) (fun i h ⟨o,h1,h2,h3⟩=>⟨o,_,_,h1,h2,h3,by decide⟩) (fun i v pv=>zi9 pv)
   (fun A i s Q E st h=>wpAny_pyIter_striter_ascii st h)) ⟨_,Heap.get?_push_size _ rfl,rfl,rfl⟩)
def rLeS:R2:=fun x y H Q=>∃i j,x=.str i/\y=.str j/\Q (.bl (!decide (j.cps.toList < i.cps.toList))) H
theorem zlI:OpR X (compareOp .LtE) rLeS:=by
 intro pins s σ H x y v u Q I rx ry h;obtain ⟨i,j,rfl,rfl,q⟩:=h;obtain ⟨t,rfl⟩:=rx;obtain ⟨t',rfl⟩:=ry;exact PySem.P.le_str (zaA I q rfl)
end
section
variable {X:Cx}
def rAll (K:PySem.W.Frag):List V->Hp->VK->Prop:=fun xs H Q=>∃(p:Addr) (bs:List Bool),xs = [.ref p]/\SqL K H p (bs.map V.bl)/\Q (.bl (bs.all id)) H
theorem zol (hc:X.calm=true):zbL X (.builtin "all") (rAll X.K):=by
 intro pins s σ H xs us Q I r h;obtain ⟨p,bs,rfl,hq,q⟩:=h;obtain ⟨u,rfl,rx⟩:=vals1 r;cases rx;obtain ⟨its,r',pl,hz⟩:=I.list hq;have hb:∀{its:List Value}{bs:List Bool},Vals (bs.map V.bl) its->its=bs.map Value.bool:=fun {its bs}=>by
  induction bs generalizing its with
  | nil=>intro h;cases h;rfl
  | cons b bs ih=>intro h;cases h with|cons a t=>cases a;rw [ih t];rfl
 have eb:=hb r';subst eb;have hl:=pl.isList;have hlt:p < s.heap.objs.size:=by obtain ⟨_,e,_⟩:=hl;exact Heap.lt_size e
 refine call_all_walk (wpAny_pyIter_list hl ?_);refine ⟨s.heap.objs.size,[s.heap.objs.size,p],[s.heap.objs.size],(bs.map Value.bool).toArray.size,_,_,fun i=>(bs[i]?).getD true,rfl,Walks.list (A:=X.A.in1) (I.ok.hd hc) _ p (Nat.ne_of_lt hlt) (bs.map Value.bool).toArray,
  ⟨⟨_,Heap.get?_push_size _ rfl,rfl,rfl⟩,hl.push _⟩,fun i v s' Q' E' hP hQ=>?_,fun h' tk hk=>?_⟩
 ·have e:bs[i]?.map Value.bool=some v:=by simpa using hP
  obtain ⟨b,eb,rfl⟩:=Zb.mp e;simp only [eb,Option.getD_some] at hQ;exact wpAny_truthy_bool hQ
 ·have e:((List.range (bs.map Value.bool).toArray.size).all fun i=>(bs[i]?).getD true)=bs.all id:=by
   rw [Zm,Zd];exact LSm.range_all bs
  rw [e];exact ⟨.bl _,H,I.kept (t':=tk) (LSm.kept_iter hk),rfl,q⟩
end
theorem Inv.track {X:Cx}{pins:List (Addr×Obj)}{σ:St}{H:Hp}{s:Shared}{a:Addr}{o:HO}(I:Inv X pins σ H s) (f:FpOk X pins H a) (hz:X.s₀.heap.objs.size<=a) (new:za4 X.prog X.w (upd H a o) s.heap a o):Inv X pins σ (upd H a o) s:=by
 have B:=I.base;have hn:=f.1;have ne:∀b u,H b=some u->b≠a:=fun b u q=>zaw q hn;refine ⟨I.ok,I.os,I.bare,⟨B.keep,B.slot,fun b u q n hx=>?_,B.there,fun b xs q=>?_,fun b u w q=>?_,fun b ps q=>?_⟩,I.loc,I.cell,?_,fun x c e=>?_,fun p hp=>?_,I.hok.track hn new,I.len⟩
 ·rw [zac (Nat.ne_of_lt (Nat.lt_of_lt_of_le (Heap.lt_size q) hz))];exact B.free b u q n hx
 ·rw [zac (ne b _ (B.tups b xs q))];exact B.tups b xs q
 ·rw [zac (ne b _ (B.frzs b u w q))];exact B.frzs b u w q
 ·obtain ⟨more,q'⟩:=B.tbls b ps q
  exact ⟨more,by rw [zac (ne b _ q')];exact q'⟩
 ·rw [zac (Ne.symm f.2.1)];exact I.free
 ·rw [zac (f.2.2.2.2.1 x c e)];exact I.freeC x c e
 ·obtain ⟨e,n,r⟩:=I.pin p hp
  exact ⟨e,by rw [zac (f.2.2.2.2.2 p hp)];exact n,r⟩
def Itk (d:Addr) (o:Obj) (kvs:List (Key×V)):It :=
 ⟨fun i H=>i < kvs.length/\H d=some (.frz o (.dK kvs)),fun i H x H'=>H'=H /\ ∃k v,kvs[i]?=some (k,v)/\x=kV k,fun i H=>i=kvs.length/\H d=some (.frz o (.dK kvs))⟩
def Iti (d:Addr) (o:Obj) (kvs:List (Key×V)):It :=
 ⟨fun i H=>i < kvs.length/\H d=some (.frz o (.dK kvs)),fun i H x H'=>∃k v t,kvs[i]?=some (k,v)/\x=.ref t/\H t=none/\H'=upd H t (.tup [kV k,v]),fun i H=>i=kvs.length/\H d=some (.frz o (.dK kvs))⟩
theorem KV.len:∀{kvs:List (Key×V)}{vs:List (Key×Value)},KV kvs vs->kvs.length=vs.length:=fun h=>Paired.length h
theorem KV.at:∀{kvs:List (Key×V)}{vs:List (Key×Value)}{i:Nat}{k:Key}{v:V},KV kvs vs->kvs[i]?=some (k,v) -> ∃u,vs[i]?=some (k,u)/\RelV v u
 | _,_,_,_,_,.nil,e=>by simp at e
 | _,_,0,k,v,.cons (b:=b) r _,e=>by
  simp at e;subst e;obtain ⟨b1,b2⟩:=b;obtain ⟨r1,r2⟩:=r;simp at r1 r2;subst r1;exact ⟨b2,rfl,r2⟩
 | _,_,i+1,k,v,.cons _ t,e=>by
  obtain ⟨u,h1,h2⟩:=KV.at (i:=i) t (by simpa using e);exact ⟨u,by simpa using h1,h2⟩
theorem zh1 {k:Key}{v:Value}(h:ziN k v=true):RelV (kV k) v:=by
 rcases zaJ h with ⟨i,t,rfl,rfl⟩|⟨x,t,rfl,rfl⟩
 ·exact ⟨t,rfl⟩
 ·exact ⟨t,rfl⟩
theorem zf8 {X:Cx}{pins:List (Addr×Obj)}{σ:St}{H:Hp}{s:Shared}{d:Addr}{o:Obj}{kvs:List (Key×V)}(I:Inv X pins σ H s) (h:H d=some (.frz o (.dK kvs))) :
  ∃vs es ep,o.data=.dict es ep/\KV kvs vs/\(d==sysModules)=false/\s.heap.DictAt (zaE X.prog X.w) d vs ep:=by
 obtain ⟨e,_,hs,vs,hk,o',es,ep,e',r⟩:=(show za4 X.prog X.w H s.heap d (.frz o (.dK kvs)) from I.hok d _ h)
 rw [e] at e';cases e';exact ⟨vs,es,ep,r.2.1,hk,hs,o,es,e,r⟩
theorem zfC {prog:Program}{w:World}{A:Around}{E:Value->Shared->Prop}{s:Shared}{it d:Addr}{i n ep:Nat}{Q:Value->Shared->Prop}(hit:s.heap.IsKeyIter it d i n ep) (h:Q (.ref it) s) :
  wpAny (model prog w) A (pyIter (.ref it)) Q E s:=by
 refine wpAny_pyIter_slot hit.typeIs F.slot_dict_keyiterator_iter (wpAny_call_entry F.slot_dict_keyiterator_iter hit.typeIs F.entry_dict_keyiterator_iter ?_ (F.args_dict_keyiterator_iter_1 _));show wpAny _ _ (ret (.ref it)) _ _ s;exact wpAny_pure ⟨_,rfl,"dict_keyiterator",_,hit.typeIs,F.slot_dict_keyiterator_next.lookup,h⟩
theorem zkR {P:Program}{w:World}{K:PySem.W.Frag}{tg:Expr}(d it:Addr) (o:Obj) (kvs:List (Key×V)):Turn P w K tg (Itk d o kvs) [it] it (fun i h=>∃es ep,o.data=.dict es ep/\h.IsKeyIter it d i kvs.length ep) where
 mem:=by simp
 obj:=fun i h st b hb=>by
  have e:b=it:=by simpa using hb
  subst e;obtain ⟨_,_,_,o,e,c,dd⟩:=st;exact ⟨o,e,fun v z=>by rw [dd] at z;cases z⟩
 keep:=fun i h h' ⟨es,ep,a,o',e,r⟩ k=>⟨es,ep,a,o',k it (by simp) o' e,r⟩
 item:=by
  intro X hP hw hK hc i pins s σ H E I hf ⟨es,ep,he,st⟩ ⟨hi,hd⟩;subst hP hw hK;obtain ⟨f0,f1,f2,f3,f4,f5⟩:=hf it (by simp);obtain ⟨vs,es',ep',he',hk,_,da⟩:=zf8 I hd;rw [he] at he';cases he';obtain ⟨k,v,hkv⟩:∃k v,kvs[i]?=some (k,v):=⟨_,_,Zc hi⟩
  obtain ⟨u,hu,ru⟩:=hk.at hkv;rw [hk.len] at st;refine wpAny_pyNext_dict_item st da hu fun key h' hkey st' sb=>?_;have I1:Inv X pins σ H { s with heap:=h' }:=I.turned (t':=s.toks) (fun b o hb e=>(sb.2 b hb).trans e) f0 f1 f3 f4 f5;obtain ⟨o1,e1,c1,d1⟩:=id st';exact ⟨key,rfl,zmp (s:={ s with heap:=h' }) e1 c1 d1 (by decide) ⟨kV k,H,I1,zh1 hkey,⟨rfl,k,v,hkv,rfl⟩,⟨es,ep,he,by rw [hk.len];exact st'⟩,fun b hb=>(hf b hb).1⟩⟩
 done:=by
  intro X hP hw hK hc i pins s σ H E I hf ⟨es,ep,he,st⟩ ⟨hi,hd⟩;subst hP hw hK;obtain ⟨f0,f1,f2,f3,f4,f5⟩:=hf it (by simp);obtain ⟨vs,es',ep',he',hk,_,da⟩:=zf8 I hd;rw [he] at he';cases he';rw [hk.len] at st;exact wpAny_pyNext_dict_end (I.ok.hd hc) st da (List.getElem?_eq_none (by rw [hi,hk.len];exact Nat.le_refl _)) fun h' eb=>⟨rfl,I.turned (t':=s.toks) (fun b o hb e=>eb b o hb e) f0 f1 f3 f4 f5⟩
 self:=fun A i s Q E ⟨es,ep,he,st⟩ h=>zfC st h
theorem zdf:entryFor table "dict_itemiterator.__iter__" = some Builtin.«dict_keyiterator.__iter__» :=
 entryFor_alias (id':="dict_keyiterator.__iter__") (by kernel_rfl) rfl (by decide +kernel) (by kernel_rfl)
theorem zeN {prog:Program}{w:World}{A:Around}{E:Value->Shared->Prop}{s:Shared}{it d:Addr}{i n ep:Nat}{ok ov:Value}{Q:Value->Shared->Prop}(hit:IsItemIter s.heap it d i n ep ok ov) (h:Q (.ref it) s) :
  wpAny (model prog w) A (pyIter (.ref it)) Q E s:=by
 have hT:s.TypeIs (.ref it) "dict_itemiterator":=⟨_,hit,rfl⟩
 refine wpAny_pyIter_slot hT F.slot_dict_itemiterator_iter (wpAny_call_entry F.slot_dict_itemiterator_iter hT zdf ?_ (F.args_dict_itemiterator_iter_1 _));show wpAny _ _ (ret (.ref it)) _ _ s;exact wpAny_pure ⟨_,rfl,"dict_itemiterator",_,hT,F.slot_dict_itemiterator_next.lookup,h⟩
theorem zj2 {P:Program}{w:World}{K:PySem.W.Frag}{elts:List Expr}{x1:Nat}{tp:Pos}(d it:Addr) (o:Obj) (kvs:List (Key×V)) :
  Turn P w K (.Tuple elts x1 tp) (Iti d o kvs) [it] it (fun i h=>∃es ep ok ov,o.data=.dict es ep/\IsItemIter h it d i kvs.length ep ok ov) where
 mem:=by simp
 obj:=fun i h st b hb=>by
  have e:b=it:=by simpa using hb
  subst e;obtain ⟨_,_,_,_,_,e⟩:=st;exact ⟨_,e,fun v z=>nomatch z⟩
 keep:=fun i h h' ⟨es,ep,ok,ov,a,e⟩ k=>⟨es,ep,ok,ov,a,k it (by simp) _ e⟩
 item:=by
  intro X hP hw hK hc i pins s σ H E I hf ⟨es,ep,ok,ov,he,st⟩ ⟨hi,hd⟩;subst hP hw hK;obtain ⟨f0,f1,f2,f3,f4,f5⟩:=hf it (by simp);obtain ⟨vs,es',ep',he',hk,_,da⟩:=zf8 I hd;rw [he] at he';cases he';obtain ⟨k,v,hkv⟩:∃k v,kvs[i]?=some (k,v):=⟨_,_,Zc hi⟩
  obtain ⟨u,hu,ru⟩:=hk.at hkv;rw [hk.len] at st;have hit:it < s.heap.objs.size:=Heap.lt_size st;refine wpAny_pyNext_items_item st da hu fun key h' hkey st' ht hz kk=>⟨_,rfl,?_⟩
  refine wpAny_letOwnedTupleGo_items (s:={ s with heap:=h' }) st' fun h2 st2 sb=>?_;have I1:Inv X pins σ H { s with heap:=h2 }:=I.turned (t':=s.toks) (fun b o hb e=>(sb.2 b hb).trans (kk b o hb e)) f0 f1 f3 f4 f5;have fz:FpOk X pins H s.heap.objs.size:=I.fpOk (Nat.le_refl _) (I.hok.fresh (Nat.le_refl _));have ht2:h2.get? s.heap.objs.size=some { cls:=.type "tuple",data:=.seq #[key,u] }:=(sb.2 _ (Nat.ne_of_gt hit)).trans ht;have I2:Inv X pins σ (upd H s.heap.objs.size (.tup [kV k,v])) { s with heap:=h2 } :=
   I1.track fz (Nat.le_trans I.sz (Nat.le_refl _)) (show za4 X.prog X.w _ h2 _ (.tup [kV k,v]) from ⟨by show 2<=sizeLine;decide,[key,u],.cons (zh1 hkey) (.cons ru .nil),⟨_,ht2,rfl,_,rfl⟩⟩)
  refine ⟨.ref s.heap.objs.size,_,I2,rfl,⟨k,v,_,hkv,rfl,fz.1,rfl⟩,⟨es,ep,key,u,he,by rw [hk.len];exact st2⟩,fun b hb=>?_⟩;have e:b=it:=by simpa using hb
  subst e;rw [zac (Nat.ne_of_lt hit)];exact f0
 done:=by
  intro X hP hw hK hc i pins s σ H E I hf ⟨es,ep,ok,ov,he,st⟩ ⟨hi,hd⟩;subst hP hw hK;obtain ⟨f0,f1,f2,f3,f4,f5⟩:=hf it (by simp);obtain ⟨vs,es',ep',he',hk,_,da⟩:=zf8 I hd;rw [he] at he';cases he';rw [hk.len] at st;exact wpAny_pyNext_items_end (I.ok.hd hc) st da (List.getElem?_eq_none (by rw [hi,hk.len];exact Nat.le_refl _)) fun h' eb=>⟨rfl,I.turned (t':=s.toks) (fun b o hb e=>eb b o hb e) f0 f1 f3 f4 f5⟩
 self:=fun A i s Q E ⟨es,ep,ok,ov,he,st⟩ h=>zeN st h
section
variable {X:Cx}
def zum (tl:TE):TI:=fun σ H R=>tl σ H fun x H1=>∃d o kvs,x=.ref d/\H1 d=some (.frz o (.dK kvs))/\R (Itk d o kvs) H1
theorem zqJ {tg l:Expr}{tl:TE}(hl:PE X l tl):PI X tg l (zum tl):=by
 intro pins s σ H R I h;refine thn (hl pins s σ H _ I h) fun v s1 ⟨x,H1,I1,r1,q1⟩=>?_;obtain ⟨d,o,kvs,rfl,hd,q⟩:=q1;cases r1;obtain ⟨vs,es,ep,he,hk,hs,da⟩:=zf8 I1 hd;refine wpAny_pyIter_dict hs da ?_;refine ⟨s1.heap.objs.size,[s1.heap.objs.size],_,_,H1,rfl,I1.kept (t':=s1.toks) fun b o e=>Heap.get?_push_of_some _ e,zkR d _ o kvs,⟨es,ep,he,by rw [hk.len];exact ⟨_,Heap.get?_push_size _ rfl,rfl,rfl⟩⟩,fun b hb=>?_,q⟩;have e:b=s1.heap.objs.size:=by simpa using hb
 subst e;exact I1.fpOk (Nat.le_refl _) (I1.hok.fresh (Nat.le_refl _))
def zpa (tl:TE):TI:=fun σ H R=>tl σ H fun x H1=>∃d o kvs,x=.ref d/\H1 d=some (.frz o (.dK kvs))/\R (Iti d o kvs) H1
theorem znJ {elts:List Expr}{x1:Nat}{tp apos cpos:Pos}{l:Expr}{tl:TE}(hl:PE X l tl) (hbase:attributeBase l "items" X.env (eval l X.env)=eval l X.env:=by rfl) (hline:(apos.endLine==cpos.line)=true:=by rfl) :
  PI X (.Tuple elts x1 tp) (.Call (.Attribute l "items" apos) [] [] cpos) (zpa tl):=by
 intro pins s σ H R I h;refine wpAny_Call_method0_late hbase hline (thn (hl pins s σ H _ I h) fun v s1 ⟨x,H1,I1,r1,q1⟩=>?_);obtain ⟨d,o,kvs,rfl,hd,q⟩:=q1;cases r1;obtain ⟨vs,es,ep,he,hk,hs,da⟩:=zf8 I1 hd;obtain ⟨t1,t2,_⟩:=zuj I1 (.inl ⟨kvs,.inr ⟨o,hd⟩⟩);refine ⟨"dict","dict.items",F.plainAttrs_dict,F.slot_dict_items,F.type_dict_items,t1,t2,Calls.callWith_builtin rfl (PySem.evalArgs_none ?_)⟩;refine call_meetsIn F.slot_dict_items t1 F.entry_dict_items (F.args_dict_items_1 _) (meets_dict_items (zaE X.prog X.w) d hs) ⟨⟨vs,da.dictOf⟩,?_⟩;have I2:Inv X pins σ H1 { s1 with heap:=s1.heap.push { cls:=.type "dict_items",data:=.fields #[.ref d] } }:=I1.kept (t':=s1.toks) fun b o e=>Heap.get?_push_of_some _ e;refine wpAny_pyIter_items (s:={ s1 with heap:=s1.heap.push { cls:=.type "dict_items",data:=.fields #[.ref d] } }) ⟨_,Heap.get?_push_size _ rfl,rfl,rfl⟩ (da.push _) ?_;refine ⟨_,[_],_,_,H1,rfl,I2.kept (t':=s1.toks) fun b o e=>Heap.get?_push_of_some _ e,zj2 d _ o kvs,⟨es,ep,.none,.none,he,by rw [hk.len];exact Heap.get?_push_size _ rfl⟩,fun b hb=>?_,q⟩;have e:=Zo1.mp hb;subst e;exact I2.fpOk (Nat.le_refl _) (I2.hok.fresh (Nat.le_refl _))
end
def EqR (X:Cx) (n:Nat) (H:Hp) (x y:V) (b:Bool):Prop :=
 (∀(pins:List (Addr×Obj)) (σ:St) (s:Shared) (u v:Value),Inv X pins σ H s->RelV x u->RelV y v -> ∀A:Around,A.units+n < cLine->SeqAt.EqAt A s u v b)/\(x=y->b=true)
section
variable {X:Cx}{H:Hp}{n:Nat}
theorem zmr (a b:Str):EqR X n H (.str a) (.str b) (decide (a=b)):=by
 refine ⟨fun pins σ s u v I ru rv A _=>?_,fun e=>by cases e;simp⟩;obtain ⟨t,rfl⟩:=ru;obtain ⟨t',rfl⟩:=rv;have e:decide (a=b)=(a==b):=by rw [Bool.eq_iff_iff];simp
 rw [e];exact SeqAt.EqAt.str_str a t b t'
theorem zmt (a b:Int):EqR X n H (.int a) (.int b) (decide (a=b)):=by
 refine ⟨fun pins σ s u v I ru rv A _=>?_,fun e=>by cases e;simp⟩;obtain ⟨t,rfl⟩:=ru;obtain ⟨t',rfl⟩:=rv;have e:decide (a=b)=(a==b):=by rw [Bool.eq_iff_iff];simp
 rw [e];exact SeqAt.EqAt.int_int a t b t'
theorem all_range {e:Nat->Bool}{m:Nat}(h:∀j,j < m->e j=true):(List.range m).all e=true:=Zp1.mpr fun j hj=>h j (Zt.mp hj)
theorem zlf {a b:Addr}{xs ys:List V}{e:Nat->Bool}{pins:List (Addr×Obj)}{σ:St}{s:Shared}{A:Around}(I:Inv X pins σ H s) (ha:SqL X.K H a xs) (hb:SqL X.K H b ys)
  (he:xs.length=ys.length -> ∀j x y,xs[j]?=some x->ys[j]?=some y->EqR X n H x y (e j)) (hA:A.units + (n+1) < cLine):SeqAt.RcAt A s (.ref a) (.ref b) (decide (xs.length=ys.length)&&(List.range xs.length).all e):=by
 obtain ⟨its,rx,px,_⟩:=I.list ha;obtain ⟨jts,ry,py,_⟩:=I.list hb;have lx:=rx.length;have ly:=ry.length;by_cases hl:xs.length=ys.length
 ·rw [Zn hl,Bool.true_and]
  have q:=SeqAt.RcAt.lists (A:=A) (s:=s) (e:=e) px.isList py.isList (by rw [Zm,Zm];omega) (by omega) (fun j h1 h2=>?_)
  ·rw [Zm,<- lx] at q
   exact q
  ·have h1':j < its.length:=by simpa using h1
   have h2':j < jts.length:=by simpa using h2
   obtain ⟨u,hu,ru⟩:=rx.get (i:=j) (x:=xs[j]'(by omega)) (Zc (by omega));obtain ⟨v,hv,rv⟩:=ry.get (i:=j) (x:=ys[j]'(by omega)) (Zc (by omega));have eu:its.toArray[j]=u:=by
    have:=Zc h1';rw [hu] at this;simpa using (Option.some.inj this).symm
   have ev:jts.toArray[j]=v:=by
    have:=Zc h2';rw [hv] at this;simpa using (Option.some.inj this).symm
   rw [eu,ev];exact (he hl j _ _ (Zc (by omega)) (Zc (by omega))).1 pins σ s u v I ru rv A.in1 (by show A.units+1+n < cLine;omega)
 ·rw [Zo hl,Bool.false_and]
  exact SeqAt.RcAt.lists_lengths px.isList py.isList (by simp;omega) (by omega)
theorem zoe {a b:Addr}{xs ys:List V}{e:Nat->Bool}(ha:SqL X.K H a xs) (hb:SqL X.K H b ys)
  (he:xs.length=ys.length -> ∀j x y,xs[j]?=some x->ys[j]?=some y->EqR X n H x y (e j)) (hsame:a=b->xs=ys):EqR X (n+1) H (.ref a) (.ref b) (decide (xs.length=ys.length)&&(List.range xs.length).all e):=by
 have same:a=b->(decide (xs.length=ys.length)&&(List.range xs.length).all e)=true:=fun z=>by
  have ex:=hsame z;subst ex;rw [Zn rfl,Bool.true_and];exact all_range fun j hj=>(he rfl j _ _ (Zc hj) (Zc hj)).2 rfl
 refine ⟨fun pins σ s u v I ru rv A hA=>?_,fun z=>same (by cases z;rfl)⟩;cases ru;cases rv;by_cases hab:a=b
 ·rw [same hab,hab];exact SeqAt.EqAt.same _
 ·exact SeqAt.EqAt.of_refs hab (zlf I ha hb he hA)
end
def zmJ (names outer:List (Str×NameKind)) (N N':List Str) (src:List (Option Nat)):Bool :=
 (names.all fun y=>!(y.2 == .cell))&&(names.all fun y=>!(y.2 == .local) || names.lookup y.1==some .local)&&(names.all fun y=>!(y.2 == .free) || (outer.lookup y.1==some .cell || outer.lookup y.1==some .free)) &&
 (src.length==N'.length)&&((List.range src.length).all fun i=>match src[i]?,N'[i]? with
  | some (some j),some x=>N[j]? == some x&&(outer.lookup x==some .cell || outer.lookup x==some .free)&&names.lookup x==some .free
  | _,_=>true)
theorem CompScope.of {X:Cx}{scope:Scope}{N':List Str}{src:List (Option Nat)}(outer:List (Str×NameKind)) (N:List Str) (hk:scope.kind=.function) (ho:∀x,X.env.kindOf x=outer.lookup x) (hN:X.N=N)
  (h:zmJ scope.names outer N N' src=true):CompScope X scope N' src:=by
 unfold zmJ at h;simp only [Zc1,Zp1,Zt] at h;obtain ⟨⟨⟨⟨h1,h2⟩,h3⟩,h4⟩,h5⟩:=h;refine ⟨hk,fun y hy e=>?_,fun y hy e=>?_,fun y hy e=>?_,by simpa using h4,fun i j x e1 e2=>?_⟩
 ·have:=h1 y hy;rw [e] at this;exact absurd this (by decide)
 ·have:=h2 y hy;rw [e] at this;simpa using this
 ·have:=h3 y hy;rw [e] at this;rw [ho];simpa using this
 ·have hi:i < src.length:=(Zg.mp e1).1
  have:=h5 i hi;rw [e1,e2] at this;simp only [Zc1,Bool.or_eq_true] at this;obtain ⟨⟨a,b⟩,c⟩:=this;rw [hN,ho];exact ⟨by simpa using a,by simpa using b,by simpa using c⟩
def zs3:List V->Hp->VK->Prop:=fun xs H Q=>∃z,xs = [.str z]/\z.length<=sizeLine/\Q (.int z.length) H
theorem zkz {X:Cx}:zbL X (.builtin "len") zs3:=zih
def zqt (K:PySem.W.Frag):List V->Hp->VK->Prop:=fun xs H Q=>∃p ys,xs = [.ref p]/\(SqL K H p ys\/SqT K H p ys)/\Q (.int ys.length) H
theorem zkA {X:Cx}:zbL X (.builtin "len") (zqt X.K):=zii
def ziz (K:PySem.W.Frag):List V->Hp->VK->Prop:=fun xs H Q=>∃p ys,xs = [.ref p]/\(SqL K H p ys\/SqT K H p ys) /\ ∀l,H l=none->Q (.ref l) (upd H l (.lst ys))
theorem zky {X:Cx}:zbL X (.type "list") (ziz X.K):=zig
section
variable {X:Cx}{K:PySem.W.Frag}
theorem zqM {es:List Expr}{k:Nat}{t:TGs}{n:Nat}{pos:Pos}(hK:X.K=K) (hc:X.calm=true) (h:PGs X es t)
  (hn:(assignEach es X.env).length=n:=by rfl) (hst:(assignEach es X.env).findIdx? (·.1)=none:=by rfl):PG X (.Tuple es k pos) (gTup K n t):=hK ▸ ztO hc h hn hst
theorem zn5 (hK:X.K=K):IxR X (rIxL K):=hK ▸ zrd
theorem zrc (hK:X.K=K):IxR X (rIxT K):=hK ▸ zui
theorem ziW (hK:X.K=K):zbL X (.builtin "len") (zqt K):=hK ▸ zkA
theorem ziV (hK:X.K=K):zbL X (.type "list") (ziz K):=hK ▸ zky
theorem zmQ (hK:X.K=K) (hc:X.calm=true):zbL X (.builtin "all") (rAll K):=hK ▸ zol hc
theorem znI {tg l:Expr}{tl:TE}(hK:X.K=K) (hl:PE X l tl):PI X tg l (zrg K tl):=hK ▸ zqI hl
theorem zqH {tg l:Expr}{tl:TE}(hK:X.K=K) (hl:PE X l tl):PI X tg l (iTup K tl):=hK ▸ ztM hl
theorem zno (hK:X.K=K):SlR X (rSlL K):=hK ▸ zqa
theorem zki (hK:X.K=K):OpR X (compareOp .In) (rIn K false):=hK ▸ zlJ
theorem zgF (hK:X.K=K):OpR X (compareOp .NotIn) (rIn K true):=hK ▸ zhM
theorem zo2 {o e:Expr}{es:List Expr}{to:TE}{t:TA}{name:Str}{apos cpos:Pos}{T id:String}{r:V->List V->Hp->VK->Prop}(hK:X.K=K) (pa:PlainAttrs T) (slot:Slot T name id) (hty:typeOf (.builtin id)=pure (.type "method_descriptor")) (hm:MtR X id r) (ho:PE X o to) (ha:PA X (e::es) t)
  (hbase:attributeBase o name X.env (eval o X.env)=eval o X.env:=by rfl)
  (hfew:((backTo cpos (starEach (e::es) X.env)).all (fun x=>!x.1)&&(backToKw cpos (keywordEach [] X.env)).all (fun x=>x.1.isSome)
   && decide ((e::es).length + ([]:List Keyword).length + (if ([]:List Keyword).isEmpty then 0 else 1) < 30))=true:=by rfl)
  (hline:(apos.endLine==cpos.line)=true:=by rfl) (hs:starEach (e::es) X.env=(false,eval e X.env)::starEach es X.env:=by rfl) (hplain:(backTo cpos (starEach es X.env)).any (·.1)=false:=by rfl) :
  PE X (.Call (.Attribute o name apos) (e::es) [] cpos) (tBM K T r to t):=hK ▸ zwl pa slot hty hm ho ha hbase hfew hline hs hplain
end
def zmI:Expr->Option V
 | .Constant (.int i) _ _=>some (.int i)
 | .Constant (.str x) _ _=>some (.str x)
 | .Constant (.bool b) _ _=>some (.bl b)
 | .Constant .none _ _=>some .non
 | _=>none
def zfm:List Expr->Option (List V)
 | []=>some []
 | e::es=>match zmI e,zfm es with
  | some v,some vs=>some (v::vs)
  | _,_=>none
def tKs (vs:List V):TA:=fun _ H Q=>Q vs H
theorem znP {X:Cx}{e:Expr}{v:V}(h:zmI e=some v):PE X e (tC v) /\ ∀es,starEach (e::es) X.env=(false,eval e X.env)::starEach es X.env:=by
 cases e
 case Constant c k p =>
  cases c
  case int i=>cases h;exact ⟨zo0,fun _=>rfl⟩
  case str i=>cases h;exact ⟨zoY,fun _=>rfl⟩
  case bool i=>cases h;exact ⟨ztT,fun _=>rfl⟩
  case none=>cases h;exact ⟨zoZ,fun _=>rfl⟩
  all_goals cases h
 all_goals cases h
theorem zhH {X:Cx}:∀{es:List Expr}{vs:List V},zfm es=some vs->PA X es (tKs vs)
 | [],vs,h=>by cases h;exact zd6
 | e::es,vs,h=>by
  unfold zfm at h;cases e1:zmI e with
  | none=>rw [e1] at h;cases h
  | some v =>
   cases e2:zfm es with
   | none=>rw [e1,e2] at h;cases h
   | some r =>
    rw [e1,e2] at h;cases h;obtain ⟨p,q⟩:=znP (X:=X) e1;exact zda p (zhH e2) (q es)
theorem Inv.turnedL {X:Cx}{pins:List (Addr×Obj)}{σ:St}{H:Hp}{s:Shared}{h':Heap}{t':Nat}{ch:List Addr}(I:Inv X pins σ H s) (k:∀b o,b∉ch->s.heap.get? b=some o->h'.get? b=some o) (f:∀b∈ch,FpOk X pins H b) :
  Inv X pins σ H { s with heap:=h',toks:=t' }:=by
 have nit:∀b u,H b=some u->b∉ch:=fun b u e z=>by rw [(f b z).1] at e;cases e
 refine I.step (g':=s.gens) (d':=s.drawn) (ch:=ch) (fun b hb=>⟨(f b hb).2.2.2.1,(f b hb).2.1,(f b hb).2.2.2.2.1,(f b hb).2.2.2.2.2⟩) (fun b o _ _ hc e _=>k b o hc e) (fun b o _ _ hc e _=>⟨o.slots,k b o hc e⟩) (fun _ _ _ _ n=>n)
  (fun b o hc e=>⟨o,k b o hc e⟩) (fun _ _ e=>e) (fun _ _ _ e=>e) (fun b ps e=>⟨#[],by rw [e];simp⟩) (fun m hm=>?_) (fun b u e=>?_) I.bare
 ·obtain ⟨o,es,ep,ho,r⟩:=hm
  exact ⟨o,es,ep,k _ o (fun z=>(f _ z).2.1 rfl) ho,r⟩
 ·refine (I.hok b u e).stay (fun c v hc q=>k c v ?_ q) (fun _ q=>q) fun _ _ q=>q
  rcases hc with rfl|hc
  ·exact nit _ u e
  ·exact nit c _ hc
def Ite (K:PySem.W.Frag) (a:Addr):It :=
 ⟨fun i H=>∃xs x,SqL K H a xs/\xs[i]?=some x,fun i H x H'=>∃v t,(∀xs,SqL K H a xs->xs[i]?=some v)/\x=.ref t/\H t=none/\H'=upd H t (.tup [.int (i:Nat),v]),fun i H=>∃xs,SqL K H a xs/\xs.length<=i⟩
theorem zkS {P:Program}{w:World}{K:PySem.W.Frag}{elts:List Expr}{x1:Nat}{tp:Pos}(a e it:Addr) (hne:e≠it) :
  Turn P w K (.Tuple elts x1 tp) (Ite K a) [e,it] e (fun i h=>(∃old,IsEnum h e it (i:Nat) old)/\h.IsListIter it a i) where
 mem:=by simp
 obj:=fun i h ⟨⟨old,h1⟩,o,h2,h3,h4⟩ b hb=>by
  rcases Zk.mp hb with z|hb
  ·subst z;exact ⟨_,h1,fun v z=>nomatch z⟩
  ·have z:=Zo1.mp hb
   subst z;exact ⟨o,h2,fun v z=>by rw [h4] at z;cases z⟩
 keep:=fun i h h' ⟨⟨old,h1⟩,o,h2,h3⟩ k=>⟨⟨old,k e (by simp) _ h1⟩,o,k it (by simp) _ h2,h3⟩
 item:=by
  intro X hP hw hK hc i pins s σ H E I hf ⟨⟨old,h1⟩,hit⟩ ⟨xs,x,hq,hx⟩;subst hP hw hK;obtain ⟨its,rv,p,hz⟩:=I.list hq;obtain ⟨u,hu,ru⟩:=rv.get hx;have he:e < s.heap.objs.size:=Heap.lt_size h1;have hi:it < s.heap.objs.size:=by obtain ⟨o,ho,_⟩:=hit;exact Heap.lt_size ho
  refine wpAny_pyNext_enum_item h1 hit p.isList (x:=u) (by simpa using hu) hne fun h' ho hit' ht hzz kk=>⟨_,rfl,?_⟩
  refine wpAny_letOwnedTupleGo_enum (s:={ s with heap:=h',toks:=s.toks+1 }) ho fun h2 he2 sb=>?_;have I1:Inv X pins σ H { s with heap:=h2,toks:=s.toks+1 }:=I.turnedL (ch:=[e,it]) (fun b o hb q=>(sb.2 b (fun z=>hb (by simp [z]))).trans (kk b o (fun z=>hb (by simp [z])) (fun z=>hb (by simp [z])) q)) hf;have fz:FpOk X pins H s.heap.objs.size:=I.fpOk (Nat.le_refl _) (I.hok.fresh (Nat.le_refl _));have ht2:h2.get? s.heap.objs.size=some { cls:=.type "tuple",data:=.seq #[.int i s.toks,u] }:=(sb.2 _ (Nat.ne_of_gt he)).trans ht;have I2:Inv X pins σ (upd H s.heap.objs.size (.tup [.int (i:Nat),x])) { s with heap:=h2,toks:=s.toks+1 } :=
   I1.track fz (Nat.le_trans I.sz (Nat.le_refl _)) (show za4 X.prog X.w _ h2 _ (.tup [.int (i:Nat),x]) from ⟨by show 2<=sizeLine;decide,[.int i s.toks,u],.cons ⟨_,rfl⟩ (.cons ru .nil),⟨_,ht2,rfl,_,rfl⟩⟩)
  refine ⟨.ref s.heap.objs.size,_,I2,rfl,⟨x,_,fun ys hy=>by rw [I.list_inj hy hq];exact hx,rfl,fz.1,rfl⟩,⟨⟨u,by simpa using he2⟩,hit'.at fun o q=>(sb.2 it (Ne.symm hne)).trans q⟩,fun b hb=>?_⟩;have hb':b < s.heap.objs.size:=by
   rcases Zk.mp hb with z|hb
   ·rw [z];exact he
   ·rw [Zo1.mp hb];exact hi
  rw [zac (Nat.ne_of_lt hb')];exact (hf b hb).1
 done:=by
  intro X hP hw hK hc i pins s σ H E I hf ⟨⟨old,h1⟩,hit⟩ ⟨xs,hq,hx⟩;subst hP hw hK;obtain ⟨its,rv,p,hz⟩:=I.list hq;have hl:=rv.length;exact wpAny_pyNext_enum_end (I.ok.hd hc) h1 hit p.isList (by simp;omega) fun h' eb=>⟨rfl,I.turnedL (t':=s.toks) (ch:=[e,it]) (fun b o hb q=>eb b o (fun z=>hb (by simp [z])) q) hf⟩
 self:=fun A i s Q E ⟨⟨old,h1⟩,_⟩ h=>wpAny_pyIter_enum h1 h
section
variable {X:Cx}{K:PySem.W.Frag}
def zun (K:PySem.W.Frag) (ta:TA):TI:=fun σ H R=>ta σ H fun vs H1=>∃a,vs = [.ref a]/\(∃xs,SqL K H1 a xs)/\R (Ite K a) H1
theorem zqK {elts:List Expr}{x1:Nat}{tp:Pos}{l:Expr}{ta:TA}{p pos:Pos}(hK:X.K=K) (hg:Gl X "enumerate") (hm:X.mg "enumerate" = none) (ha:PA X [l] ta) (hs:starEach [l] X.env = [(false,eval l X.env)]:=by rfl) :
  PI X (.Tuple elts x1 tp) (.Call (.Name "enumerate" p) [l] [] pos) (zun K ta):=by
 subst hK;intro pins s σ H R I h;refine Call_ (zf1 I hg hm boot_enumerate (PyProof.Rows.callWith_type1 (thn (ha pos pins s σ H _ I h) fun us s1 ⟨vs,H1,I1,r1,q1⟩=>?_) hs rfl));obtain ⟨a,rfl,⟨xs,hq⟩,q⟩:=q1;obtain ⟨u,rfl,rx⟩:=vals1 r1;cases rx;obtain ⟨its,rv,pl,hz⟩:=I1.list hq;refine call_enumerate_list pl.isList fun h' he hit hz' kk=>?_;have I2:Inv X pins σ H1 { s1 with heap:=h' }:=I1.kept (t':=s1.toks) kk;refine wpAny_pyIter_enum he ?_;refine ⟨s1.heap.objs.size+1,[s1.heap.objs.size+1,s1.heap.objs.size],_,_,H1,rfl,I2,zkS a _ _ (Nat.succ_ne_self _),⟨⟨_,he⟩,hit⟩,fun b hb=>?_,q⟩;rcases Zk.mp hb with z|hb
 ·rw [z];exact I1.fpOk (Nat.le_succ _) (I1.hok.fresh (Nat.le_succ _))
 ·rw [Zo1.mp hb];exact I1.fpOk (Nat.le_refl _) (I1.hok.fresh (Nat.le_refl _))
end
theorem rangeSize_down (a b:Int):Builtin.Range.rangeSize a b (-1)=if b < a then a - b else 0:=by
 unfold Builtin.Range.rangeSize;rw [if_neg (by decide)];by_cases h:b < a
 ·rw [if_pos h,if_pos h,Int.neg_neg,Int.ediv_one];omega
 ·rw [if_neg h,if_neg h]
theorem small_down {a b:Int}(ha:-(2 ^ 62)<=a) (ha':a < 2 ^ 62) (hb:-(2 ^ 62)<=b) (hb':b < 2 ^ 62):Builtin.Range.small a b (-1)=true:=by
 unfold Builtin.Range.small;rw [rangeSize_down];have h1:¬((-1:Int) > 0):=by decide
 simp only [Builtin.Range.rangeFitsLong,Zc1,Bool.or_eq_true,decide_eq_true_eq,beq_iff_eq,h1,if_false];by_cases h:b < a
 ·simp only [h,if_true];omega
 ·simp only [h,if_false];omega
section
variable {X:Cx}{tg:Expr}
def zrf (ta:TA):TI:=fun σ H R=>ta σ H fun vs H1=>∃i j:Int,vs = [.int i,.int j,.int (-1)]/\(-(2 ^ 62)<=i/\i < 2 ^ 62 /\ -(2 ^ 62)<=j/\j < 2 ^ 62)/\R (Itf (fun k=>.int (i - (k:Nat))) (i - j).toNat) H1
theorem zlx {a b c:Expr}{ta:TA}{p pos:Pos}(hg:Gl X "range") (hm:X.mg "range" = none) (ha:PA X [a,b,c] ta) (hs:starEach [a,b,c] X.env = [(false,eval a X.env),(false,eval b X.env),(false,eval c X.env)]:=by rfl)
  (hs1:starEach [a,b,c] X.env=(false,eval a X.env)::starEach [b,c] X.env:=by rfl) (hs2:(backTo pos (starEach [b,c] X.env)).any (·.1)=false:=by rfl) :
  PI X tg (.Call (.Name "range" p) [a,b,c] [] pos) (zrf ta):=by
 intro pins s σ H R I h;refine Call_ (zf1 I hg hm boot_range (PyProof.Rows.callWith_type1 (thn (ha pos pins s σ H _ I h) fun us s1 ⟨vs,H1,I1,r1,q1⟩=>?_) hs1 hs2));obtain ⟨i,j,e,⟨q1,q2,q3,q4⟩,q⟩:=q1;subst e;cases r1 with
 | cons r rr =>
  cases rr with
  | cons r' rr =>
   cases rr with
   | cons r'' rr =>
    cases rr;obtain ⟨t,rfl⟩:=r;obtain ⟨t',rfl⟩:=r';obtain ⟨t'',rfl⟩:=r'';refine call_range_3 (by decide) ?_ (.inl (PyProof.noPylong_small (by decide)));have I2:Inv X pins σ H1 { s1 with heap:=s1.heap.push { cls:=.type "range",data:=.fields #[.int i t,.int j t',.int (-1) t''] },toks:=s1.toks }:=I1.kept fun b o e=>Heap.get?_push_of_some _ e;refine wpAny_pyIter_range (IsRange.new ..) (small_down q1 q2 q3 q4) ?_;refine ⟨_,[_],_,_,H1,rfl,I2.kept (t':=s1.toks) fun b o e=>Heap.get?_push_of_some _ e,
     zdL (val:=fun k=>V.int (i - (k:Nat))) (n:=(i - j).toNat) (fun A hA=>Walks.range hA _ i (-1) (i - j).toNat) (fun k h st=>⟨_,"range_iterator",_,st,rfl,rfl,by decide⟩) (fun k v ⟨tt,e⟩=>⟨tt,by rw [e];congr 1;omega⟩)
      (fun A k s Q E st h=>wpAny_pyIter_rangeiter st h),?_,fun b hb=>?_,q⟩
    ·have e1:i + ((0:Nat):Int) * (-1)=i:=by simp
     have e2:(((i - j).toNat:Nat):Int) - ((0:Nat):Int)=Builtin.Range.rangeSize i j (-1):=by rw [rangeSize_down];split<;>omega
     show IsRangeIter _ _ (i + ((0:Nat):Int) * (-1)) ((((i - j).toNat:Nat):Int) - ((0:Nat):Int)) (-1);rw [e1,e2];exact Heap.get?_push_size _ rfl
    ·have e:=Zo1.mp hb
     subst e;exact I2.fpOk (Nat.le_refl _) (I2.hok.fresh (Nat.le_refl _))
end
section
variable {X:Cx}{K:PySem.W.Frag}{e st:Expr}{te ts:TE}{p2 pos:Pos}
def tRev (K:PySem.W.Frag) (te ts:TE):TE:=fun σ H Q=>te σ H fun x H1=>ts σ H1 fun y H2=>y=.int (-1) /\ ∃a xs,x=.ref a/\SqL K H2 a xs /\ ∀p,H2 p=none->Q (.ref p) (upd H2 p (.lst xs.reverse))
theorem zhF (hK:X.K=K) (he:PE X e te) (hst:PE X st ts):PE X (.Subscript e (.Slice none none (some st) p2) pos) (tRev K te ts):=by
 subst hK;intro pins s σ H Q I h;refine Subscript_ (thn (he pins s σ H _ I h) fun v s1 ⟨x,H1,I1,r1,q1⟩=>?_);refine wpAny_Slice (thn (ziD (X:=X) pins s1 σ H1 (fun l H2=>l=none/\H2=H1) I1 ⟨rfl,rfl⟩) fun vl s2 ⟨l,H2,I2,pl,el,eh⟩=>thn (ziD (X:=X) pins s2 σ H2 (fun l H3=>l=none/\H3=H2) I2 ⟨rfl,rfl⟩) fun vu s3 ⟨u,H3,I3,pu,eu,eh2⟩=>?_);subst el eh eu eh2;rw [evalPart_some];refine thn (hst pins s3 σ _ _ I3 q1) fun vk s4 ⟨y,H4,I4,ry,ey,a,xs,ex,hq,q⟩=>?_;subst ey ex;obtain ⟨tk,rfl⟩:=ry;cases r1;have I5:Inv X pins σ H4 { s4 with heap:=s4.heap.push { cls:=.type "slice",data:=.fields #[vl,vu,.int (-1) tk] } }:=I4.kept (t':=s4.toks) fun b ob q=>Heap.get?_push_of_some _ q;show wpAny (model X.prog X.w) X.A (subscriptTail e (.Slice none none (some st) p2) (.ref a) (.ref s4.heap.objs.size)) (EP X pins σ Q) X.xe { s4 with heap:=s4.heap.push { cls:=.type "slice",data:=.fields #[vl,vu,.int (-1) tk] } };obtain ⟨its,r,ht,hz⟩:=I5.list hq;have hlen:=r.length;refine tail_any (ops:=[.ref a,.ref s4.heap.objs.size]) ht.isList.typeIs slot_list_getitem.lookup ?_ (by with_unfolding_all rfl);refine wpAny_getItem_list_slice ht.isList (Heap.IsSliceOf.new ..) pl pu (.int (-1) tk) (by decide) ?_ (by rw [Zm]<;>omega);rw [PySem.W.krv_pick];refine ⟨.ref _,_,I5.laid (t':=s4.toks) (o:=.lst xs.reverse) (fun b ob q=>Heap.get?_push_of_some _ q) (Nat.le_refl _) ?_,rfl,q _ (I5.hok.fresh (Nat.le_refl _))⟩;exact ⟨by rw [List.length_reverse];exact hz,_,0,r.reverse,Heap.get?_push_size _ rfl⟩
end
section
variable {X:Cx}{H:Hp}{n:Nat}
theorem zgW {xs ys:List V}{its jts:List Value}{pins:List (Addr×Obj)}{σ:St}{s:Shared}{A:Around}{e:Nat->Bool}(I:Inv X pins σ H s) (rx:Vals xs its) (ry:Vals ys jts)
  (he:∀j x y,xs[j]?=some x->ys[j]?=some y->EqR X n H x y (e j)) (hA:A.units+n < cLine) (j:Nat) (h1:j < its.toArray.size) (h2:j < jts.toArray.size):SeqAt.EqAt A s its.toArray[j] jts.toArray[j] (e j):=by
 have lx:=rx.length;have ly:=ry.length;have h1':j < its.length:=by simpa using h1
 have h2':j < jts.length:=by simpa using h2
 obtain ⟨u,hu,ru⟩:=rx.get (i:=j) (x:=xs[j]'(by omega)) (Zc (by omega));obtain ⟨v,hv,rv⟩:=ry.get (i:=j) (x:=ys[j]'(by omega)) (Zc (by omega));have eu:its.toArray[j]=u:=by
  have:=Zc h1';rw [hu] at this;simpa using (Option.some.inj this).symm
 have ev:jts.toArray[j]=v:=by
  have:=Zc h2';rw [hv] at this;simpa using (Option.some.inj this).symm
 rw [eu,ev];exact (he j _ _ (Zc (by omega)) (Zc (by omega))).1 pins σ s u v I ru rv A hA
theorem zrq {a b:Addr}{xs ys:List V}{e:Nat->Bool}(ha:SqT X.K H a xs) (hb:SqT X.K H b ys) (he:∀j x y,xs[j]?=some x->ys[j]?=some y->EqR X n H x y (e j)) (hsame:a=b->xs=ys) :
  EqR X (n+1) H (.ref a) (.ref b) ((List.range (min xs.length ys.length)).all e&&decide (xs.length=ys.length)):=by
 have same:a=b->((List.range (min xs.length ys.length)).all e&&decide (xs.length=ys.length))=true:=fun z=>by
  have ex:=hsame z;subst ex;rw [Zn rfl,Bool.and_true];exact all_range fun j hj=>(he j _ _ (Zc (by omega)) (Zc (by omega))).2 rfl
 refine ⟨fun pins σ s u v I ru rv A hA=>?_,fun z=>same (by cases z;rfl)⟩;cases ru;cases rv;by_cases hab:a=b
 ·rw [same hab,hab];exact SeqAt.EqAt.same _
 ·refine SeqAt.EqAt.of_refs hab ?_
  obtain ⟨its,rx,px,_⟩:=I.tuple ha;obtain ⟨jts,ry,py,_⟩:=I.tuple hb;have lx:=rx.length;have ly:=ry.length;have q:=SeqAt.RcAt.tuples (A:=A) (s:=s) (e:=e) (show s.heap.IsTuple a its.toArray from px) (show s.heap.IsTuple b jts.toArray from py) (by omega) (fun j h1 h2=>zgW I rx ry he (by show A.units+1+n < cLine;omega) j h1 h2);rw [Zm,Zm,<- lx,<- ly] at q;have ee:(xs.length==ys.length)=decide (xs.length=ys.length):=by rw [Bool.eq_iff_iff];simp
  rw [ee] at q;exact q
def rEqL (X:Cx) (n:Nat) (neg:Bool):R2:=fun x y H Q=>∃a b xs ys e,x=.ref a/\y=.ref b/\SqL X.K H a xs/\SqL X.K H b ys/\(xs.length=ys.length -> ∀j x y,xs[j]?=some x->ys[j]?=some y->EqR X n H x y (e j)) /\
 Q (.bl (if neg=true then !(decide (xs.length=ys.length)&&(List.range xs.length).all e) else decide (xs.length=ys.length)&&(List.range xs.length).all e)) H
theorem zkj (n:Nat) (hu:X.A.units + (n+1) < cLine):OpR X (compareOp .Eq) (rEqL X n false):=by
 intro pins s σ H x y v u Q I rx ry h;obtain ⟨a,b,xs,ys,e,rfl,rfl,ha,hb,he,q⟩:=h;cases rx;cases ry;exact zlf I ha hb he hu X.prog X.w _ _ (zaA I q rfl)
theorem zkh (n:Nat) (hu:X.A.units + (n+1) < cLine):OpR X (compareOp .NotEq) (rEqL X n true):=by
 intro pins s σ H x y v u Q I rx ry h;obtain ⟨a,b,xs,ys,e,rfl,rfl,ha,hb,he,q⟩:=h;cases rx;cases ry;obtain ⟨its,rx,px,_⟩:=I.list ha;obtain ⟨jts,ry,py,_⟩:=I.list hb;have lx:=rx.length;have ly:=ry.length;by_cases hl:xs.length=ys.length
 ·refine SeqAt.RcNeAt.lists (e:=e) px.isList py.isList (by rw [Zm,Zm];omega) (by omega) (fun j h1 h2=>zgW I rx ry (he hl) (by show X.A.units+1+n < cLine;omega) j h1 h2) X.prog X.w _ _ (zaA I q ?_)
  rw [Zm,<- lx,Zn hl];simp
 ·refine SeqAt.RcNeAt.lists_lengths px.isList py.isList (by simp;omega) (by omega) X.prog X.w _ _ (zaA I q ?_)
  rw [Zo hl];rfl
end
inductive PV where
 | non|bl (b:Bool)|int (i:Int)|str (x:Str)
 | lst (ps:List PV)|tup (ps:List PV)|dct (ks:List (Key×PV))|scr (ns:List Int)|adr (a:Addr)
 | obj (C:Addr) (nm:List Str) (ps:List PV)|dtt (ks:List (List Key×PV))
abbrev AS:=Addr->Prop
mutual
def Rep (U:AS) (H:Hp):PV->V->Prop
 | .non,v=>v=.non
 | .bl b,v=>v=.bl b
 | .int i,v=>v=.int i
 | .str x,v=>v=.str x
 | .scr ns,v=>∃a,v=.ref a/\U a/\Rd H a (.lst (ns.map V.int))
 | .adr a,v=>v=.ref a
 | .lst ps,v=>∃a xs,v=.ref a/\U a/\H a=some (.lst xs)/\Reps U H ps xs
 | .tup ps,v=>∃a xs,v=.ref a/\H a=some (.tup xs)/\Reps U H ps xs
 | .dct ks,v=>∃a kvs,v=.ref a/\U a/\Rd H a (.dK kvs)/\RepK U H ks kvs
 | .obj C nm ps,v=>∃a dx xs,v=.ref a/\U a/\H a=some (.ins C dx (nm.zip xs))/\nm.length=ps.length/\Reps U H ps xs
 | .dtt ks,v=>∃a kvs,v=.ref a/\U a/\H a=some (.dT kvs)/\RepT U H ks kvs
def Reps (U:AS) (H:Hp):List PV->List V->Prop
 | [],xs=>xs = []
 | p::ps,xs=>∃x r,xs=x::r/\Rep U H p x/\Reps U H ps r
def RepK (U:AS) (H:Hp):List (Key×PV)->List (Key×V)->Prop
 | [],xs=>xs = []
 | kp::ks,xs=>∃v r,xs=(kp.1,v)::r/\Rep U H kp.2 v/\RepK U H ks r
def RepT (U:AS) (H:Hp):List (List Key×PV)->List (List Key×V)->Prop
 | [],xs=>xs = []
 | kp::ks,xs=>∃v r,xs=(kp.1,v)::r/\Rep U H kp.2 v/\RepT U H ks r
end
inductive Cell where|l (xs:List V)|i (C dx:Addr) (fs:List (Str×V))|t (kvs:List (List Key×V))
def Cell.ho:Cell->HO
 | .l xs=>.lst xs
 | .i C dx fs=>.ins C dx fs
 | .t kvs=>.dT kvs
structure Keeps (U:AS) (H:Hp) (U':AS) (H':Hp):Prop where
 mono:∀a,U a->U' a
 lst:∀a (c:Cell),U a->H a=some c.ho->H' a=some c.ho
 rd:∀a xs,U a->Rd H a (.lst xs)->Rd H' a (.lst xs)
 dk:∀a kvs,U a->Rd H a (.dK kvs)->Rd H' a (.dK kvs)
 tup:∀a xs,H a=some (.tup xs)->H' a=some (.tup xs)
mutual
theorem Rep.keeps {U U':AS}{H H':Hp}(k:Keeps U H U' H'):∀(p:PV) (v:V),Rep U H p v->Rep U' H' p v
 | .non,v,h=>by unfold Rep at h ⊢;exact h
 | .bl b,v,h=>by unfold Rep at h ⊢;exact h
 | .int i,v,h=>by unfold Rep at h ⊢;exact h
 | .str x,v,h=>by unfold Rep at h ⊢;exact h
 | .adr x,v,h=>by unfold Rep at h ⊢;exact h
 | .scr ns,v,h=>by
  unfold Rep at h ⊢;obtain ⟨a,e,u,r⟩:=h;exact ⟨a,e,k.mono a u,k.rd a _ u r⟩
 | .lst ps,v,h=>by
  unfold Rep at h ⊢;obtain ⟨a,xs,e,u,r,q⟩:=h;exact ⟨a,xs,e,k.mono a u,k.lst a (.l xs) u r,Reps.keeps k ps xs q⟩
 | .tup ps,v,h=>by
  unfold Rep at h ⊢;obtain ⟨a,xs,e,r,q⟩:=h;exact ⟨a,xs,e,k.tup a xs r,Reps.keeps k ps xs q⟩
 | .dct ks,v,h=>by
  unfold Rep at h ⊢;obtain ⟨a,kvs,e,u,r,q⟩:=h;exact ⟨a,kvs,e,k.mono a u,k.dk a kvs u r,RepK.keeps k ks kvs q⟩
 | .obj C nm ps,v,h=>by
  unfold Rep at h ⊢;obtain ⟨a,dx,xs,e,u,r,hl,q⟩:=h;exact ⟨a,dx,xs,e,k.mono a u,k.lst a (.i C dx (nm.zip xs)) u r,hl,Reps.keeps k ps xs q⟩
 | .dtt ks,v,h=>by
  unfold Rep at h ⊢;obtain ⟨a,kvs,e,u,r,q⟩:=h;exact ⟨a,kvs,e,k.mono a u,k.lst a (.t kvs) u r,RepT.keeps k ks kvs q⟩
theorem Reps.keeps {U U':AS}{H H':Hp}(k:Keeps U H U' H'):∀(ps:List PV) (xs:List V),Reps U H ps xs->Reps U' H' ps xs
 | [],xs,h=>by unfold Reps at h ⊢;exact h
 | p::ps,xs,h=>by
  unfold Reps at h ⊢;obtain ⟨x,r,e,h1,h2⟩:=h;exact ⟨x,r,e,Rep.keeps k p x h1,Reps.keeps k ps r h2⟩
theorem RepK.keeps {U U':AS}{H H':Hp}(k:Keeps U H U' H'):∀(ks:List (Key×PV)) (xs:List (Key×V)),RepK U H ks xs->RepK U' H' ks xs
 | [],xs,h=>by unfold RepK at h ⊢;exact h
 | kp::ks,xs,h=>by
  unfold RepK at h ⊢;obtain ⟨v,r,e,h1,h2⟩:=h;exact ⟨v,r,e,Rep.keeps k kp.2 v h1,RepK.keeps k ks r h2⟩
theorem RepT.keeps {U U':AS}{H H':Hp}(k:Keeps U H U' H'):∀(ks:List (List Key×PV)) (xs:List (List Key×V)),RepT U H ks xs->RepT U' H' ks xs
 | [],xs,h=>by unfold RepT at h ⊢;exact h
 | kp::ks,xs,h=>by
  unfold RepT at h ⊢;obtain ⟨v,r,e,h1,h2⟩:=h;exact ⟨v,r,e,Rep.keeps k kp.2 v h1,RepT.keeps k ks r h2⟩
end
section
variable {U:AS}{H:Hp}
theorem zbB {v:V}:Rep U H .non v↔v=.non:=by unfold Rep;exact Iff.rfl
theorem zbP {b:Bool}{v:V}:Rep U H (.bl b) v↔v=.bl b:=by unfold Rep;exact Iff.rfl
theorem zaT {i:Int}{v:V}:Rep U H (.int i) v↔v=.int i:=by unfold Rep;exact Iff.rfl
theorem za5 {x:Str}{v:V}:Rep U H (.str x) v↔v=.str x:=by unfold Rep;exact Iff.rfl
theorem zgA {a:Addr}{v:V}:Rep U H (.adr a) v↔v=.ref a:=by unfold Rep;exact Iff.rfl
theorem zix {ns:List Int}{v:V}:Rep U H (.scr ns) v↔∃a,v=.ref a/\U a/\Rd H a (.lst (ns.map V.int)):=by unfold Rep;exact Iff.rfl
theorem zcd {ps:List PV}{v:V}:Rep U H (.lst ps) v↔∃a xs,v=.ref a/\U a/\H a=some (.lst xs)/\Reps U H ps xs:=by rw [Rep.eq_def]
theorem zaS {ps:List PV}{v:V}:Rep U H (.tup ps) v↔∃a xs,v=.ref a/\H a=some (.tup xs)/\Reps U H ps xs:=by rw [Rep.eq_def]
theorem zgz {ks:List (Key×PV)}{v:V}:Rep U H (.dct ks) v↔∃a kvs,v=.ref a/\U a/\Rd H a (.dK kvs)/\RepK U H ks kvs:=by rw [Rep.eq_def]
theorem zeL {C:Addr}{nm:List Str}{ps:List PV}{v:V}:Rep U H (.obj C nm ps) v↔∃a dx xs,v=.ref a/\U a/\H a=some (.ins C dx (nm.zip xs))/\nm.length=ps.length/\Reps U H ps xs:=by rw [Rep.eq_def]
theorem zgy {ks:List (List Key×PV)}{v:V}:Rep U H (.dtt ks) v↔∃a kvs,v=.ref a/\U a/\H a=some (.dT kvs)/\RepT U H ks kvs:=by rw [Rep.eq_def]
theorem zbR {xs:List (List Key×V)}:RepT U H [] xs↔xs = []:=by unfold RepT;exact Iff.rfl
theorem za6 {kp:List Key×PV}{ks:List (List Key×PV)}{xs:List (List Key×V)}:RepT U H (kp::ks) xs↔∃v r,xs=(kp.1,v)::r/\Rep U H kp.2 v/\RepT U H ks r:=by rw [RepT.eq_def]
theorem zam {xs:List V}:Reps U H [] xs↔xs = []:=by unfold Reps;exact Iff.rfl
theorem zah {p:PV}{ps:List PV}{xs:List V}:Reps U H (p::ps) xs↔∃x r,xs=x::r/\Rep U H p x/\Reps U H ps r:=by rw [Reps.eq_def]
theorem zbo {xs:List (Key×V)}:RepK U H [] xs↔xs = []:=by unfold RepK;exact Iff.rfl
theorem zaM {kp:Key×PV}{ks:List (Key×PV)}{xs:List (Key×V)}:RepK U H (kp::ks) xs↔∃v r,xs=(kp.1,v)::r/\Rep U H kp.2 v/\RepK U H ks r:=by rw [RepK.eq_def]
theorem Reps.length:∀{ps:List PV}{xs:List V},Reps U H ps xs->xs.length=ps.length
 | [],xs,h=>by rw [zam.mp h];rfl
 | p::ps,xs,h=>by
  obtain ⟨x,r,rfl,_,h2⟩:=zah.mp h;simp [Reps.length h2]
theorem Reps.get:∀{ps:List PV}{xs:List V}{i:Nat}{p:PV},Reps U H ps xs->ps[i]?=some p -> ∃v,xs[i]?=some v/\Rep U H p v
 | [],xs,i,p,h,e=>by simp at e
 | q::ps,xs,0,p,h,e=>by
  obtain ⟨x,r,rfl,h1,_⟩:=zah.mp h;simp at e;subst e;exact ⟨x,rfl,h1⟩
 | q::ps,xs,i+1,p,h,e=>by
  obtain ⟨x,r,rfl,_,h2⟩:=zah.mp h;obtain ⟨v,hv,hr⟩:=Reps.get (i:=i) h2 (by simpa using e);exact ⟨v,by simpa using hv,hr⟩
theorem Reps.append:∀{ps qs:List PV}{xs ys:List V},Reps U H ps xs->Reps U H qs ys->Reps U H (ps++qs) (xs++ys)
 | [],qs,xs,ys,h,g=>by rw [zam.mp h];exact g
 | p::ps,qs,xs,ys,h,g=>by
  obtain ⟨x,r,rfl,h1,h2⟩:=zah.mp h;exact zah.mpr ⟨x,r++ys,rfl,h1,Reps.append h2 g⟩
theorem Reps.one {p:PV}{v:V}(h:Rep U H p v):Reps U H [p] [v]:=zah.mpr ⟨v,[],rfl,h,zam.mpr rfl⟩
theorem Reps.take:∀{ps:List PV}{xs:List V}(n:Nat),Reps U H ps xs->Reps U H (ps.take n) (xs.take n)
 | _,_,0,_=>zam.mpr rfl
 | [],xs,n+1,h=>by rw [zam.mp h];exact zam.mpr rfl
 | p::ps,xs,n+1,h=>by
  obtain ⟨x,r,rfl,h1,h2⟩:=zah.mp h;exact zah.mpr ⟨x,r.take n,rfl,h1,Reps.take n h2⟩
theorem Reps.drop:∀{ps:List PV}{xs:List V}(n:Nat),Reps U H ps xs->Reps U H (ps.drop n) (xs.drop n)
 | _,_,0,h=>h
 | [],xs,n+1,h=>by rw [zam.mp h];exact zam.mpr rfl
 | p::ps,xs,n+1,h=>by
  obtain ⟨x,r,rfl,h1,h2⟩:=zah.mp h;exact Reps.drop n h2
theorem Reps.reverse:∀{ps:List PV}{xs:List V},Reps U H ps xs->Reps U H ps.reverse xs.reverse
 | [],xs,h=>by rw [zam.mp h];exact zam.mpr rfl
 | p::ps,xs,h=>by
  obtain ⟨x,r,rfl,h1,h2⟩:=zah.mp h;rw [List.reverse_cons,List.reverse_cons];exact Reps.append (Reps.reverse h2) (Reps.one h1)
theorem Reps.set {p:PV}{v:V}(hp:Rep U H p v):∀{ps:List PV}{xs:List V}(i:Nat),Reps U H ps xs->Reps U H (ps.set i p) (xs.set i v)
 | [],xs,i,h=>by rw [zam.mp h];exact zam.mpr rfl
 | q::ps,xs,0,h=>by
  obtain ⟨x,r,rfl,_,h2⟩:=zah.mp h;exact zah.mpr ⟨v,r,rfl,hp,h2⟩
 | q::ps,xs,i+1,h=>by
  obtain ⟨x,r,rfl,h1,h2⟩:=zah.mp h;exact zah.mpr ⟨x,r.set i v,rfl,h1,Reps.set hp i h2⟩
theorem Reps.ints:∀{ns:List Int}{xs:List V},Reps U H (ns.map PV.int) xs->xs=ns.map V.int
 | [],xs,h=>zam.mp h
 | n::ns,xs,h=>by
  obtain ⟨x,r,rfl,h1,h2⟩:=zah.mp h;rw [zaT.mp h1,Reps.ints h2];rfl
theorem Reps.bls:∀{bs:List Bool}{xs:List V},Reps U H (bs.map PV.bl) xs->xs=bs.map V.bl
 | [],xs,h=>zam.mp h
 | n::ns,xs,h=>by
  obtain ⟨x,r,rfl,h1,h2⟩:=zah.mp h;rw [zbP.mp h1,Reps.bls h2];rfl
theorem Reps.of_ints:∀(ns:List Int),Reps U H (ns.map PV.int) (ns.map V.int)
 | []=>zam.mpr rfl
 | n::ns=>zah.mpr ⟨_,_,rfl,zaT.mpr rfl,Reps.of_ints ns⟩
end
inductive Fl where|shr|own|bor
abbrev PEnv:=List (Option (PV×Fl))
def Top (U:AS) (H:Hp) (p:PV) (a:Addr):Prop:=match p with
 | .lst ps=>∃xs,H a=some (.lst xs)/\Reps U H ps xs
 | .dct ks=>∃kvs,H a=some (.dK kvs)/\RepK U H ks kvs
 | .dtt ks=>∃kvs,H a=some (.dT kvs)/\RepT U H ks kvs
 | _=>False
def Bor (U:AS) (H:Hp) (p:PV) (v:V):Prop:=match p with
 | .lst ps=>∃a xs,v=.ref a/\H a=some (.lst xs)/\Reps U H ps xs
 | .dct ks=>∃a kvs,v=.ref a/\Rd H a (.dK kvs)/\RepK U H ks kvs
 | .dtt ks=>∃a kvs,v=.ref a/\H a=some (.dT kvs)/\RepT U H ks kvs
 | .scr ns=>∃a,v=.ref a/\Rd H a (.lst (ns.map V.int))
 | q=>Rep U H q v
def zre:PV->Bool
 | .adr _=>true
 | _=>false
def zva (U O:AS) (H:Hp):Fl->PV->V->Prop
 | .shr,p,v=>Rep U H p v
 | .own,p,v=>∃a,v=.ref a/\O a/\Top U H p a
 | .bor,p,v=>Bor U H p v/\(∀a,v=.ref a -> ¬O a)/\zre p=false
theorem Rep.bor {U:AS}{H:Hp}{p:PV}{v:V}(h:Rep U H p v):Bor U H p v:=by
 cases p with
 | lst ps=>obtain ⟨a,xs,e,_,r,q⟩:=zcd.mp h;exact ⟨a,xs,e,r,q⟩
 | dct ks=>obtain ⟨a,xs,e,_,r,q⟩:=zgz.mp h;exact ⟨a,xs,e,r,q⟩
 | dtt ks=>obtain ⟨a,xs,e,_,r,q⟩:=zgy.mp h;exact ⟨a,xs,e,r,q⟩
 | scr ns=>obtain ⟨a,e,_,r⟩:=zix.mp h;exact ⟨a,e,r⟩
 | _=>exact h
theorem Top.bor {U:AS}{H:Hp}{p:PV}{a:Addr}(h:Top U H p a):Bor U H p (.ref a):=by
 cases p with
 | lst ps=>obtain ⟨xs,r,q⟩:=h;exact ⟨a,xs,rfl,r,q⟩
 | dct ks=>obtain ⟨xs,r,q⟩:=h;exact ⟨a,xs,rfl,.inl r,q⟩
 | dtt ks=>obtain ⟨xs,r,q⟩:=h;exact ⟨a,xs,rfl,r,q⟩
 | _=>exact h.elim
theorem Top.rep {U:AS}{H:Hp}{p:PV}{a:Addr}(h:Top U H p a) (u:U a):Rep U H p (.ref a):=by
 cases p with
 | lst ps=>obtain ⟨xs,r,q⟩:=h;exact zcd.mpr ⟨a,xs,rfl,u,r,q⟩
 | dct ks=>obtain ⟨xs,r,q⟩:=h;exact zgz.mpr ⟨a,xs,rfl,u,.inl r,q⟩
 | dtt ks=>obtain ⟨xs,r,q⟩:=h;exact zgy.mpr ⟨a,xs,rfl,u,r,q⟩
 | _=>exact h.elim
theorem Rd.dom {H:Hp}{a:Addr}{u:HO}(h:Rd H a u):H a≠none:=by
 rcases h with h|⟨o,h⟩
 ·rw [h];intro z;cases z
 ·rw [h];intro z;cases z
theorem Top.notAdr {U:AS}{H:Hp}{p:PV}{a:Addr}(h:Top U H p a):zre p=false:=by
 cases p<;>first|rfl|exact h.elim
theorem Bor.dom {U:AS}{H:Hp}{p:PV}{a:Addr}(h:Bor U H p (.ref a)) (na:zre p=false):H a≠none:=by
 cases p with
 | adr b=>cases na
 | lst ps=>obtain ⟨b,xs,e,r,q⟩:=h;cases e;rw [r];intro z;cases z
 | dct ks=>obtain ⟨b,xs,e,r,q⟩:=h;cases e;exact r.dom
 | dtt ks=>obtain ⟨b,xs,e,r,q⟩:=h;cases e;rw [r];intro z;cases z
 | obj C nm ps=>obtain ⟨b,dx,xs,e,_,r,_,q⟩:=zeL.mp h;cases e;rw [r];intro z;cases z
 | scr ns=>obtain ⟨b,e,r⟩:=h;cases e;exact r.dom
 | tup ps=>obtain ⟨b,xs,e,r,q⟩:=zaS.mp h;cases e;rw [r];intro z;cases z
 | non=>exact absurd ((zbB (U:=U) (H:=H)).mp h) (by intro z;cases z)
 | bl b=>exact absurd ((zbP (U:=U) (H:=H)).mp h) (by intro z;cases z)
 | int b=>exact absurd ((zaT (U:=U) (H:=H)).mp h) (by intro z;cases z)
 | str b=>exact absurd ((za5 (U:=U) (H:=H)).mp h) (by intro z;cases z)
def Mutb (H:Hp) (a:Addr):Prop:=∃o,H a=some o /\ ∀xs,o≠.tup xs
structure SR (U O:AS) (H:Hp) (σ:St) (ρ:PEnv):Prop where
 len:σ.length=ρ.length
 dU:∀a,U a->H a≠none
 dO:∀a,O a->Mutb H a
 dis:∀a,U a -> ¬O a
 slot:∀(i:Nat) (p:PV) (fl:Fl),ρ[i]?=some (some (p,fl)) -> ∃v,σ[i]?=some (some v)/\zva U O H fl p v
 inj:∀(i j:Nat) (p q:PV) (a:Addr),i≠j->ρ[i]?=some (some (p,.own))->ρ[j]?=some (some (q,.own))->σ[i]?=some (some (.ref a))->σ[j]?≠some (some (.ref a))
structure Ext (U:AS) (H:Hp) (U':AS) (H':Hp):Prop where
 same:Same H H'
 mono:∀a,U a->U' a
 new:∀a,U' a->U a\/H a=none
 dU:∀a,U' a->H' a≠none
theorem Same.rd {H H':Hp}(s:Same H H') {a:Addr}{u:HO}(h:Rd H a u):Rd H' a u:=by
 rcases h with h|⟨o,h⟩
 ·exact .inl (s _ _ h)
 ·exact .inr ⟨o,s _ _ h⟩
theorem Ext.keeps {U U':AS}{H H':Hp}(e:Ext U H U' H'):Keeps U H U' H' :=
 ⟨e.mono,fun a xs _ h=>e.same _ _ h,fun a xs _ h=>e.same.rd h,fun a kvs _ h=>e.same.rd h,fun a xs h=>e.same _ _ h⟩
theorem Ext.refl {U:AS}{H:Hp}(d:∀a,U a->H a≠none):Ext U H U H:=⟨fun _ _ h=>h,fun _ h=>h,fun _ h=>.inl h,d⟩
theorem Ext.trans {U U1 U2:AS}{H H1 H2:Hp}(a:Ext U H U1 H1) (b:Ext U1 H1 U2 H2):Ext U H U2 H2:=by
 refine ⟨fun c o h=>b.same c o (a.same c o h),fun c h=>b.mono c (a.mono c h),fun c h=>?_,b.dU⟩;rcases b.new c h with h|h
 ·exact a.new c h
 ·refine .inr ?_
  cases q:H c with
  | none=>rfl
  | some o=>rw [a.same c o q] at h;cases h
theorem Ext.laid {U:AS}{H:Hp}{a:Addr}{o:HO}(d:∀a,U a->H a≠none) (ha:H a=none):Ext U H U (upd H a o):=by
 refine ⟨fun b u h=>?_,fun _ h=>h,fun _ h=>.inl h,fun b h=>?_⟩
 ·rw [zac (zaw h ha)];exact h
 ·intro z
  by_cases e:b=a
  ·subst e;exact d _ h ha
  ·rw [zac e] at z;exact d _ h z
theorem Ext.share {U U':AS}{H H':Hp}{a:Addr}(e:Ext U H U' H') (ha:H a=none) (ha':H' a≠none):Ext U H (fun b=>U' b\/b=a) H':=by
 refine ⟨e.same,fun b h=>.inl (e.mono b h),fun b h=>?_,fun b h=>?_⟩
 ·rcases h with h|rfl
  ·exact e.new b h
  ·exact .inr ha
 ·rcases h with h|rfl
  ·exact e.dU b h
  ·exact ha'
theorem Keeps.share {U:AS}{H:Hp}{a:Addr}:Keeps U H (fun b=>U b\/b=a) H :=
 ⟨fun _ h=>.inl h,fun _ _ _ h=>h,fun _ _ _ h=>h,fun _ _ _ h=>h,fun _ _ h=>h⟩
theorem Top.keeps {U U':AS}{H H':Hp}{p:PV}{a:Addr}(k:Keeps U H U' H') (ha:∀o,H a=some o->H' a=some o) (h:Top U H p a):Top U' H' p a:=by
 cases p with
 | lst ps=>obtain ⟨xs,r,q⟩:=h;exact ⟨xs,ha _ r,Reps.keeps k _ _ q⟩
 | dct ks=>obtain ⟨xs,r,q⟩:=h;exact ⟨xs,ha _ r,RepK.keeps k _ _ q⟩
 | dtt ks=>obtain ⟨xs,r,q⟩:=h;exact ⟨xs,ha _ r,RepT.keeps k _ _ q⟩
 | _=>exact h.elim
theorem Bor.keeps {U U':AS}{H H':Hp}{p:PV}{v:V}(k:Keeps U H U' H') (s:Same H H') (h:Bor U H p v):Bor U' H' p v:=by
 cases p with
 | lst ps=>obtain ⟨a,xs,e,r,q⟩:=h;exact ⟨a,xs,e,s _ _ r,Reps.keeps k _ _ q⟩
 | dct ks=>obtain ⟨a,xs,e,r,q⟩:=h;exact ⟨a,xs,e,s.rd r,RepK.keeps k _ _ q⟩
 | dtt ks=>obtain ⟨a,xs,e,r,q⟩:=h;exact ⟨a,xs,e,s _ _ r,RepT.keeps k _ _ q⟩
 | scr ns=>obtain ⟨a,e,r⟩:=h;exact ⟨a,e,s.rd r⟩
 | _=>exact Rep.keeps k _ _ h
theorem SR.ext {U O U':AS}{H H':Hp}{σ:St}{ρ:PEnv}(s:SR U O H σ ρ) (e:Ext U H U' H'):SR U' O H' σ ρ:=by
 refine ⟨s.len,e.dU,fun a h=>?_,fun a h o=>?_,fun i p fl h=>?_,s.inj⟩
 ·obtain ⟨o,h1,h2⟩:=s.dO a h
  exact ⟨o,e.same a o h1,h2⟩
 ·rcases e.new a h with h|h
  ·exact s.dis a h o
  ·obtain ⟨u,h1,_⟩:=s.dO a o
   rw [h] at h1;cases h1
 ·obtain ⟨v,hv,ok⟩:=s.slot i p fl h
  refine ⟨v,hv,?_⟩;cases fl with
  | shr=>exact Rep.keeps e.keeps _ _ ok
  | own=>obtain ⟨a,e1,e2,e3⟩:=ok;exact ⟨a,e1,e2,e3.keeps e.keeps fun o h=>e.same _ _ h⟩
  | bor=>exact ⟨Bor.keeps e.keeps e.same ok.1,ok.2⟩
inductive Md where|shr|fr|bor
def Res (m:Md) (H:Hp) (U':AS) (H':Hp) (p:PV) (v:V):Prop:=match m with
 | .shr=>Rep U' H' p v
 | .fr=>∃a,v=.ref a/\H a=none /\ ¬U' a/\Top U' H' p a
 | .bor=>Bor U' H' p v
def VE (m:Md) (t:TE) (f:PEnv->Option PV):Prop:=∀(U O:AS) (H:Hp) (σ:St) (ρ:PEnv) (Q:VK) (p:PV),SR U O H σ ρ->f ρ=some p ->
 (∀v H' U',Ext U H U' H' -> Res m H U' H' p v->Q v H')->t σ H Q
theorem VE.shr {t:TE}{f:PEnv->Option PV}(h:VE .fr t f):VE .shr t f:=by
 intro U O H σ ρ Q p s e k;refine h U O H σ ρ Q p s e fun v H' U' ex ⟨a,ea,ha,hu,tp⟩=>?_;subst ea;have hne:H' a≠none:=by
  cases p with
  | lst ps=>obtain ⟨xs,r,_⟩:=tp;rw [r];intro z;cases z
  | dct ps=>obtain ⟨xs,r,_⟩:=tp;rw [r];intro z;cases z
  | dtt ps=>obtain ⟨xs,r,_⟩:=tp;rw [r];intro z;cases z
  | _=>exact tp.elim
 exact k (.ref a) H' _ (ex.share ha hne) ((tp.keeps Keeps.share fun o h=>h).rep (.inr rfl))
theorem VE.bor {m:Md}{t:TE}{f:PEnv->Option PV}(h:VE m t f):VE .bor t f:=by
 intro U O H σ ρ Q p s e k;refine h U O H σ ρ Q p s e fun v H' U' ex r=>k v H' U' ex ?_;cases m with
 | shr=>exact Rep.bor r
 | fr=>obtain ⟨a,rfl,_,_,tp⟩:=r;exact tp.bor
 | bor=>exact r
def VT (t:TT) (f:PEnv->Option Bool):Prop:=∀(U O:AS) (H:Hp) (σ:St) (ρ:PEnv) (Q:Bool->Hp->Prop) (b:Bool),SR U O H σ ρ->f ρ=some b ->
 (∀H' U',Ext U H U' H' -> Q b H')->t σ H Q
inductive Bors (U:AS) (H:Hp):List PV->List V->Prop
 | nil:Bors U H [] []
 | cons {p:PV}{v:V}{ps:List PV}{vs:List V}:Bor U H p v->Bors U H ps vs->Bors U H (p::ps) (v::vs)
def ResA (b:Bool) (U':AS) (H':Hp) (ps:List PV) (vs:List V):Prop:=if b=true then Bors U' H' ps vs else Reps U' H' ps vs
def VA (b:Bool) (t:TA) (f:PEnv->Option (List PV)):Prop:=∀(U O:AS) (H:Hp) (σ:St) (ρ:PEnv) (Q:List V->Hp->Prop) (ps:List PV),SR U O H σ ρ->f ρ=some ps ->
 (∀vs H' U',Ext U H U' H' -> ResA b U' H' ps vs->Q vs H')->t σ H Q
inductive Out where
 | nx (ρ:PEnv)|bk (ρ:PEnv)|ct (ρ:PEnv)|rt (p:PV) (fr:Bool)
structure Tr (U O:AS) (H:Hp) (U' O':AS) (H':Hp):Prop where
 fr:∀a o,H a=some o -> ¬O a->H' a=some o
 mono:∀a,U a->U' a
 new:∀a,U' a->U a\/O a\/H a=none
 own:∀a,O' a->O a\/H a=none
 dU:∀a,U' a->H' a≠none
 dm:∀a,H a≠none->H' a≠none
theorem Tr.refl {U O:AS}{H:Hp}(d:∀a,U a->H a≠none):Tr U O H U O H:=⟨fun _ _ h _=>h,fun _ h=>h,fun _ h=>.inl h,fun _ h=>.inl h,d,fun _ h=>h⟩
theorem Tr.trans {U O U1 O1 U2 O2:AS}{H H1 H2:Hp}(a:Tr U O H U1 O1 H1) (b:Tr U1 O1 H1 U2 O2 H2):Tr U O H U2 O2 H2:=by
 have back:∀c,H1 c=none->H c=none:=fun c h=>by
  cases q:H c with
  | none=>rfl
  | some o=>exact absurd h (a.dm c (by rw [q];intro z;cases z))
 refine ⟨fun c o h n=>b.fr c o (a.fr c o h n) fun z=>?_,fun c h=>b.mono c (a.mono c h),fun c h=>?_,fun c h=>?_,b.dU,fun c h=>b.dm c (a.dm c h)⟩
 ·rcases a.own c z with z|z
  ·exact n z
  ·rw [h] at z;cases z
 ·rcases b.new c h with h|h|h
  ·exact a.new c h
  ·rcases a.own c h with h|h
   ·exact .inr (.inl h)
   ·exact .inr (.inr h)
  ·exact .inr (.inr (back c h))
 ·rcases b.own c h with h|h
  ·exact a.own c h
  ·exact .inr (back c h)
theorem Ext.tr {U O U':AS}{H H':Hp}(e:Ext U H U' H'):Tr U O H U' O H' :=
 ⟨fun a o h _=>e.same a o h,e.mono,fun a h=>(e.new a h).elim .inl fun z=>.inr (.inr z),fun _ h=>.inl h,e.dU,fun a h z=>by
  cases q:H a with
  | none=>exact h q
  | some o=>rw [e.same a o q] at z;cases z⟩
theorem Tr.keeps {U O U' O':AS}{H H':Hp}(t:Tr U O H U' O' H') (dis:∀a,U a -> ¬O a) (dO:∀a,O a->Mutb H a):Keeps U H U' H':=by
 refine ⟨t.mono,fun a xs u h=>t.fr a _ h (dis a u),fun a xs u h=>?_,fun a kvs u h=>?_,fun a xs h=>t.fr a _ h fun z=>?_⟩
 ·rcases h with h|⟨o,h⟩
  ·exact .inl (t.fr a _ h (dis a u))
  ·exact .inr ⟨o,t.fr a _ h (dis a u)⟩
 ·rcases h with h|⟨o,h⟩
  ·exact .inl (t.fr a _ h (dis a u))
  ·exact .inr ⟨o,t.fr a _ h (dis a u)⟩
 ·obtain ⟨o,h1,h2⟩:=dO a z
  rw [h] at h1;cases h1;exact h2 xs rfl
def zoo (fr:Bool) (O:AS) (H:Hp) (U':AS) (H':Hp) (p:PV) (v:V):Prop :=
 if fr=true then ∃a,v=.ref a /\ ¬U' a/\(H a=none\/O a)/\Top U' H' p a else Rep U' H' p v
def Post (U O:AS) (H:Hp) (D:Ends):Out->Prop
 | .nx ρ'=>∀U' O' H' σ',SR U' O' H' σ' ρ' -> Tr U O H U' O' H' -> D.nx σ' H'
 | .bk ρ'=>∀U' O' H' σ',SR U' O' H' σ' ρ' -> Tr U O H U' O' H' -> D.bk σ' H'
 | .ct ρ'=>∀U' O' H' σ',SR U' O' H' σ' ρ' -> Tr U O H U' O' H' -> D.ct σ' H'
 | .rt p fr=>∀U' O' H' v,Tr U O H U' O' H' -> zoo fr O H U' H' p v->D.rt v H'
def VS (t:TS) (F:PEnv->Option Out):Prop:=∀(U O:AS) (H:Hp) (σ:St) (ρ:PEnv) (D:Ends) (o:Out),SR U O H σ ρ->F ρ=some o->Post U O H D o->t D σ H
end L2
namespace L2
open PySem PySem.Spec PyProof.Rows
theorem Tr.back {U O U1 O1:AS}{H H1:Hp}(a:Tr U O H U1 O1 H1) {c:Addr}(h:H1 c=none):H c=none:=by
 cases q:H c with
 | none=>rfl
 | some o=>exact absurd h (a.dm c (by rw [q];intro z;cases z))
theorem zoo.pre {fr:Bool}{U O U1 O1 U':AS}{H H1 H':Hp}{p:PV}{v:V}(t:Tr U O H U1 O1 H1) (r:zoo fr O1 H1 U' H' p v):zoo fr O H U' H' p v:=by
 cases fr with
 | false=>exact r
 | true =>
  obtain ⟨a,e,nu,h,tp⟩:=r;refine ⟨a,e,nu,?_,tp⟩;rcases h with h|h
  ·exact .inl (t.back h)
  ·rcases t.own a h with h|h
   ·exact .inr h
   ·exact .inl h
theorem Post.pre {U O U1 O1:AS}{H H1:Hp}{D:Ends}{o:Out}(t:Tr U O H U1 O1 H1) (q:Post U O H D o):Post U1 O1 H1 D o:=by
 cases o with
 | nx ρ'=>exact fun U' O' H' σ' s r=>q U' O' H' σ' s (t.trans r)
 | bk ρ'=>exact fun U' O' H' σ' s r=>q U' O' H' σ' s (t.trans r)
 | ct ρ'=>exact fun U' O' H' σ' s r=>q U' O' H' σ' s (t.trans r)
 | rt p fr=>exact fun U' O' H' v r k=>q U' O' H' v (t.trans r) (k.pre t)
abbrev VF:=PEnv->Option Out
def zak:VF:=fun ρ=>some (.nx ρ)
def vSeq (F G:VF):VF:=fun ρ=>match F ρ with
 | some (.nx ρ')=>G ρ'
 | o=>o
def zct:VF:=fun _=>none
def vRet (f:PEnv->Option PV) (fr:Bool):VF:=fun ρ=>(f ρ).map fun p=>.rt p fr
def zb2 (i:Nat):VF:=fun ρ=>match ρ[i]? with
 | some (some (p,.own))=>some (.rt p true)
 | _=>none
def vBrk:VF:=fun ρ=>some (.bk ρ)
def vCnt:VF:=fun ρ=>some (.ct ρ)
def vIf (c:PEnv->Option Bool) (F G:VF):VF:=fun ρ=>match c ρ with
 | some true=>F ρ
 | some false=>G ρ
 | none=>none
def zai (i:Nat) (f:PEnv->Option PV):VF:=fun ρ=>(f ρ).map fun p=>.nx (ρ.set i (some (p,.shr)))
def zaR (i:Nat) (f:PEnv->Option PV):VF:=fun ρ=>(f ρ).map fun p=>.nx (ρ.set i (some (p,.own)))
def zbE (f:PEnv->Option PV):VF:=fun ρ=>(f ρ).map fun _=>.nx ρ
def zfQ (i:Nat) (F:VF):VF:=fun ρ=>match ρ[i]? with
 | some (some (p,.own))=>F (ρ.set i (some (p,.shr)))
 | some (some (p,.shr))=>F ρ
 | _=>none
theorem zpt:VS zsH zak:=by
 intro U O H σ ρ D o s e q;cases e;exact q U O H σ s (.refl s.dU)
theorem zm2:VS zoF zct:=by
 intro U O H σ ρ D o s e q;cases e
theorem zsa {t u:TS}{F G:VF}(h:VS t F) (g:VS u G):VS (tSeq t u) (vSeq F G):=by
 intro U O H σ ρ D o s e q;unfold vSeq at e;cases z:F ρ with
 | none=>rw [z] at e;cases e
 | some o1 =>
  rw [z] at e;refine h U O H σ ρ { D with nx:=u D } o1 s z ?_;cases o1 with
  | nx ρ1=>exact fun U1 O1 H1 σ1 s1 r1=>g U1 O1 H1 σ1 ρ1 D o s1 e (q.pre r1)
  | bk ρ1=>cases e;exact q
  | ct ρ1=>cases e;exact q
  | rt p fr=>cases e;exact q
theorem zvz {c:TT}{t u:TS}{fc:PEnv->Option Bool}{F G:VF}(hc:VT c fc) (h:VS t F) (g:VS u G):VS (tIfS c t u) (vIf fc F G):=by
 intro U O H σ ρ D o s e q;unfold vIf at e;cases z:fc ρ with
 | none=>rw [z] at e;cases e
 | some b =>
  rw [z] at e;refine hc U O H σ ρ _ b s z fun H' U' ex=>?_;cases b with
  | true=>exact h U' O H' σ ρ D o (s.ext ex) e (q.pre ex.tr)
  | false=>exact g U' O H' σ ρ D o (s.ext ex) e (q.pre ex.tr)
theorem zpw {te:TE}{f:PEnv->Option PV}(h:VE .shr te f):VS (tRet te) (vRet f false):=by
 intro U O H σ ρ D o s e q;unfold vRet at e;obtain ⟨p,hp,rfl⟩:=Zb.mp e;exact h U O H σ ρ _ p s hp fun v H' U' ex r=>q U' O H' v ex.tr r
theorem zpy {te:TE}{f:PEnv->Option PV}(h:VE .fr te f):VS (tRet te) (vRet f true):=by
 intro U O H σ ρ D o s e q;unfold vRet at e;obtain ⟨p,hp,rfl⟩:=Zb.mp e;exact h U O H σ ρ _ p s hp fun v H' U' ex ⟨a,ea,ha,hu,tp⟩=>q U' O H' v ex.tr ⟨a,ea,hu,.inl ha,tp⟩
theorem zpx {i:Nat}:VS (tRet (tVar i)) (zb2 i):=by
 intro U O H σ ρ D o s e q;unfold zb2 at e;split at e
 ·rename_i p hp
  cases e;obtain ⟨v,hv,a,rfl,oa,tp⟩:=s.slot i p .own hp;exact ⟨_,hv,q U O H (.ref a) (.refl s.dU) ⟨a,rfl,fun u=>s.dis a u oa,.inr oa,tp⟩⟩
 ·cases e
theorem zpC {te:TE}{m:Md}{f:PEnv->Option PV}(h:VE m te f):VS (zhd te) (zbE f):=by
 intro U O H σ ρ D o s e q;unfold zbE at e;obtain ⟨p,hp,rfl⟩:=Zb.mp e;exact h U O H σ ρ _ p s hp fun v H' U' ex r=>q U' O H' σ (s.ext ex) ex.tr
theorem zau {α:Type}{l:List α}{i j:Nat}{x y:α}(h:(l.set i x)[j]?=some y):(i=j/\y=x/\i < l.length)\/(i≠j/\l[j]?=some y):=by
 rw [List.getElem?_set] at h;by_cases e:i=j
 ·subst e
  simp only [if_true] at h;by_cases hl:i < l.length
  ·simp only [hl,if_true] at h;exact .inl ⟨rfl,(Option.some.inj h).symm,hl⟩
  ·simp only [hl,if_false] at h;cases h
 ·simp only [e,if_false] at h
  exact .inr ⟨e,h⟩
theorem set_same {α:Type}{l:List α}{i:Nat}{x:α}(h:i < l.length):(l.set i x)[i]?=some x:=by simp [h]
theorem zbF {α:Type}{l:List α}{i j:Nat}{x:α}(h:i≠j):(l.set i x)[j]?=l[j]?:=by simp [h]
theorem SR.setS {U O:AS}{H:Hp}{σ:St}{ρ:PEnv}{i:Nat}{p:PV}{v:V}(s:SR U O H σ ρ) (r:Rep U H p v):SR U O H (σ.set i (some v)) (ρ.set i (some (p,.shr))):=by
 refine ⟨by simp [s.len],s.dU,s.dO,s.dis,fun j q fl h=>?_,fun j k q q' a ne h1 h2 h3 h4=>?_⟩
 ·rcases zau h with ⟨rfl,e,hl⟩|⟨ne,h⟩
  ·cases e
   exact ⟨v,set_same (by rw [s.len];exact hl),r⟩
  ·obtain ⟨w,hw,ok⟩:=s.slot j q fl h
   exact ⟨w,by rw [zbF ne];exact hw,ok⟩
 ·rcases zau h1 with ⟨_,e,_⟩|⟨n1,h1⟩
  ·cases e
  rcases zau h2 with ⟨_,e,_⟩|⟨n2,h2⟩
  ·cases e
  rw [zbF n1] at h3;rw [zbF n2] at h4;exact s.inj j k q q' a ne h1 h2 h3 h4
theorem SR.setO {U O:AS}{H:Hp}{σ:St}{ρ:PEnv}{i:Nat}{p:PV}{a:Addr}(s:SR U O H σ ρ) (no:¬O a) (nu:¬U a) (nb:∀(j:Nat) (q:PV),ρ[j]?=some (some (q,.bor))->σ[j]?≠some (some (.ref a))) (tp:Top U H p a):SR U (fun b=>O b\/b=a) H (σ.set i (some (.ref a))) (ρ.set i (some (p,.own))):=by
 have mu:Mutb H a:=by
  cases p with
  | lst ps=>obtain ⟨xs,r,_⟩:=tp;exact ⟨_,r,fun _ z=>nomatch z⟩
  | dct ks=>obtain ⟨xs,r,_⟩:=tp;exact ⟨_,r,fun _ z=>nomatch z⟩
  | dtt ks=>obtain ⟨xs,r,_⟩:=tp;exact ⟨_,r,fun _ z=>nomatch z⟩
  | _=>exact tp.elim
 have hold:∀(j:Nat) (q:PV),ρ[j]?=some (some (q,.own))->σ[j]?≠some (some (.ref a)):=fun j q h z=>by
  obtain ⟨w,hw,b,rfl,ob,_⟩:=s.slot j q .own h;rw [hw] at z;cases z;exact no ob
 refine ⟨by simp [s.len],s.dU,fun b h=>?_,fun b u h=>?_,fun j q fl h=>?_,fun j k q q' b ne h1 h2 h3 h4=>?_⟩
 ·rcases h with h|rfl
  ·exact s.dO b h
  ·exact mu
 ·rcases h with h|rfl
  ·exact s.dis b u h
  ·exact nu u
 ·rcases zau h with ⟨rfl,e,hl⟩|⟨ne,h⟩
  ·cases e
   exact ⟨.ref a,set_same (by rw [s.len];exact hl),a,rfl,.inr rfl,tp⟩
  ·obtain ⟨w,hw,ok⟩:=s.slot j q fl h
   refine ⟨w,by rw [zbF ne];exact hw,?_⟩;cases fl with
   | shr=>exact ok
   | own=>obtain ⟨b,e1,e2,e3⟩:=ok;exact ⟨b,e1,.inl e2,e3⟩
   | bor =>
    refine ⟨ok.1,fun b e z=>?_,ok.2.2⟩;subst e;rcases z with z|rfl
    ·exact ok.2.1 b rfl z
    ·exact nb j q h hw
 ·rcases zau h1 with ⟨rfl,e,hl⟩|⟨n1,h1⟩
  ·cases e
   rcases zau h2 with ⟨e,_,_⟩|⟨n2,h2⟩
   ·exact ne e
   rw [set_same (by rw [s.len];exact hl)] at h3;cases h3;rw [zbF n2] at h4;exact hold k q' h2 h4
  ·rw [zbF n1] at h3
   rcases zau h2 with ⟨rfl,e,hl⟩|⟨n2,h2⟩
   ·cases e
    rw [set_same (by rw [s.len];exact hl)] at h4;cases h4;exact hold j q h1 h3
   ·rw [zbF n2] at h4
    exact s.inj j k q q' b ne h1 h2 h3 h4
theorem zpu {i:Nat}{te:TE}{f:PEnv->Option PV}(h:VE .shr te f):VS (tAsg te (zh5 i)) (zai i f):=by
 intro U O H σ ρ D o s e q;obtain ⟨p,hp,rfl⟩:=Zb.mp e;exact h U O H σ ρ _ p s hp fun v H' U' ex r=>q U' O H' _ ((s.ext ex).setS r) ex.tr
theorem zo4 {U O:AS}{H:Hp}{a:Addr}(d:∀a,U a->H a≠none) {U':AS}{H':Hp}(ex:Ext U H U' H') (ha:H a=none):Tr U O H U' (fun b=>O b\/b=a) H' :=
 have t:=ex.tr (O:=O)
 ⟨t.fr,t.mono,t.new,fun b h=>h.elim .inl fun e=>.inr (by rw [e];exact ha),t.dU,t.dm⟩
theorem SR.noO {U O:AS}{H:Hp}{σ:St}{ρ:PEnv}(s:SR U O H σ ρ) {a:Addr}(ha:H a=none):¬O a:=fun z=>by
 obtain ⟨u,h1,_⟩:=s.dO a z;rw [ha] at h1;cases h1
theorem SR.noB {U O:AS}{H:Hp}{σ:St}{ρ:PEnv}(s:SR U O H σ ρ) {a:Addr}(ha:H a=none) (j:Nat) (q:PV) (h:ρ[j]?=some (some (q,.bor))):σ[j]?≠some (some (.ref a)):=fun z=>by
 obtain ⟨v,hv,ok⟩:=s.slot j q .bor h;rw [hv] at z;cases z;exact ok.1.dom ok.2.2 ha
theorem zpv {i:Nat}{te:TE}{f:PEnv->Option PV}(h:VE .fr te f):VS (tAsg te (zh5 i)) (zaR i f):=by
 intro U O H σ ρ D o s e q;obtain ⟨p,hp,rfl⟩:=Zb.mp e;refine h U O H σ ρ _ p s hp fun v H' U' ex ⟨a,ea,ha,hu,tp⟩=>?_;subst ea;exact q U' _ H' _ ((s.ext ex).setO (s.noO ha) hu (s.noB ha) tp) (zo4 s.dU ex ha)
theorem zir {j:Nat}{src:List (Option Nat)}{wi:TI}{g:TG}{tif:TT}{te:TE}{f:PEnv->Option PV}(h:VE .fr (zhf src wi g tif te) f):VS (zgm j src wi g tif te) (zai j f):=by
 intro U O H σ ρ D o s e q;obtain ⟨p,hp,rfl⟩:=Zb.mp e;exact h.shr U O H σ ρ _ p s hp fun v H' U' ex r=>q U' O H' _ ((s.ext ex).setS r) ex.tr
theorem zis {j:Nat}{src:List (Option Nat)}{wi:TI}{g:TG}{tif:TT}{te:TE}{f:PEnv->Option PV}(h:VE .fr (zhf src wi g tif te) f):VS (zgm j src wi g tif te) (zaR j f):=by
 intro U O H σ ρ D o s e q;obtain ⟨p,hp,rfl⟩:=Zb.mp e;refine h U O H σ ρ _ p s hp fun v H' U' ex ⟨a,ea,ha,hu,tp⟩=>?_;subst ea;exact q U' _ H' _ ((s.ext ex).setO (s.noO ha) hu (s.noB ha) tp) (zo4 s.dU ex ha)
theorem SR.share {U O:AS}{H:Hp}{σ:St}{ρ:PEnv}{i:Nat}{p:PV}(s:SR U O H σ ρ) (hp:ρ[i]?=some (some (p,.own))) :
  ∃a,SR (fun b=>U b\/b=a) (fun b=>O b/\b≠a) H σ (ρ.set i (some (p,.shr)))/\Tr U O H (fun b=>U b\/b=a) (fun b=>O b/\b≠a) H:=by
 obtain ⟨v,hv,a,rfl,oa,tp⟩:=s.slot i p .own hp;have hd:H a≠none:=by
  obtain ⟨u,h1,_⟩:=s.dO a oa;rw [h1];intro z;cases z
 refine ⟨a,⟨by simp [s.len],fun b h=>?_,fun b h=>s.dO b h.1,fun b u h=>?_,fun j q fl h=>?_,fun j k q q' b ne h1 h2 h3 h4=>?_⟩,⟨fun _ _ h _=>h,fun b h=>.inl h,fun b h=>?_,fun b h=>.inl h.1,fun b h=>?_,fun _ h=>h⟩⟩
 ·rcases h with h|rfl
  ·exact s.dU b h
  ·exact hd
 ·rcases u with u|rfl
  ·exact s.dis b u h.1
  ·exact h.2 rfl
 ·rcases zau h with ⟨rfl,e,hl⟩|⟨ne,h⟩
  ·cases e
   exact ⟨_,hv,(tp.keeps Keeps.share fun o h=>h).rep (.inr rfl)⟩
  ·obtain ⟨w,hw,ok⟩:=s.slot j q fl h
   refine ⟨w,hw,?_⟩;cases fl with
   | shr=>exact Rep.keeps Keeps.share _ _ ok
   | own =>
    obtain ⟨b,e1,e2,e3⟩:=ok;refine ⟨b,e1,⟨e2,fun z=>?_⟩,e3.keeps Keeps.share fun o h=>h⟩;subst z;subst e1;exact s.inj i j p q b ne hp h hv hw
   | bor=>exact ⟨Bor.keeps Keeps.share (fun _ _ h=>h) ok.1,fun b e z=>ok.2.1 b e z.1,ok.2.2⟩
 ·rcases zau h1 with ⟨_,e,_⟩|⟨n1,h1⟩
  ·cases e
  rcases zau h2 with ⟨_,e,_⟩|⟨n2,h2⟩
  ·cases e
  exact s.inj j k q q' b ne h1 h2 h3 h4
 ·rcases h with h|rfl
  ·exact .inl h
  ·exact .inr (.inl oa)
 ·rcases h with h|rfl
  ·exact s.dU b h
  ·exact hd
theorem zm1 {i:Nat}{t:TS}{F:VF}(h:VS t F):VS t (zfQ i F):=by
 intro U O H σ ρ D o s e q;unfold zfQ at e;split at e
 ·rename_i p hp
  obtain ⟨a,s1,t1⟩:=s.share hp;exact h _ _ H σ _ D o s1 e (q.pre t1)
 ·exact h U O H σ ρ D o s e q
 ·cases e
theorem Bor.keepsB {U U':AS}{H H':Hp}{p:PV}{v:V}(k:Keeps U H U' H') (h:Bor U H p v) (s:∀b,v=.ref b -> ∀o,H b=some o->H' b=some o):Bor U' H' p v:=by
 have rd:∀{a u},v=.ref a->Rd H a u->Rd H' a u:=fun {a u} e r=>by
  rcases r with r|⟨o,r⟩
  ·exact .inl (s a e _ r)
  ·exact .inr ⟨o,s a e _ r⟩
 cases p with
 | lst ps=>obtain ⟨a,xs,e,r,q⟩:=h;exact ⟨a,xs,e,s a e _ r,Reps.keeps k _ _ q⟩
 | dct ks=>obtain ⟨a,xs,e,r,q⟩:=h;exact ⟨a,xs,e,rd e r,RepK.keeps k _ _ q⟩
 | dtt ks=>obtain ⟨a,xs,e,r,q⟩:=h;exact ⟨a,xs,e,s a e _ r,RepT.keeps k _ _ q⟩
 | scr ns=>obtain ⟨a,e,r⟩:=h;exact ⟨a,e,rd e r⟩
 | _=>exact Rep.keeps k _ _ h
theorem SR.write {U O:AS}{H:Hp}{σ:St}{ρ:PEnv}{i:Nat}{p p':PV}{a:Addr}{u:HO}(s:SR U O H σ ρ) (hp:ρ[i]?=some (some (p,.own))) (hv:σ[i]?=some (some (.ref a))) (hu:∀xs,u≠.tup xs) (tp:Top U (upd H a u) p' a) :
  SR U O (upd H a u) σ (ρ.set i (some (p',.own)))/\Tr U O H U O (upd H a u)/\Keeps U H U (upd H a u):=by
 obtain ⟨v,hv',a',rfl,oa,tp0⟩:=s.slot i p .own hp;rw [hv] at hv';cases hv';have nu:∀b,U b->b≠a:=fun b hb e=>s.dis b hb (by rw [e];exact oa);have dm:∀b,H b≠none->upd H a u b≠none:=fun b h=>by
  by_cases e:b=a
  ·subst e;rw [zaf];intro z;cases z
  ·rw [zac e];exact h
 have tr:Tr U O H U O (upd H a u):=⟨fun b o h n=>by rw [zac (show b≠a from fun e=>n (by rw [e];exact oa))];exact h,fun _ h=>h,fun _ h=>.inl h,fun _ h=>.inl h,fun b h=>dm b (s.dU b h),dm⟩
 have k:Keeps U H U (upd H a u):=tr.keeps s.dis s.dO;refine ⟨⟨by simp [s.len],fun b h=>dm b (s.dU b h),fun b h=>?_,s.dis,fun j q fl h=>?_,fun j l q q' b ne h1 h2 h3 h4=>?_⟩,tr,k⟩
 ·by_cases e:b=a
  ·subst e;exact ⟨u,zaf,hu⟩
  ·obtain ⟨o,h1,h2⟩:=s.dO b h
   exact ⟨o,by rw [zac e];exact h1,h2⟩
 ·rcases zau h with ⟨rfl,e,hl⟩|⟨ne,h⟩
  ·cases e
   exact ⟨_,hv,a,rfl,oa,tp⟩
  ·obtain ⟨w,hw,ok⟩:=s.slot j q fl h
   refine ⟨w,hw,?_⟩;cases fl with
   | shr=>exact Rep.keeps k _ _ ok
   | own =>
    obtain ⟨b,e1,e2,e3⟩:=ok;refine ⟨b,e1,e2,e3.keeps k fun o h'=>?_⟩;subst e1;rw [zac (show b≠a from fun z=>?_)];exact h';subst z;exact s.inj i j p q b ne hp h hv hw
   | bor =>
    refine ⟨Bor.keepsB k ok.1 fun b e o h'=>?_,ok.2⟩;rw [zac (show b≠a from fun z=>ok.2.1 b e (by rw [z];exact oa))];exact h'
 ·have h1':∃r,ρ[j]?=some (some (r,.own)):=by
   rcases zau h1 with ⟨rfl,e,hl⟩|⟨n1,h1⟩
   ·exact ⟨p,hp⟩
   ·exact ⟨q,h1⟩
  have h2':∃r,ρ[l]?=some (some (r,.own)):=by
   rcases zau h2 with ⟨rfl,e,hl⟩|⟨n1,h2⟩
   ·exact ⟨p,hp⟩
   ·exact ⟨q',h2⟩
  obtain ⟨r1,e1⟩:=h1';obtain ⟨r2,e2⟩:=h2';exact s.inj j l r1 r2 b ne e1 e2 h3 h4
abbrev VX:=PEnv->Option PV
abbrev VB:=PEnv->Option Bool
abbrev VL:=PEnv->Option (List PV)
theorem repI (U:AS) (H:Hp) (i:Int):Rep U H (.int i) (.int i):=zaT.mpr rfl
theorem repB (U:AS) (H:Hp) (i:Bool):Rep U H (.bl i) (.bl i):=zbP.mpr rfl
theorem repX (U:AS) (H:Hp) (i:Str):Rep U H (.str i) (.str i):=za5.mpr rfl
theorem repN (U:AS) (H:Hp):Rep U H .non .non:=zbB.mpr rfl
def xVar (i:Nat):VX:=fun ρ=>match ρ[i]? with
 | some (some (p,_))=>some p
 | _=>none
def zaa (i:Nat):VX:=fun ρ=>match ρ[i]? with
 | some (some (p,.shr))=>some p
 | _=>none
def xC (p:PV):VX:=fun _=>some p
def x1 (g:PV->Option PV) (f:VX):VX:=fun ρ=>(f ρ).bind g
def x2 (g:PV->PV->Option PV) (f h:VX):VX:=fun ρ=>(f ρ).bind fun p=>(h ρ).bind fun q=>g p q
def xL (g:List PV->Option PV) (f:VL):VX:=fun ρ=>(f ρ).bind g
def lNil:VL:=fun _=>some []
def zab (f:VX) (r:VL):VL:=fun ρ=>(f ρ).bind fun p=>(r ρ).bind fun ps=>some (p::ps)
theorem zsk {i:Nat}:VE .bor (tVar i) (xVar i):=by
 intro U O H σ ρ Q p s e k;unfold xVar at e;split at e
 ·rename_i q fl hq
  cases e;obtain ⟨v,hv,ok⟩:=s.slot i p fl hq;refine ⟨v,hv,k v H U (.refl s.dU) ?_⟩;cases fl with
  | shr=>exact Rep.bor ok
  | own=>obtain ⟨a,rfl,_,tp⟩:=ok;exact tp.bor
  | bor=>exact ok.1
 ·cases e
theorem zpO {i:Nat}:VE .shr (tVar i) (zaa i):=by
 intro U O H σ ρ Q p s e k;unfold zaa at e;split at e
 ·rename_i q hq
  cases e;obtain ⟨v,hv,ok⟩:=s.slot i p .shr hq;exact ⟨v,hv,k v H U (.refl s.dU) ok⟩
 ·cases e
theorem zoC {i:Int}:VE .shr (tC (.int i)) (xC (.int i)):=fun U O H σ ρ Q p s e k=>by cases e;exact k _ H U (.refl s.dU) (repI U H _)
theorem zvC {i:Bool}:VE .shr (tC (.bl i)) (xC (.bl i)):=fun U O H σ ρ Q p s e k=>by cases e;exact k _ H U (.refl s.dU) (repB U H _)
theorem zsm {i:Str}:VE .shr (tC (.str i)) (xC (.str i)):=fun U O H σ ρ Q p s e k=>by cases e;exact k _ H U (.refl s.dU) (repX U H _)
theorem zsp:VE .shr (tC .non) (xC .non):=fun U O H σ ρ Q p s e k=>by cases e;exact k _ H U (.refl s.dU) (repN U H)
def R2V (m:Md) (r:R2) (g:PV->PV->Option PV):Prop:=∀(U:AS) (H:Hp) (p q z:PV) (v w:V) (Q:VK),(∀a,U a->H a≠none)->Bor U H p v->Bor U H q w->g p q=some z ->
 (∀u H' U',Ext U H U' H' -> Res m H U' H' z u->Q u H')->r v w H Q
def R1V (m:Md) (r:V->Hp->VK->Prop) (g:PV->Option PV):Prop:=∀(U:AS) (H:Hp) (p z:PV) (v:V) (Q:VK),(∀a,U a->H a≠none)->Bor U H p v->g p=some z ->
 (∀u H' U',Ext U H U' H' -> Res m H U' H' z u->Q u H')->r v H Q
def RLV (m:Md) (r:List V->Hp->VK->Prop) (g:List PV->Option PV):Prop:=∀(U:AS) (H:Hp) (ps:List PV) (z:PV) (vs:List V) (Q:VK),(∀a,U a->H a≠none)->Bors U H ps vs->g ps=some z ->
 (∀u H' U',Ext U H U' H' -> Res m H U' H' z u->Q u H')->r vs H Q
theorem Res.pre {m:Md}{U1 U':AS}{H H1 H':Hp}{p:PV}{v:V}(s:Same H H1) (r:Res m H1 U' H' p v):Res m H U' H' p v:=by
 cases m with
 | shr=>exact r
 | bor=>exact r
 | fr =>
  obtain ⟨a,e,ha,h2⟩:=r;refine ⟨a,e,?_,h2⟩;cases q:H a with
  | none=>rfl
  | some o=>rw [s a o q] at ha;cases ha
theorem zm5 {m ma mb:Md}{r:R2}{ta tb:TE}{fa fb:VX}{g:PV->PV->Option PV}(hr:R2V m r g) (ha:VE ma ta fa) (hb:VE mb tb fb):VE m (tOp r ta tb) (x2 g fa fb):=by
 intro U O H σ ρ Q z s e k;unfold x2 at e;obtain ⟨p,hp,e⟩:=Za.mp e;obtain ⟨q,hq,e⟩:=Za.mp e;refine ha.bor U O H σ ρ _ p s hp fun v H1 U1 ex1 r1=>?_;refine hb.bor U1 O H1 σ ρ _ q (s.ext ex1) hq fun w H2 U2 ex2 r2=>?_;exact hr U2 H2 p q z v w Q ex2.dU (Bor.keeps ex2.keeps ex2.same r1) r2 e fun u H3 U3 ex3 r3=>k u H3 U3 (ex1.trans (ex2.trans ex3)) (Res.pre (U1:=U2) (ex1.trans ex2).same r3)
theorem zvB {m ma:Md}{r:V->Hp->VK->Prop}{ta:TE}{fa:VX}{g:PV->Option PV}(hr:R1V m r g) (ha:VE ma ta fa):VE m (tUn r ta) (x1 g fa):=by
 intro U O H σ ρ Q z s e k;unfold x1 at e;obtain ⟨p,hp,e⟩:=Za.mp e;refine ha.bor U O H σ ρ _ p s hp fun v H1 U1 ex1 r1=>?_;exact hr U1 H1 p z v Q ex1.dU r1 e fun u H3 U3 ex3 r3=>k u H3 U3 (ex1.trans ex3) (Res.pre (U1:=U1) ex1.same r3)
theorem zkP {b:Bool}:VA b tNil lNil:=by
 intro U O H σ ρ Q ps s e k;cases e;refine k [] H U (.refl s.dU) ?_;cases b with
 | true=>exact Bors.nil
 | false=>exact (zam (U:=U) (H:=H)).mpr rfl
theorem znh {ma:Md}{te:TE}{t:TA}{f:VX}{g:VL}(h:VE ma te f) (r:VA true t g):VA true (zhe te t) (zab f g):=by
 intro U O H σ ρ Q ps s e k;unfold zab at e;obtain ⟨p,hp,e⟩:=Za.mp e;obtain ⟨qs,hq,e⟩:=Za.mp e;cases e;refine h.bor U O H σ ρ _ p s hp fun v H1 U1 ex1 r1=>?_;refine r U1 O H1 σ ρ _ qs (s.ext ex1) hq fun vs H2 U2 ex2 r2=>?_;exact k (v::vs) H2 U2 (ex1.trans ex2) (.cons (Bor.keeps ex2.keeps ex2.same r1) r2)
theorem zng {te:TE}{t:TA}{f:VX}{g:VL}(h:VE .shr te f) (r:VA false t g):VA false (zhe te t) (zab f g):=by
 intro U O H σ ρ Q ps s e k;unfold zab at e;obtain ⟨p,hp,e⟩:=Za.mp e;obtain ⟨qs,hq,e⟩:=Za.mp e;cases e;refine h U O H σ ρ _ p s hp fun v H1 U1 ex1 r1=>?_;refine r U1 O H1 σ ρ _ qs (s.ext ex1) hq fun vs H2 U2 ex2 r2=>?_;exact k (v::vs) H2 U2 (ex1.trans ex2) (zah.mpr ⟨v,vs,rfl,Rep.keeps ex2.keeps _ _ r1,r2⟩)
def ofConst:V->Option PV
 | .int i=>some (.int i) | .str x=>some (.str x) | .bl b=>some (.bl b) | .non=>some .non|_=>none
theorem zle {U:AS}{H:Hp}{v:V}{p:PV}(h:ofConst v=some p):Rep U H p v:=by
 cases v<;>simp [ofConst] at h<;>subst h
 ·exact zbB.mpr rfl
 ·exact zbP.mpr rfl
 ·exact zaT.mpr rfl
 ·exact za5.mpr rfl
inductive Consts:List V->List PV->Prop
 | nil:Consts [] []
 | cons {v:V}{p:PV}{vs:List V}{ps:List PV}:ofConst v=some p->Consts vs ps->Consts (v::vs) (p::ps)
theorem Consts.reps {U:AS}{H:Hp}:∀{vs:List V}{ps:List PV},Consts vs ps->Reps U H ps vs
 | _,_,.nil=>zam.mpr rfl
 | _,_,.cons a b=>zah.mpr ⟨_,_,rfl,zle a,b.reps⟩
theorem zvD {vs:List V}{ps:List PV}(h:Consts vs ps):VA false (tKs vs) (fun _=>some ps):=by
 intro U O H σ ρ Q qs s e k;cases e;exact k vs H U (.refl s.dU) h.reps
def zaL (n:Nat):Bool:=decide (n<=1000000)
theorem zbg {n:Nat}(h:zaL n=true):n<=sizeLine:=Nat.le_trans (of_decide_eq_true h) (by decide)
theorem zeo {n:Nat}(h:zaL n=true):n < sizeLine:=Nat.lt_of_le_of_lt (of_decide_eq_true h) (by decide)
def zar (ps:List PV):Option PV:=if zaL ps.length then some (.lst ps) else none
def zaQ (ps:List PV):Option PV:=if zaL ps.length then some (.tup ps) else none
theorem zaD {α:Type}{c:Bool}{x y:α}(h:(if c=true then some x else none)=some y):c=true/\x=y:=by
 cases c with
 | true=>exact ⟨rfl,by simpa using h⟩
 | false=>cases h
theorem nU {U:AS}{H:Hp}(d:∀a,U a->H a≠none) {a:Addr}(h:H a=none):¬U a:=fun u=>d a u h
theorem zbr {U:AS}{H:Hp}{ps:List PV}{xs:List V}{a:Addr}(d:∀a,U a->H a≠none) (ha:H a=none) (r:Reps U H ps xs):Ext U H U (upd H a (.lst xs))/\Res .fr H U (upd H a (.lst xs)) (.lst ps) (.ref a) :=
 ⟨.laid d ha,a,rfl,ha,nU d ha,xs,zaf,Reps.keeps (Ext.laid d ha).keeps _ _ r⟩
theorem ziF {U:AS}{H:Hp}{ps:List PV}{xs:List V}{a:Addr}(d:∀a,U a->H a≠none) (ha:H a=none) (r:Reps U H ps xs):Ext U H U (upd H a (.tup xs))/\Res .shr H U (upd H a (.tup xs)) (.tup ps) (.ref a) :=
 ⟨.laid d ha,zaS.mpr ⟨a,xs,rfl,zaf,Reps.keeps (Ext.laid d ha).keeps _ _ r⟩⟩
theorem zq1 {U:AS}{H:Hp}{ks:List (Key×PV)}{xs:List (Key×V)}{a:Addr}(d:∀a,U a->H a≠none) (ha:H a=none) (r:RepK U H ks xs):Ext U H U (upd H a (.dK xs))/\Res .fr H U (upd H a (.dK xs)) (.dct ks) (.ref a) :=
 ⟨.laid d ha,a,rfl,ha,nU d ha,xs,zaf,RepK.keeps (Ext.laid d ha).keeps _ _ r⟩
theorem zsq {t:TA}{f:VL}(h:VA false t f):VE .fr (tLst t) (xL zar f):=by
 intro U O H σ ρ Q z s e k;obtain ⟨ps,hp,e⟩:=Za.mp e;obtain ⟨hs,rfl⟩:=zaD e;refine h U O H σ ρ _ ps s hp fun vs H1 U1 ex1 (r1:Reps U1 H1 ps vs)=>⟨by rw [r1.length];exact zbg hs,fun a ha=>?_⟩
 obtain ⟨e2,r2⟩:=zbr ex1.dU ha r1;exact k _ _ U1 (ex1.trans e2) (Res.pre (U1:=U1) ex1.same r2)
theorem zsl {t:TA}{f:VL}(h:VA false t f):VE .shr (tTup t) (xL zaQ f):=by
 intro U O H σ ρ Q z s e k;obtain ⟨ps,hp,e⟩:=Za.mp e;obtain ⟨hs,rfl⟩:=zaD e;refine h U O H σ ρ _ ps s hp fun vs H1 U1 ex1 (r1:Reps U1 H1 ps vs)=>⟨by rw [r1.length];exact zbg hs,fun a ha=>?_⟩
 obtain ⟨e2,r2⟩:=ziF ex1.dU ha r1;exact k _ _ U1 (ex1.trans e2) r2
def isB:PV->Option Bool
 | .bl b=>some b
 | _=>none
def bOf (f:VX):VB:=fun ρ=>(f ρ).bind isB
def bAnd (f g:VB):VB:=fun ρ=>match f ρ with
 | some true=>g ρ
 | some false=>some false
 | none=>none
def bOr (f g:VB):VB:=fun ρ=>match f ρ with
 | some true=>some true
 | some false=>g ρ
 | none=>none
def bNot (f:VB):VB:=fun ρ=>(f ρ).map (!·)
def xB (f:VB):VX:=fun ρ=>(f ρ).map PV.bl
theorem zgR {p:PV}{b:Bool}(h:isB p=some b):p=.bl b:=by cases p<;>simp [isB] at h;rw [h]
theorem zmS {U:AS}{H:Hp}{b:Bool}{v:V}(h:Bor U H (.bl b) v):v=.bl b:=(zbP (U:=U) (H:=H)).mp h
theorem zaG {U:AS}{H:Hp}{b:Int}{v:V}(h:Bor U H (.int b) v):v=.int b:=(zaT (U:=U) (H:=H)).mp h
theorem zg5 {U:AS}{H:Hp}{b:Str}{v:V}(h:Bor U H (.str b) v):v=.str b:=(za5 (U:=U) (H:=H)).mp h
theorem zet {m:Md}{t:TE}{f:VX}(h:VE m t f):VT (tB t) (bOf f):=by
 intro U O H σ ρ Q b s e k;obtain ⟨p,hp,e⟩:=Za.mp e;have:=zgR e;subst this;exact h.bor U O H σ ρ _ _ s hp fun v H1 U1 ex1 r1=>⟨b,zmS (U:=U1) (H:=H1) r1,k H1 U1 ex1⟩
theorem zps {m:Md}{t:TE}{f:VX}(h:VE m t f):VT (zsE t) (bOf f):=zet h
theorem zr7 {t u:TT}{f g:VB}(h:VT t f) (k:VT u g):VT (tAnd t u) (bAnd f g):=by
 intro U O H σ ρ Q b s e q;unfold bAnd at e;cases z:f ρ with
 | none=>rw [z] at e;cases e
 | some c =>
  rw [z] at e;refine h U O H σ ρ _ c s z fun H1 U1 ex1=>?_;cases c with
  | true=>exact k U1 O H1 σ ρ Q b (s.ext ex1) e fun H2 U2 ex2=>q H2 U2 (ex1.trans ex2)
  | false=>cases e;exact q H1 U1 ex1
theorem zvy {t u:TT}{f g:VB}(h:VT t f) (k:VT u g):VT (tOr t u) (bOr f g):=by
 intro U O H σ ρ Q b s e q;unfold bOr at e;cases z:f ρ with
 | none=>rw [z] at e;cases e
 | some c =>
  rw [z] at e;refine h U O H σ ρ _ c s z fun H1 U1 ex1=>?_;cases c with
  | false=>exact k U1 O H1 σ ρ Q b (s.ext ex1) e fun H2 U2 ex2=>q H2 U2 (ex1.trans ex2)
  | true=>cases e;exact q H1 U1 ex1
theorem zr6 {t:TT}{f:VB}(h:VT t f):VT (tNot t) (bNot f):=by
 intro U O H σ ρ Q b s e q;obtain ⟨c,hc,rfl⟩:=Zb.mp e;exact h U O H σ ρ _ c s hc q
theorem zsu {ma mb:Md}{ta tb:TE}{f g:VX}(h:VE ma ta f) (k:VE mb tb g):VE .shr (zsM ta tb) (xB (bAnd (bOf f) (bOf g))):=by
 intro U O H σ ρ Q z s e q;obtain ⟨b,hb,rfl⟩:=Zb.mp e;unfold bAnd at hb;cases z:bOf f ρ with
 | none=>rw [z] at hb;cases hb
 | some c =>
  rw [z] at hb;obtain ⟨p,hp,e⟩:=Za.mp z;have:=zgR e;subst this;refine h.bor U O H σ ρ _ _ s hp fun v H1 U1 ex1 r1=>⟨c,zmS (U:=U1) (H:=H1) r1,?_⟩
  cases c with
  | true =>
   obtain ⟨p2,hp2,e2⟩:=Za.mp hb;have:=zgR e2;subst this;exact k.bor U1 O H1 σ ρ Q _ (s.ext ex1) hp2 fun v2 H2 U2 ex2 r2=>q v2 H2 U2 (ex1.trans ex2) r2
  | false=>cases hb;exact q _ H1 U1 ex1 (repB U1 H1 _)
def xIf (c:VB) (f g:VX):VX:=fun ρ=>match c ρ with
 | some true=>f ρ
 | some false=>g ρ
 | none=>none
structure Walk (U0:AS) (H0:Hp) (J:It) (xs:List PV):Prop where
 go:∀(i:Nat) (U:AS) (H:Hp),Keeps U0 H0 U H->(∀a,U a->H a≠none) -> ∀x,xs[i]?=some x->J.go i H /\ ∀v H',J.yld i H v H' -> ∃U',Ext U H U' H' /\ Rep U' H' x v
 stop:∀(U:AS) (H:Hp),Keeps U0 H0 U H->J.stop xs.length H
def VI (wi:TI) (it:VL):Prop:=∀(U O:AS) (H:Hp) (σ:St) (ρ:PEnv) (R:It->Hp->Prop) (xs:List PV),SR U O H σ ρ->it ρ=some xs->(∀J H' U',Ext U H U' H' -> Walk U' H' J xs->R J H')->wi σ H R
abbrev VTg:=PV->PEnv->Option PEnv
def VG (g:TG) (tg:VTg):Prop:=∀(U O:AS) (H:Hp) (σ:St) (ρ ρ':PEnv) (p:PV) (v:V) (K:St->Hp->Prop),SR U O H σ ρ->Rep U H p v->tg p ρ=some ρ' -> (∀σ',SR U O H σ' ρ' -> K σ' H)->g v σ H K
def gN (i:Nat):VTg:=fun p ρ=>some (ρ.set i (some (p,.shr)))
theorem zpN {i:Nat}:VG (zh5 i) (gN i):=by
 intro U O H σ ρ ρ' p v K s r e k;cases e;exact k _ (s.setS r)
def gAll:List Nat->List PV->PEnv->Option PEnv
 | [],[],ρ=>some ρ
 | i::is,p::ps,ρ=>gAll is ps (ρ.set i (some (p,.shr)))
 | _,_,_=>none
def gT (is:List Nat):VTg:=fun p ρ=>match p with
 | .tup ps=>gAll is ps ρ
 | _=>none
def zjC:List Nat->TGs
 | []=>gNil
 | i::is=>zup (zh5 i) (zjC is)
theorem zoB {U O:AS}{H:Hp}{K:St->Hp->Prop}:∀{is:List Nat}{ps:List PV}{vs:List V}{σ:St}{ρ ρ':PEnv},SR U O H σ ρ->Reps U H ps vs->gAll is ps ρ=some ρ' -> (∀σ',SR U O H σ' ρ' -> K σ' H)->vs.length=is.length/\zjC is vs σ H K
 | [],[],vs,σ,ρ,ρ',s,r,e,k=>by
  cases e;have:=zam.mp r;subst this;exact ⟨rfl,rfl,k _ s⟩
 | [],p::ps,vs,σ,ρ,ρ',s,r,e,k=>nomatch e
 | i::is,[],vs,σ,ρ,ρ',s,r,e,k=>nomatch e
 | i::is,p::ps,vs,σ,ρ,ρ',s,r,e,k=>by
  obtain ⟨x,q,rfl,h1,h2⟩:=zah.mp r;obtain ⟨h3,h4⟩:=zoB (K:=K) (s.setS (i:=i) h1) h2 e k;exact ⟨by simp [h3],x,q,rfl,h4⟩
theorem zsj {Kf:PySem.W.Frag}{is:List Nat}{n:Nat}{t:TGs}(ht:t=zjC is) (hn:n=is.length):VG (gTup Kf n t) (gT is):=by
 intro U O H σ ρ ρ' p v K s r e k;subst ht hn;unfold gT at e;split at e
 ·obtain ⟨a,xs,rfl,ha,q⟩:=zaS.mp r
  obtain ⟨h1,h2⟩:=zoB s q e k;exact ⟨a,xs,rfl,SqT.of ha,h1,h2⟩
 ·cases e
def za2 (tg:VTg) (body:VF):List PV->PEnv->Option Out
 | [],ρ=>some (.nx ρ)
 | x::xs,ρ=>match tg x ρ with
  | none=>none
  | some ρ1=>match body ρ1 with
   | some (.nx ρ')=>za2 tg body xs ρ'
   | some (.ct ρ')=>za2 tg body xs ρ'
   | some (.bk ρ')=>some (.nx ρ')
   | some (.rt p b)=>some (.rt p b)
   | none=>none
def vFor (it:VL) (tg:VTg) (body:VF):VF:=fun ρ=>(it ρ).bind fun xs=>za2 tg body xs ρ
theorem zcU {α:Type}{xs:List α}{i:Nat}{x:α}(h:xs[i]?=some x):xs.drop i=x::xs.drop (i+1):=by
 have hl:=(Zg.mp h).1;rw [List.drop_eq_getElem_cons hl];rw [Zc hl] at h;rw [Option.some.inj h]
theorem zsb {wi:TI}{g:TG}{tb:TS}{it:VL}{tg:VTg}{body:VF}(hi:VI wi it) (hg:VG g tg) (hb:VS tb body):VS (tFor wi g tb) (vFor it tg body):=by
 intro U O H σ ρ D o s e q;obtain ⟨xs,hxs,e⟩:=Za.mp e;refine hi U O H σ ρ _ xs s hxs fun J H1 U1 ex wk=>?_;have s1:=s.ext ex;have q1:Post U1 O H1 D o:=q.pre ex.tr;refine ⟨fun i m σ' H'=>∃U' O' ρ',SR U' O' H' σ' ρ' /\ Tr U1 O H1 U' O' H' /\ i<=xs.length/\m=xs.length - i/\za2 tg body (xs.drop i) ρ'=some o,⟨_,U1,O,ρ,s1,.refl s1.dU,Nat.zero_le _,rfl,by simpa using e⟩,?_⟩;rintro i m σ' H' ⟨U',O',ρ',s',tr,hi',rfl,e'⟩;have kp:Keeps U1 H1 U' H':=tr.keeps s1.dis s1.dO;cases hx:xs[i]? with
 | none =>
  have hl:xs.length<=i:=List.getElem?_eq_none_iff.mp hx;have hii:i=xs.length:=by omega
  subst hii;rw [List.drop_length] at e';unfold za2 at e';cases e';exact .inl ⟨wk.stop U' H' kp,q1 U' O' H' σ' s' tr⟩
 | some x =>
  have hl:=(Zg.mp hx).1;obtain ⟨hgo,hy⟩:=wk.go i U' H' kp s'.dU x hx;rw [zcU hx] at e';refine .inr ⟨hgo,fun σ2 H2=>∃m',m' < xs.length - i /\ ∃U' O' ρ',SR U' O' H2 σ2 ρ' /\ Tr U1 O H1 U' O' H2/\i+1<=xs.length/\m'=xs.length - (i+1)/\za2 tg body (xs.drop (i+1)) ρ'=some o,fun σ2 H2 h=>h,fun v H2 yl=>?_⟩;obtain ⟨U2,ex2,rp⟩:=hy v H2 yl;unfold za2 at e';cases z:tg x ρ' with
  | none=>rw [z] at e';cases e'
  | some ρ1 =>
   rw [z] at e';refine hg U2 O' H2 σ' ρ' ρ1 x v _ (s'.ext ex2) rp z fun σ3 s3=>?_;have tr3:=tr.trans (ex2.tr (O:=O'));cases zb:body ρ1 with
   | none=>simp only [zb] at e';cases e'
   | some ob =>
    simp only [zb] at e';refine hb U2 O' H2 σ3 ρ1 _ ob s3 zb ?_;cases ob with
    | nx ρ4=>exact fun U4 O4 H4 σ4 s4 t4=>⟨_,by omega,U4,O4,ρ4,s4,tr3.trans t4,hl,rfl,e'⟩
    | ct ρ4=>exact fun U4 O4 H4 σ4 s4 t4=>⟨_,by omega,U4,O4,ρ4,s4,tr3.trans t4,hl,rfl,e'⟩
    | bk ρ4=>cases e';exact q1.pre tr3
    | rt p b=>cases e';exact q1.pre tr3
def zuR:PV×Fl->PV×Fl
 | (p,.own)=>(p,.bor)
 | q=>q
def zbV (src:List (Option Nat)) (ρ:PEnv):PEnv:=src.map fun o=>match o with
 | some j=>((ρ[j]?).join).map zuR
 | none=>none
def za1 (tg:VTg) (cond:VB) (elt:VX):List PV->PEnv->Option (List PV)
 | [],_=>some []
 | x::xs,ρ=>match tg x ρ with
  | none=>none
  | some ρ1=>match cond ρ1 with
   | none=>none
   | some false=>za1 tg cond elt xs ρ1
   | some true=>match elt ρ1 with
    | none=>none
    | some y=>(za1 tg cond elt xs ρ1).map (y::·)
def zap (src:List (Option Nat)) (it:VL) (tg:VTg) (cond:VB) (elt:VX):VX:=fun ρ=>(it ρ).bind fun xs=>if zaL xs.length then (za1 tg cond elt xs (zbV src ρ)).map PV.lst else none
def zaC:VB:=fun _=>some true
theorem zr8:VT tAll zaC:=by
 intro U O H σ ρ Q b s e k;cases e;exact k H U (.refl s.dU)
theorem SR.comp {U O:AS}{H:Hp}{σ:St}{ρ:PEnv}(s:SR U O H σ ρ) (src:List (Option Nat)):SR U (fun _=>False) H (zdW src σ) (zbV src ρ):=by
 refine ⟨by simp [zdW,zbV],s.dU,fun a h=>h.elim,fun a _ h=>h,fun i p fl h=>?_,fun i j p q a ne h1 h2 h3 h4=>?_⟩
 ·unfold zbV at h
  rw [Zj] at h;cases hs:src[i]? with
  | none=>rw [hs] at h;cases h
  | some o =>
   rw [hs] at h;cases o with
   | none=>simp at h
   | some j =>
    simp only [Option.map_some,Option.some.injEq] at h;obtain ⟨⟨p0,fl0⟩,hj,hd⟩:=Zb.mp h;have hj':ρ[j]?=some (some (p0,fl0)):=by
     cases q:ρ[j]? with
     | none=>rw [q] at hj;cases hj
     | some z=>rw [q] at hj;simp at hj;rw [hj]
    obtain ⟨v,hv,ok⟩:=s.slot j p0 fl0 hj';refine ⟨v,?_,?_⟩
    ·unfold zdW
     rw [Zj,hs];simp [hv]
    ·cases fl0 with
     | shr=>cases hd;exact ok
     | own=>cases hd;obtain ⟨a,rfl,_,tp⟩:=ok;exact ⟨tp.bor,fun _ _ h=>h,tp.notAdr⟩
     | bor=>cases hd;exact ⟨ok.1,fun _ _ h=>h,ok.2.2⟩
 ·obtain ⟨_,_,ok⟩:∃fl,∃_:fl=Fl.own,True:=⟨.own,rfl,trivial⟩
  have no:∀(i:Nat) (p:PV),(zbV src ρ)[i]?≠some (some (p,.own)):=fun i p h=>by
   unfold zbV at h;rw [Zj] at h;cases hs:src[i]? with
   | none=>rw [hs] at h;cases h
   | some o =>
    rw [hs] at h;cases o with
    | none=>simp at h
    | some j =>
     simp only [Option.map_some,Option.some.injEq] at h;obtain ⟨⟨p0,fl0⟩,hj,hd⟩:=Zb.mp h;cases fl0<;>cases hd
  exact no i p h1
theorem zpT {src:List (Option Nat)}{wi:TI}{g:TG}{tif:TT}{te:TE}{it:VL}{tg:VTg}{cond:VB}{elt:VX}(hi:VI wi it) (hg:VG g tg) (hc:VT tif cond) (he:VE .shr te elt):VE .fr (zhf src wi g tif te) (zap src it tg cond elt):=by
 intro U O H σ ρ Q z s e k;obtain ⟨xs,hxs,e⟩:=Za.mp e;by_cases hs:zaL xs.length=true
 case neg=>rw [if_neg hs] at e;cases e
 rw [if_pos hs] at e;obtain ⟨zs,e,rfl⟩:=Zb.mp e;refine hi U O H σ ρ _ xs s hxs fun J H1 U1 ex wk=>?_;have s1:=s.ext ex;have sz:∀n,n<=xs.length->n<=sizeLine:=fun n h=>Nat.le_trans h (zbg hs);refine ⟨fun i m ys τ H'=>∃U' ρ' ps,SR U' (fun _=>False) H' τ ρ' /\ Ext U1 H1 U' H' /\ i<=xs.length/\m=xs.length - i/\ys.length<=i/\Reps U' H' ps ys/\(za1 tg cond elt (xs.drop i) ρ').map (ps++·)=some zs,
  ⟨_,U1,zbV src ρ,[],s1.comp src,.refl s1.dU,Nat.zero_le _,rfl,Nat.le_refl _,zam.mpr rfl,by simpa using e⟩,?_⟩
 rintro i m ys τ H' ⟨U',ρ',ps,s',ex',hi',rfl,hy,rp,e'⟩;have kp:=ex'.keeps;cases hx:xs[i]? with
 | none =>
  have hl:xs.length<=i:=List.getElem?_eq_none_iff.mp hx;have hii:i=xs.length:=by omega
  subst hii;rw [List.drop_length] at e';unfold za1 at e';simp at e';subst e';refine .inl ⟨wk.stop U' H' kp,sz _ hy,fun D hD=>?_⟩;obtain ⟨e2,r2⟩:=zbr ex'.dU hD rp;exact k _ _ U' (ex.trans (ex'.trans e2)) (Res.pre (U1:=U1) (ex.trans ex').same r2)
 | some x =>
  have hl:=(Zg.mp hx).1;obtain ⟨hgo,hyl⟩:=wk.go i U' H' kp s'.dU x hx;rw [zcU hx] at e';refine .inr ⟨hgo,Nat.lt_of_le_of_lt hy (Nat.lt_of_lt_of_le hl (zbg hs)),fun v H2 yl=>?_⟩;obtain ⟨U2,ex2,rv⟩:=hyl v H2 yl;unfold za1 at e';cases z1:tg x ρ' with
  | none=>rw [z1] at e';cases e'
  | some ρ1 =>
   rw [z1] at e';refine hg U2 _ H2 τ ρ' ρ1 x v _ (s'.ext ex2) rv z1 fun τ3 s3=>?_;cases z2:cond ρ1 with
   | none=>simp only [z2] at e';cases e'
   | some b =>
    simp only [z2] at e';refine hc U2 _ H2 τ3 ρ1 _ b s3 z2 fun H4 U4 ex4=>?_;have ex24:=ex2.trans ex4;cases b with
    | false=>exact ⟨_,by omega,U4,ρ1,ps,s3.ext ex4,ex'.trans ex24,hl,rfl,by omega,Reps.keeps ex24.keeps _ _ rp,e'⟩
    | true =>
     cases z3:elt ρ1 with
     | none=>simp only [z3] at e';cases e'
     | some y =>
      simp only [z3] at e';refine he U4 _ H4 τ3 ρ1 _ y (s3.ext ex4) z3 fun w H5 U5 ex5 r5=>?_;refine ⟨_,by omega,U5,ρ1,ps++[y],(s3.ext ex4).ext ex5,(ex'.trans ex24).trans ex5,hl,rfl,by simp;omega,Reps.append (Reps.keeps (ex24.trans ex5).keeps _ _ rp) (Reps.one r5),?_⟩;rw [Option.map_map] at e';rw [<- e'];congr 1;funext l;simp
mutual
def cf:PV->Bool
 | .non=>true
 | .bl _=>true
 | .int _=>true
 | .str _=>true
 | .tup ps=>cfs ps
 | _=>false
def cfs:List PV->Bool
 | []=>true
 | p::ps=>cf p&&cfs ps
end
mutual
theorem Rep.cf {U U':AS}{H:Hp}:∀(p:PV) (v:V),cf p=true->Rep U H p v->Rep U' H p v
 | .non,v,_,h=>zbB.mpr (zbB.mp h)
 | .bl b,v,_,h=>zbP.mpr (zbP.mp h)
 | .int i,v,_,h=>zaT.mpr (zaT.mp h)
 | .str x,v,_,h=>za5.mpr (za5.mp h)
 | .tup ps,v,c,h=>by
  obtain ⟨a,xs,e,r,q⟩:=zaS.mp h;exact zaS.mpr ⟨a,xs,e,r,Reps.cfs ps xs (by simpa [L2.cf] using c) q⟩
 | .scr ns,v,c,_=>by simp [L2.cf] at c
 | .adr ns,v,c,_=>by simp [L2.cf] at c
 | .lst ps,v,c,_=>by simp [L2.cf] at c
 | .dct ps,v,c,_=>by simp [L2.cf] at c
 | .obj _ _ _,v,c,_=>by simp [L2.cf] at c
 | .dtt ps,v,c,_=>by simp [L2.cf] at c
theorem Reps.cfs {U U':AS}{H:Hp}:∀(ps:List PV) (xs:List V),cfs ps=true->Reps U H ps xs->Reps U' H ps xs
 | [],xs,_,h=>zam.mpr (zam.mp h)
 | p::ps,xs,c,h=>by
  obtain ⟨x,r,e,h1,h2⟩:=zah.mp h;simp only [L2.cfs,Zc1] at c;exact zah.mpr ⟨x,r,e,Rep.cf p x c.1 h1,Reps.cfs ps r c.2 h2⟩
end
def spV (fr:Bool) (f:List PV->Option PV):Sp:=fun vs H Q _=>∃U ps p,(∀a,U a->H a≠none)/\Reps U H ps vs/\f ps=some p /\ ∀v H' U',Ext U H U' H' -> Res (if fr=true then .fr else .shr) H U' H' p v->Q v H'
def zdU (n:Nat) (ps:List PV):PEnv:=ps.map (fun p=>some (p,Fl.shr))++List.replicate (n - ps.length) none
def fnM (k n:Nat) (fr:Bool) (F:VF) (ps:List PV):Option PV:=if ps.length=k then (match F (zdU n ps) with
 | some (.rt p b)=>if (fr&&!b)=true then none else some p
 | some (.nx _)=>if fr=true then none else some .non
 | _=>none) else none
theorem zh3 {n:Nat}{ps:List PV}{i:Nat}{p:PV}{fl:Fl}(h:(zdU n ps)[i]?=some (some (p,fl))):fl=.shr/\ps[i]?=some p:=by
 unfold zdU at h;by_cases hl:i < ps.length
 ·rw [Za1 (by simpa using hl),Zj] at h
  obtain ⟨q,hq,e⟩:=Zb.mp h;cases e;exact ⟨rfl,hq⟩
 ·rw [List.getElem?_append_right (by simp;omega)] at h
  rw [List.getElem?_replicate] at h;split at h
  ·cases h
  ·cases h
theorem SR.init {U:AS}{H:Hp}{N:List Str}{ps:List PV}{vs:List V}(d:∀a,U a->H a≠none) (r:Reps U H ps vs):SR U (fun _=>False) H (start N vs) (zdU N.length ps):=by
 refine ⟨?_,d,fun a h=>h.elim,fun _ _ h=>h,fun i p fl h=>?_,fun i j p q a ne h1 h2 h3 h4=>?_⟩
 ·unfold start zdU
  simp [r.length]
 ·obtain ⟨rfl,hp⟩:=zh3 h
  obtain ⟨v,hv,rv⟩:=r.get hp;refine ⟨v,?_,rv⟩;unfold start;rw [Za1 (by simpa using (Zg.mp hv).1),Zj,hv];rfl
 ·exact nomatch (zh3 h1).1
theorem fnV {t:TS}{F:VF}{fr:Bool}{N:List Str}{k:Nat}{vs:List V}{H:Hp}{Q:VK}{E:XK}(h:VS t F) (hsp:spV fr (fnM k N.length fr F) vs H Q E):t { nx:=fun _ H'=>Q .non H',rt:=Q } (start N vs) H:=by
 obtain ⟨U,ps,p,d,r,e,k⟩:=hsp;unfold fnM at e;split at e
 case isFalse=>cases e
 have s:=SR.init (N:=N) d r;have toE:∀{U' O':AS}{H':Hp},Tr U (fun _=>False) H U' O' H' -> Ext U H U' H':=fun {U' O' H'} t=>⟨fun a o h=>t.fr a o h fun z=>z,t.mono,fun a h=>(t.new a h).elim .inl fun z=>z.elim (fun z=>z.elim) .inr,t.dU⟩
 cases z:F (zdU N.length ps) with
 | none=>rw [z] at e;cases e
 | some o =>
  rw [z] at e;refine h U _ H _ _ _ o s z ?_;cases o with
  | bk ρ=>cases e
  | ct ρ=>cases e
  | nx ρ =>
   cases fr with
   | true=>cases e
   | false =>
    cases e;exact fun U' O' H' σ' s' t'=>k .non H' U' (toE t') (repN U' H')
  | rt q b =>
   cases fr with
   | true =>
    cases b with
    | false=>cases e
    | true =>
     cases e;refine fun U' O' H' v t' ro=>k v H' U' (toE t') ?_;obtain ⟨a,ea,nu,ha,tp⟩:=ro;exact ⟨a,ea,ha.elim (fun z=>z) fun z=>z.elim,nu,tp⟩
   | false =>
    cases b with
    | false=>cases e;exact fun U' O' H' v t' ro=>k v H' U' (toE t') ro
    | true =>
     cases e;refine fun U' O' H' v t' ro=>?_;obtain ⟨a,rfl,nu,ha,tp⟩:=ro;have ha':H a=none:=ha.elim (fun z=>z) fun z=>z.elim;have hne:H' a≠none:=Bor.dom tp.bor tp.notAdr;exact k (.ref a) H' _ ((toE t').share ha' hne) ((tp.keeps Keeps.share fun o h=>h).rep (.inr rfl))
theorem ziw {fr:Bool}{k n:Nat}{F:VF}{ps:List Str}(hk:ps.length=k):∀vs H Q E,spV fr (fnM k n fr F) vs H Q E->vs.length=ps.length:=by
 rintro vs H Q E ⟨U,qs,p,d,r,e,_⟩;unfold fnM at e;split at e
 ·rename_i h;rw [r.length,h,hk]
 ·cases e
theorem znc {f:List PV->Option PV}{t:TA}{fa:VL}{E:XK}(h:VA false t fa):VE .shr (zp2 (spV false f) [] E t) (xL f fa):=by
 intro U O H σ ρ Q z s e k;obtain ⟨ps,hp,e⟩:=Za.mp e;refine h U O H σ ρ _ ps s hp fun vs H1 U1 ex1 r1=>?_;rw [List.append_nil];exact ⟨U1,ps,z,ex1.dU,r1,e,fun v H2 U2 ex2 r2=>k v H2 U2 (ex1.trans ex2) r2⟩
theorem znd {f:List PV->Option PV}{t:TA}{fa:VL}{E:XK}(h:VA false t fa):VE .fr (zp2 (spV true f) [] E t) (xL f fa):=by
 intro U O H σ ρ Q z s e k;obtain ⟨ps,hp,e⟩:=Za.mp e;refine h U O H σ ρ _ ps s hp fun vs H1 U1 ex1 r1=>?_;rw [List.append_nil];exact ⟨U1,ps,z,ex1.dU,r1,e,fun v H2 U2 ex2 r2=>k v H2 U2 (ex1.trans ex2) (Res.pre (m:=.fr) (U1:=U1) ex1.same r2)⟩
theorem Bor.dm {U:AS}{H:Hp}(d:∀a,U a->H a≠none) {p:PV}{v:V}(h:Bor U H p v):Rep (fun a=>H a≠none) H p v:=by
 have k:Keeps U H (fun a=>H a≠none) H:=⟨d,fun _ _ _ h=>h,fun _ _ _ h=>h,fun _ _ _ h=>h,fun _ _ h=>h⟩
 cases p with
 | lst ps=>obtain ⟨a,xs,e,r,q⟩:=h;exact zcd.mpr ⟨a,xs,e,(show H a≠none by rw [r];intro z;cases z),r,Reps.keeps k _ _ q⟩
 | dct ks=>obtain ⟨a,xs,e,r,q⟩:=h;exact zgz.mpr ⟨a,xs,e,r.dom,r,RepK.keeps k _ _ q⟩
 | dtt ks=>obtain ⟨a,xs,e,r,q⟩:=h;exact zgy.mpr ⟨a,xs,e,(show H a≠none by rw [r];intro z;cases z),r,RepT.keeps k _ _ q⟩
 | scr ns=>obtain ⟨a,e,r⟩:=h;exact zix.mpr ⟨a,e,r.dom,r⟩
 | _=>exact Rep.keeps k _ _ h
theorem Ext.onlyU {U U2:AS}{H H':Hp}(d:∀a,U a->H a≠none) (s:Same H H'):Ext U H U H':=⟨s,fun _ h=>h,fun _ h=>.inl h,fun a h z=>by
 cases q:H a with
 | none=>exact d a h q
 | some o=>rw [s a o q] at z;cases z⟩
def wr (i:Nat) (g:PV->Option PV):VF:=fun ρ=>match ρ[i]? with
 | some (some (p,.own))=>(g p).map fun p'=>.nx (ρ.set i (some (p',.own)))
 | _=>none
def zao (i:Nat) (f:VX):VF:=fun ρ=>(f ρ).bind fun q=>wr i (fun p=>match p with
 | .lst ps=>if zaL ps.length then some (.lst (ps++[q])) else none
 | _=>none) ρ
def zcb (i:Nat) (f:VX):VF:=fun ρ=>(f ρ).bind fun q=>wr i (fun p=>match p,q with
 | .lst ps,.lst qs=>if zaL (ps.length+qs.length) then some (.lst (ps++qs)) else none
 | _,_=>none) ρ
theorem zes {i:Nat}{g:PV->Option PV}{ρ:PEnv}{o:Out}(h:wr i g ρ=some o):∃p p',ρ[i]?=some (some (p,.own))/\g p=some p' /\ o=.nx (ρ.set i (some (p',.own))):=by
 unfold wr at h;split at h
 ·rename_i p hp
  obtain ⟨p',hg,rfl⟩:=Zb.mp h;exact ⟨p,p',hp,hg,rfl⟩
 ·cases h
theorem zkH {Kf:PySem.W.Frag}{i:Nat}{te:TE}{f:VX}(h:VE .shr te f):VS (zhd (tBM Kf "list" ziA (tVar i) (zhe te tNil))) (zao i f):=by
 intro U O H σ ρ D o s e q;obtain ⟨y,hy,e⟩:=Za.mp e;obtain ⟨p,p',hp,hg,rfl⟩:=zes e;obtain ⟨v,hv,a,rfl,oa,tp⟩:=s.slot i p .own hp;cases p with
 | lst ps =>
  obtain ⟨xs,hx,rx⟩:=tp;obtain ⟨hs,rfl⟩:=zaD hg;refine ⟨.ref a,hv,.inl ⟨rfl,xs,SqL.of hx⟩,h U O H σ ρ _ y s hy fun w H1 U1 ex r1=>?_⟩;have s1:=s.ext ex;have hx1:=ex.same _ _ hx;have rx1:=Reps.keeps ex.keeps _ _ rx;have k0:Keeps U1 H1 U1 (upd H1 a (.lst (xs++[w]))):=by
   refine ⟨fun _ h=>h,fun b ys u hb=>?_,fun b ys u hb=>?_,fun b ys u hb=>?_,fun b ys hb=>?_⟩
   ·rw [zac (show b≠a from fun z=>s1.dis b u (by rw [z];exact oa))];exact hb
   ·rcases hb with hb|⟨oo,hb⟩
    ·exact .inl (by rw [zac (show b≠a from fun z=>s1.dis b u (by rw [z];exact oa))];exact hb)
    ·exact .inr ⟨oo,by rw [zac (show b≠a from fun z=>s1.dis b u (by rw [z];exact oa))];exact hb⟩
   ·rcases hb with hb|⟨oo,hb⟩
    ·exact .inl (by rw [zac (show b≠a from fun z=>s1.dis b u (by rw [z];exact oa))];exact hb)
    ·exact .inr ⟨oo,by rw [zac (show b≠a from fun z=>s1.dis b u (by rw [z];exact oa))];exact hb⟩
   ·rw [zac (zkn hb hx1 (fun z=>nomatch z))];exact hb
  obtain ⟨s2,t2,_⟩:=s1.write (p':=.lst (ps++[y])) (u:=.lst (xs++[w])) hp hv (fun _ z=>nomatch z) ⟨_,zaf,Reps.append (Reps.keeps k0 _ _ rx1) (Reps.one (Rep.keeps k0 _ _ r1))⟩;exact ⟨a,xs,w,rfl,rfl,hx1,by rw [rx.length];exact zeo hs,q U1 O _ σ s2 (ex.tr.trans t2)⟩
 | _=>cases hg
theorem zdD {U O:AS}{H:Hp}{σ:St}{ρ:PEnv}{a:Addr}{u u':HO}(s:SR U O H σ ρ) (oa:O a) (ha:H a=some u) (hu:∀xs,u≠.tup xs):Keeps U H U (upd H a u'):=by
 have ne:∀b,U b->b≠a:=fun b hb z=>s.dis b hb (by rw [z];exact oa);refine ⟨fun _ h=>h,fun b ys u hb=>?_,fun b ys u hb=>?_,fun b ys u hb=>?_,fun b ys hb=>?_⟩
 ·rw [zac (ne b u)];exact hb
 ·rcases hb with hb|⟨oo,hb⟩
  ·exact .inl (by rw [zac (ne b u)];exact hb)
  ·exact .inr ⟨oo,by rw [zac (ne b u)];exact hb⟩
 ·rcases hb with hb|⟨oo,hb⟩
  ·exact .inl (by rw [zac (ne b u)];exact hb)
  ·exact .inr ⟨oo,by rw [zac (ne b u)];exact hb⟩
 ·rw [zac (zkn hb ha (fun z=>hu _ z.symm))];exact hb
theorem zkG {Kf:PySem.W.Frag}{m:Md}{i:Nat}{te:TE}{f:VX}(h:VE m te f):VS (zhd (tBM Kf "list" zlh (tVar i) (zhe te tNil))) (zcb i f):=by
 intro U O H σ ρ D o s e q;obtain ⟨y,hy,e⟩:=Za.mp e;obtain ⟨p,p',hp,hg,rfl⟩:=zes e;obtain ⟨v,hv,a,rfl,oa,tp⟩:=s.slot i p .own hp;cases p with
 | lst ps =>
  cases y with
  | lst qs =>
   obtain ⟨xs,hx,rx⟩:=tp;obtain ⟨hs,rfl⟩:=zaD hg;refine ⟨.ref a,hv,.inl ⟨rfl,xs,SqL.of hx⟩,h.bor U O H σ ρ _ _ s hy fun w H1 U1 ex r1=>?_⟩;obtain ⟨b,zs,rfl,hb,rz⟩:=r1;have s1:=s.ext ex;have hx1:=ex.same _ _ hx;have rx1:=Reps.keeps ex.keeps _ _ rx;have k0:=zdD (u':=.lst (xs++zs)) s1 oa hx1 (fun _ z=>nomatch z);obtain ⟨s2,t2,_⟩:=s1.write (p':=.lst (ps++qs)) (u:=.lst (xs++zs)) hp hv (fun _ z=>nomatch z) ⟨_,zaf,Reps.append (Reps.keeps k0 _ _ rx1) (Reps.keeps k0 _ _ rz)⟩;exact ⟨a,b,xs,zs,rfl,rfl,hx1,hb,by rw [rx.length,rz.length];exact zbg hs,q U1 O _ σ s2 (ex.tr.trans t2)⟩
  | _=>cases hg
 | _=>cases hg
end L2
namespace L2
open PySem PySem.Spec PyProof.Rows
def pII (g:Int->Int->Int):PV->PV->Option PV
 | .int i,.int j=>some (.int (g i j))
 | _,_=>none
def pIIc (c:Int->Int->Bool) (g:Int->Int->Int):PV->PV->Option PV
 | .int i,.int j=>if c i j then some (.int (g i j)) else none
 | _,_=>none
def pIB (g:Int->Int->Bool):PV->PV->Option PV
 | .int i,.int j=>some (.bl (g i j))
 | _,_=>none
theorem zte {g:Int->Int->Int}:R2V .shr (rI0 fun i j=>.int (g i j)) (pII g):=by
 intro U H p q z v w Q d hp hq e k;cases p<;>cases q<;>simp only [pII] at e<;>first|cases e|skip
 ·rename_i i j
  exact ⟨i,j,zaG (U:=U) (H:=H) hp,zaG (U:=U) (H:=H) hq,k _ H U (.refl d) (repI U H _)⟩
theorem znx {g:Int->Int->Bool}:R2V .shr (rI0 fun i j=>.bl (g i j)) (pIB g):=by
 intro U H p q z v w Q d hp hq e k;cases p<;>cases q<;>simp only [pIB] at e<;>first|cases e|skip
 ·rename_i i j
  exact ⟨i,j,zaG (U:=U) (H:=H) hp,zaG (U:=U) (H:=H) hq,k _ H U (.refl d) (repB U H _)⟩
theorem zli {C:Int->Int->Prop}{c:Int->Int->Bool}{g:Int->Int->Int}(hc:∀i j,c i j=true->C i j):R2V .shr (rI C fun i j=>.int (g i j)) (pIIc c g):=by
 intro U H p q z v w Q d hp hq e k;cases p<;>cases q<;>simp only [pIIc] at e<;>first|cases e|skip
 ·rename_i i j
  obtain ⟨h,rfl⟩:=zaD e;exact ⟨i,j,zaG (U:=U) (H:=H) hp,zaG (U:=U) (H:=H) hq,hc i j h,k _ H U (.refl d) (repI U H _)⟩
def pAdd:=pII (· + ·)
def pSub:=pII (· - ·)
def cMul (i j:Int):Bool:=(decide (-(2 ^ 64) < i)&&decide (i < 2 ^ 64)) || (decide (-(2 ^ 64) < j)&&decide (j < 2 ^ 64))
def pMul:=pIIc cMul (· * ·)
def cDiv (_ j:Int):Bool:=decide (0 < j)&&decide (j < 1073741824)
def pDiv:=pIIc cDiv (· / ·)
def cPos (_ j:Int):Bool:=decide (0 < j)
def pMod:=pIIc cPos (· % ·)
theorem zti:R2V .shr (rI0 fun i j=>.int (i+j)) pAdd:=zte
theorem zs6:R2V .shr (rI0 fun i j=>.int (i - j)) pSub:=zte
theorem zs8:R2V .shr (rI CMul fun i j=>.int (i * j)) pMul:=zli fun i j h=>by
 unfold cMul at h;unfold CMul;simpa using h
theorem ztg:R2V .shr (rI CDiv fun i j=>.int (i / j)) pDiv:=zli fun i j h=>by
 unfold cDiv at h;unfold CDiv;simpa using h
theorem zs9:R2V .shr (rI (fun _ j=>0 < j) fun i j=>.int (i % j)) pMod:=zli fun i j h=>by
 unfold cPos at h;simpa using h
def pLt:=pIB fun i j=>decide (i < j)
def pLe:=pIB fun i j=>decide (i<=j)
def pGt:=pIB fun i j=>decide (j < i)
def pGe:=pIB fun i j=>decide (j<=i)
theorem zvI:R2V .shr (rI0 fun i j=>.bl (decide (i < j))) pLt:=znx
theorem zvJ:R2V .shr (rI0 fun i j=>.bl (decide (i<=j))) pLe:=znx
theorem zvK:R2V .shr (rI0 fun i j=>.bl (decide (j < i))) pGt:=znx
theorem zvL:R2V .shr (rI0 fun i j=>.bl (decide (j<=i))) pGe:=znx
def pNeg:PV->Option PV
 | .int i=>some (.int (-i))
 | _=>none
theorem ztj:R1V .shr (rU fun i=>.int (-i)) pNeg:=by
 intro U H p z v Q d hp e k;cases p<;>simp only [pNeg] at e<;>first|cases e|skip
 ·rename_i i
  exact ⟨i,zaG (U:=U) (H:=H) hp,k _ H U (.refl d) (repI U H _)⟩
def eqSc:PV->PV->Option Bool
 | .int i,.int j=>some (decide (i=j))
 | .str i,.str j=>some (decide (i=j))
 | .bl i,.bl j=>some (decide (i=j))
 | .non,.non=>some true
 | .non,.int _=>some false
 | .int _,.non=>some false
 | .non,.str _=>some false
 | .str _,.non=>some false
 | .non,.bl _=>some false
 | .bl _,.non=>some false
 | _,_=>none
def pEq (p q:PV):Option PV:=(eqSc p q).map PV.bl
def pNe (p q:PV):Option PV:=(eqSc p q).map fun b=>PV.bl (!b)
theorem zoK {U:AS}{H:Hp}{p q:PV}{b:Bool}{v w:V}(hp:Bor U H p v) (hq:Bor U H q w) (e:eqSc p q=some b):scal v w=true/\b=decide (v=w):=by
 cases p<;>cases q<;>simp only [eqSc] at e<;>first|cases e|skip
 all_goals (simp only [Bor,zbB,zbP,zaT,za5] at hp hq;subst hp hq;simp [scal])
theorem zvM:R2V .shr rEq pEq:=by
 intro U H p q z v w Q d hp hq e k;obtain ⟨b,hb,rfl⟩:=Zb.mp e;obtain ⟨h1,h2⟩:=zoK hp hq hb;refine ⟨h1,k _ H U (.refl d) ?_⟩;rw [h2];exact repB U H _
theorem zvH:R2V .shr rNe pNe:=by
 intro U H p q z v w Q d hp hq e k;obtain ⟨b,hb,rfl⟩:=Zb.mp e;obtain ⟨h1,h2⟩:=zoK hp hq hb;refine ⟨h1,k _ H U (.refl d) ?_⟩;rw [h2];exact repB U H _
def pLeS:PV->PV->Option PV
 | .str i,.str j=>some (.bl (!decide (j.cps.toList < i.cps.toList)))
 | _,_=>none
theorem zta:R2V .shr rLeS pLeS:=by
 intro U H p q z v w Q d hp hq e k;cases p<;>cases q<;>simp only [pLeS] at e<;>first|cases e|skip
 ·rename_i i j
  exact ⟨i,j,zg5 (U:=U) (H:=H) hp,zg5 (U:=U) (H:=H) hq,k _ H U (.refl d) (repB U H _)⟩
def peq (p q:PV):Bool:=@decide (p=q) (Classical.propDecidable _)
theorem zbj {p q:PV}:peq p q=true↔p=q:=by unfold peq;simp
mutual
def simk:Nat->PV->PV->Bool
 | _,.int _,.int _=>true
 | _,.str _,.str _=>true
 | _,.bl _,.bl _=>true
 | _,.non,.non=>true
 | n+1,.lst ps,.lst qs=>zb6 n ps qs
 | n+1,.tup ps,.tup qs=>zb6 n ps qs
 | _,_,_=>false
def zb6:Nat->List PV->List PV->Bool
 | _,[],_=>true
 | _,_::_,[]=>true
 | n,p::ps,q::qs=>simk n p q&&zb6 n ps qs
end
theorem zcu:∀{n:Nat}{ps qs:List PV}{j:Nat}{p q:PV},zb6 n ps qs=true->ps[j]?=some p->qs[j]?=some q->simk n p q=true
 | n,[],_,j,p,q,_,e,_=>by simp at e
 | n,_::_,[],j,p,q,_,_,e=>by simp at e
 | n,a::ps,b::qs,0,p,q,h,e1,e2=>by
  simp only [zb6,Zc1] at h;simp at e1 e2;subst e1 e2;exact h.1
 | n,a::ps,b::qs,j+1,p,q,h,e1,e2=>by
  simp only [zb6,Zc1] at h;exact zcu (j:=j) h.2 (by simpa using e1) (by simpa using e2)
theorem Reps.getV:∀{U:AS}{H:Hp}{ps:List PV}{xs:List V}{i:Nat}{v:V},Reps U H ps xs->xs[i]?=some v -> ∃p,ps[i]?=some p/\Rep U H p v
 | U,H,[],xs,i,v,h,e=>by rw [zam.mp h] at e;simp at e
 | U,H,q::ps,xs,0,v,h,e=>by
  obtain ⟨x,r,rfl,h1,_⟩:=zah.mp h;simp at e;subst e;exact ⟨q,rfl,h1⟩
 | U,H,q::ps,xs,i+1,v,h,e=>by
  obtain ⟨x,r,rfl,_,h2⟩:=zah.mp h;obtain ⟨p,hp,hr⟩:=Reps.getV (i:=i) h2 (by simpa using e);exact ⟨p,by simpa using hp,hr⟩
theorem zrI {ps qs:List PV}(hl:ps.length=qs.length):((List.range ps.length).all fun j=>peq (ps.getD j .non) (qs.getD j .non))=peq (.lst ps) (.lst qs):=by
 rw [Bool.eq_iff_iff,zbj];simp only [Zp1,Zt,zbj];constructor
 ·intro h
  congr 1;refine List.ext_getElem hl fun j h1 h2=>?_;have:=h j h1;simpa [Zy,h1,h2] using this
 ·intro h j hj
  injection h with h
  rw [h]
theorem zqO {ps qs:List PV}:peq (.tup ps) (.tup qs)=peq (.lst ps) (.lst qs):=by
 rw [Bool.eq_iff_iff,zbj,zbj];constructor
 ·intro h;injection h with h;rw [h]
 ·intro h;injection h with h;rw [h]
theorem zgD {ps qs:List PV}:(decide (ps.length=qs.length)&&(List.range ps.length).all fun j=>peq (ps.getD j .non) (qs.getD j .non))=peq (.lst ps) (.lst qs):=by
 by_cases h:ps.length=qs.length
 ·rw [Zn h,Bool.true_and,zrI h]
 ·rw [Zo h,Bool.false_and]
  have:¬peq (.lst ps) (.lst qs)=true:=by
   rw [zbj];intro e;injection e with e;exact h (by rw [e])
  simpa using this
theorem zcH {ps:List PV}{j:Nat}{p:PV}(h:ps[j]?=some p):ps.getD j .non=p:=by simp [Zy,h]
theorem zfV {i j:Int}:peq (.int i) (.int j)=decide (i=j):=by rw [Bool.eq_iff_iff,zbj];simp
theorem zfU {i j:Str}:peq (.str i) (.str j)=decide (i=j):=by rw [Bool.eq_iff_iff,zbj];simp
theorem zhE {i j:Bool}:peq (.bl i) (.bl j)=decide (i=j):=by rw [Bool.eq_iff_iff,zbj];simp
theorem zpd {X:Cx}{n:Nat}{H:Hp}(a b:Bool):EqR X n H (.bl a) (.bl b) (decide (a=b)):=by
 refine ⟨fun pins σ s u v I ru rv A _=>?_,fun e=>by cases e;simp⟩;cases ru;cases rv;have e:decide (a=b)=(a==b):=by cases a<;>cases b<;>rfl
 rw [e];exact SeqAt.EqAt.bool_bool a b
theorem zms {X:Cx}{U:AS}{H:Hp}:∀(n:Nat) (p q:PV) (v w:V),simk n p q=true->Rep U H p v->Rep U H q w->EqR X n H v w (peq p q):=by
 intro n
 induction n with
 | zero =>
  intro p q v w hs hp hq;cases p<;>cases q<;>simp only [simk] at hs<;>first|cases hs|skip
  ·rw [zbB.mp hp,zbB.mp hq]
   have e:peq .non .non=true:=zbj.mpr rfl;rw [e];exact ⟨fun pins σ s u v I ru rv A _=>by cases ru;cases rv;exact SeqAt.EqAt.same _,fun _=>rfl⟩
  ·rw [zbP.mp hp,zbP.mp hq,zhE];exact zpd _ _
  ·rw [zaT.mp hp,zaT.mp hq,zfV];exact zmt _ _
  ·rw [za5.mp hp,za5.mp hq,zfU];exact zmr _ _
 | succ n ih =>
  intro p q v w hs hp hq;cases p<;>cases q<;>simp only [simk] at hs<;>first|cases hs|skip
  ·rw [zbB.mp hp,zbB.mp hq]
   have e:peq .non .non=true:=zbj.mpr rfl;rw [e];exact ⟨fun pins σ s u v I ru rv A _=>by cases ru;cases rv;exact SeqAt.EqAt.same _,fun _=>rfl⟩
  ·rw [zbP.mp hp,zbP.mp hq,zhE];exact zpd _ _
  ·rw [zaT.mp hp,zaT.mp hq,zfV];exact zmt _ _
  ·rw [za5.mp hp,za5.mp hq,zfU];exact zmr _ _
  ·rename_i ps qs
   obtain ⟨a,xs,rfl,_,ha,rx⟩:=zcd.mp hp;obtain ⟨b,ys,rfl,_,hb,ry⟩:=zcd.mp hq;have q:=zoe (X:=X) (n:=n) (e:=fun j=>peq (ps.getD j .non) (qs.getD j .non)) (SqL.of ha) (SqL.of hb) (fun hl j x y hx hy=>?_) (fun z=>?_)
   ·rw [rx.length,ry.length,zgD] at q;exact q
   ·obtain ⟨p',e1,r1⟩:=rx.getV hx
    obtain ⟨q',e2,r2⟩:=ry.getV hy;rw [zcH e1,zcH e2];exact ih p' q' x y (zcu hs e1 e2) r1 r2
   ·subst z;rw [ha] at hb;cases hb;rfl
  ·rename_i ps qs
   obtain ⟨a,xs,rfl,ha,rx⟩:=zaS.mp hp;obtain ⟨b,ys,rfl,hb,ry⟩:=zaS.mp hq;have q:=zrq (X:=X) (n:=n) (e:=fun j=>peq (ps.getD j .non) (qs.getD j .non)) (SqT.of ha) (SqT.of hb) (fun j x y hx hy=>?_) (fun z=>?_)
   ·rw [rx.length,ry.length] at q
    rw [zqO,<- zgD];have e2:((List.range (min ps.length qs.length)).all (fun j=>peq (ps.getD j .non) (qs.getD j .non))&&decide (ps.length=qs.length))=(decide (ps.length=qs.length)&&(List.range ps.length).all fun j=>peq (ps.getD j .non) (qs.getD j .non)):=by
     by_cases h:ps.length=qs.length
     ·rw [<- h,Nat.min_self,Bool.and_comm]
     ·rw [Zo h,Bool.and_false,Bool.false_and]
    rw [e2] at q;exact q
   ·obtain ⟨p',e1,r1⟩:=rx.getV hx
    obtain ⟨q',e2,r2⟩:=ry.getV hy;rw [zcH e1,zcH e2];exact ih p' q' x y (zcu hs e1 e2) r1 r2
   ·subst z;rw [ha] at hb;cases hb;rfl
def pEqL (n:Nat) (neg:Bool):PV->PV->Option PV
 | .lst ps,.lst qs=>if zb6 n ps qs then some (.bl (if neg=true then !peq (.lst ps) (.lst qs) else peq (.lst ps) (.lst qs))) else none
 | _,_=>none
theorem zoP {X:Cx}{n:Nat}{neg:Bool}:R2V .shr (rEqL X n neg) (pEqL n neg):=by
 intro U H p q z v w Q d hp hq e k;cases p<;>cases q<;>simp only [pEqL] at e<;>first|cases e|skip
 ·rename_i ps qs
  obtain ⟨h,rfl⟩:=zaD e;obtain ⟨a,xs,rfl,ha,rx⟩:=hp;obtain ⟨b,ys,rfl,hb,ry⟩:=hq;refine ⟨a,b,xs,ys,fun j=>peq (ps.getD j .non) (qs.getD j .non),rfl,rfl,SqL.of ha,SqL.of hb,fun hl j x y hx hy=>?_,?_⟩
  ·obtain ⟨p',e1,r1⟩:=rx.getV hx
   obtain ⟨q',e2,r2⟩:=ry.getV hy;show EqR X n H x y (peq (ps.getD j .non) (qs.getD j .non));rw [zcH e1,zcH e2];exact zms n p' q' x y (zcu h e1 e2) r1 r2
  ·rw [rx.length,ry.length,zgD]
   exact k _ H U (.refl d) (repB U H _)
def rEqT (X:Cx) (n:Nat):R2:=fun x y H Q=>∃a b xs ys e,x=.ref a/\y=.ref b/\SqT X.K H a xs/\SqT X.K H b ys/\(∀j x y,xs[j]?=some x->ys[j]?=some y->EqR X n H x y (e j)) /\
 Q (.bl ((List.range (min xs.length ys.length)).all e&&decide (xs.length=ys.length))) H
theorem zlK {X:Cx}(n:Nat) (hu:X.A.units + (n+1) < cLine):OpR X (compareOp .Eq) (rEqT X n):=by
 intro pins s σ H x y v u Q I rx ry h;obtain ⟨a,b,xs,ys,e,rfl,rfl,ha,hb,he,q⟩:=h;cases rx;cases ry;obtain ⟨its,rx,px,_⟩:=I.tuple ha;obtain ⟨jts,ry,py,_⟩:=I.tuple hb;have lx:=rx.length;have ly:=ry.length;have z:=SeqAt.RcAt.tuples (A:=X.A) (s:=s) (e:=e) (show s.heap.IsTuple a its.toArray from px) (show s.heap.IsTuple b jts.toArray from py) (by omega) (fun j h1 h2=>zgW I rx ry he (by show X.A.units+1+n < cLine;omega) j h1 h2);refine z X.prog X.w _ _ (zaA I q ?_);rw [Zm,Zm,<- lx,<- ly];congr 1
def pEqT (n:Nat):PV->PV->Option PV
 | .tup ps,.tup qs=>if zb6 n ps qs then some (.bl (peq (.lst ps) (.lst qs))) else none
 | _,_=>none
theorem zpZ {ps qs:List PV}:((List.range (min ps.length qs.length)).all (fun j=>peq (ps.getD j .non) (qs.getD j .non))&&decide (ps.length=qs.length))=peq (.lst ps) (.lst qs):=by
 rw [<- zgD];by_cases h:ps.length=qs.length
 ·rw [<- h,Nat.min_self,Bool.and_comm]
 ·rw [Zo h,Bool.and_false,Bool.false_and]
theorem ztf {X:Cx}{n:Nat}:R2V .shr (rEqT X n) (pEqT n):=by
 intro U H p q z v w Q d hp hq e k;cases p<;>cases q<;>simp only [pEqT] at e<;>first|cases e|skip
 ·rename_i ps qs
  obtain ⟨h,rfl⟩:=zaD e;obtain ⟨a,xs,rfl,ha,rx⟩:=zaS.mp (show Rep U H (.tup ps) v from hp);obtain ⟨b,ys,rfl,hb,ry⟩:=zaS.mp (show Rep U H (.tup qs) w from hq);refine ⟨a,b,xs,ys,fun j=>peq (ps.getD j .non) (qs.getD j .non),rfl,rfl,SqT.of ha,SqT.of hb,fun j x y hx hy=>?_,?_⟩
  ·obtain ⟨p',e1,r1⟩:=rx.getV hx
   obtain ⟨q',e2,r2⟩:=ry.getV hy;show EqR X n H x y (peq (ps.getD j .non) (qs.getD j .non));rw [zcH e1,zcH e2];exact zms n p' q' x y (zcu h e1 e2) r1 r2
  ·rw [rx.length,ry.length,zpZ]
   exact k _ H U (.refl d) (repB U H _)
def pIxL:PV->PV->Option PV
 | .lst ps,.int i=>atI ps i
 | .scr ns,.int i=>(atI ns i).map PV.int
 | _,_=>none
def pIxT:PV->PV->Option PV
 | .tup ps,.int i=>atI ps i
 | _,_=>none
def pIxS:PV->PV->Option PV
 | .str z,.int i=>if zaL z.length then (atI z.cps.toList i).map fun c=>PV.str ⟨#[c]⟩ else none
 | _,_=>none
theorem zjU {U:AS}{H:Hp}{ps:List PV}{xs:List V}{i:Int}{p:PV}(r:Reps U H ps xs) (h:atI ps i=some p):∃v,atI xs i=some v/\Rep U H p v:=by
 unfold atI at h ⊢;rw [r.length];obtain ⟨j,hj,h⟩:=Za.mp h;obtain ⟨v,hv,rv⟩:=r.get h;exact ⟨v,by rw [hj];exact hv,rv⟩
theorem ztc {Kf:PySem.W.Frag}:R2V .shr (rIxL Kf) pIxL:=by
 intro U H p q z v w Q d hp hq e k;cases p<;>cases q<;>simp only [pIxL,pIxT,pIxS] at e<;>first|cases e|skip
 ·rename_i ps i
  obtain ⟨a,xs,rfl,ha,rx⟩:=hp;obtain ⟨u,hu,ru⟩:=zjU rx e;exact ⟨a,xs,i,u,rfl,zaG (U:=U) (H:=H) hq,SqL.of ha,hu,k _ H U (.refl d) ru⟩
 ·rename_i ns i
  obtain ⟨a,rfl,ha⟩:=hp;obtain ⟨n,hn,rfl⟩:=Zb.mp e;refine ⟨a,ns.map V.int,i,.int n,rfl,zaG (U:=U) (H:=H) hq,.inl ha,?_,k _ H U (.refl d) (repI U H _)⟩;unfold atI at hn ⊢;obtain ⟨j,hj,h⟩:=Za.mp hn;rw [Zd,hj];simp [h]
theorem ztb {Kf:PySem.W.Frag}:R2V .shr (rIxT Kf) pIxT:=by
 intro U H p q z v w Q d hp hq e k;cases p<;>cases q<;>simp only [pIxL,pIxT,pIxS] at e<;>first|cases e|skip
 ·rename_i ps i
  obtain ⟨a,xs,rfl,ha,rx⟩:=zaS.mp (show Rep U H (.tup ps) v from hp);obtain ⟨u,hu,ru⟩:=zjU rx e;exact ⟨a,xs,i,u,rfl,zaG (U:=U) (H:=H) hq,SqT.of ha,hu,k _ H U (.refl d) ru⟩
def pCat:PV->PV->Option PV
 | .lst ps,.lst qs=>if zaL (ps.length+qs.length) then some (.lst (ps++qs)) else none
 | _,_=>none
theorem zth:R2V .fr rCat pCat:=by
 intro U H p q z v w Q d hp hq e k;cases p<;>cases q<;>simp only [pCat] at e<;>first|cases e|skip
 ·rename_i ps qs
  obtain ⟨h,rfl⟩:=zaD e;obtain ⟨a,xs,rfl,ha,rx⟩:=hp;obtain ⟨b,ys,rfl,hb,ry⟩:=hq;refine ⟨a,b,xs,ys,rfl,rfl,ha,hb,by rw [rx.length,ry.length];exact zbg h,fun l hl=>?_⟩;obtain ⟨e2,r2⟩:=zbr d hl (Reps.append rx ry);exact k _ _ U e2 r2
def pRep:PV->PV->Option PV
 | .lst ps,.int k=>if zaL (ps.length * k.toNat)&&decide (-(2 ^ 63)<=k)&&decide (k < 2 ^ 63) then some (.lst (List.replicate k.toNat ps).flatten) else none
 | _,_=>none
theorem Reps.rep {U:AS}{H:Hp}{ps:List PV}{xs:List V}(h:Reps U H ps xs):∀n:Nat,Reps U H (List.replicate n ps).flatten (List.replicate n xs).flatten
 | 0=>zam.mpr rfl
 | n+1=>by
  rw [List.replicate_succ,List.replicate_succ,List.flatten_cons,List.flatten_cons];exact Reps.append h (Reps.rep h n)
theorem zs7:R2V .fr rRep pRep:=by
 intro U H p q z v w Q d hp hq e k;cases p with
 | lst ps =>
  cases q with
  | int i =>
   obtain ⟨h,rfl⟩:=zaD e;simp only [Zc1,decide_eq_true_eq] at h;obtain ⟨a,xs,rfl,ha,rx⟩:=hp;refine ⟨a,i,xs,rfl,zaG (U:=U) (H:=H) hq,ha,h.1.2,h.2,by rw [rx.length];exact zbg h.1.1,fun l hl=>?_⟩;obtain ⟨e2,r2⟩:=zbr d hl (Reps.rep rx i.toNat);exact k _ _ U e2 r2
  | _=>cases e
 | _=>cases e
def VO (t:TO) (f:PEnv->Option (Option Int)):Prop:=∀(U O:AS) (H:Hp) (σ:St) (ρ:PEnv) (Q:Option Int->Hp->Prop) (b:Option Int),SR U O H σ ρ->f ρ=some b->(∀H' U',Ext U H U' H' -> Q b H')->t σ H Q
def zb3:PEnv->Option (Option Int):=fun _=>some none
def isI:PV->Option Int
 | .int i=>some i
 | _=>none
def zbq (f:VX):PEnv->Option (Option Int):=fun ρ=>((f ρ).bind isI).map some
theorem zpF:VO zkV zb3:=fun U O H σ ρ Q b s e k=>by cases e;exact k H U (.refl s.dU)
theorem zpE {m:Md}{t:TE}{f:VX}(h:VE m t f):VO (zsF t) (zbq f):=by
 intro U O H σ ρ Q b s e k;obtain ⟨i,hi,rfl⟩:=Zb.mp e;obtain ⟨p,hp,e2⟩:=Za.mp hi;cases p<;>simp only [isI] at e2<;>first|cases e2|skip
 ·exact h.bor U O H σ ρ _ _ s hp fun v H1 U1 ex1 r1=>⟨i,zaG (U:=U1) (H:=H1) r1,k H1 U1 ex1⟩
def cutP (xs:List PV) (lo hi:Option Int):List PV:=(xs.drop (HT.sIx xs.length 0 lo)).take (HT.sIx xs.length xs.length hi - HT.sIx xs.length 0 lo)
def xSl (f:VX) (lo hi:PEnv->Option (Option Int)):VX:=fun ρ=>(f ρ).bind fun p=>(lo ρ).bind fun l=>(hi ρ).bind fun u=>match p with
 | .lst ps=>some (.lst (cutP ps l u))
 | _=>none
theorem zsn {Kf:PySem.W.Frag}{m:Md}{te:TE}{tl th:TO}{f:VX}{lo hi:PEnv->Option (Option Int)}(h:VE m te f) (hl:VO tl lo) (hh:VO th hi):VE .fr (tSl (rSlL Kf) te tl th) (xSl f lo hi):=by
 intro U O H σ ρ Q z s e k;obtain ⟨p,hp,e⟩:=Za.mp e;obtain ⟨l,hlo,e⟩:=Za.mp e;obtain ⟨u,hhi,e⟩:=Za.mp e;cases p with
 | lst ps =>
  cases e;refine h.bor U O H σ ρ _ _ s hp fun v H1 U1 ex1 r1=>hl U1 O H1 σ ρ _ l (s.ext ex1) hlo fun H2 U2 ex2=>hh U2 O H2 σ ρ _ u ((s.ext ex1).ext ex2) hhi fun H3 U3 ex3=>?_;obtain ⟨a,xs,rfl,ha,rx⟩:=Bor.keeps (p:=.lst ps) (ex2.trans ex3).keeps (ex2.trans ex3).same r1;refine ⟨a,xs,rfl,SqL.of ha,fun p hp=>?_⟩;have rc:Reps U3 H3 (cutP ps l u) (cutV xs l u):=by
   unfold cutP cutV;rw [rx.length];exact Reps.take _ (Reps.drop _ rx)
  obtain ⟨e2,r2⟩:=zbr ex3.dU hp rc;have e13:=ex1.trans (ex2.trans ex3);exact k _ _ U3 (e13.trans e2) (Res.pre (U1:=U3) e13.same r2)
 | _=>cases e
def xRev (f g:VX):VX:=fun ρ=>(f ρ).bind fun p=>(g ρ).bind fun q=>match p,q with
 | .lst ps,.int i=>if i = -1 then some (.lst ps.reverse) else none
 | _,_=>none
theorem zso {Kf:PySem.W.Frag}{m m':Md}{te ts:TE}{f g:VX}(h:VE m te f) (hg:VE m' ts g):VE .fr (tRev Kf te ts) (xRev f g):=by
 intro U O H σ ρ Q z s e k;obtain ⟨p,hp,e⟩:=Za.mp e;obtain ⟨q,hq,e⟩:=Za.mp e;cases p with
 | lst ps =>
  cases q with
  | int i =>
   simp only at e;by_cases hi:i = -1
   ·rw [if_pos hi] at e
    cases e;refine h.bor U O H σ ρ _ _ s hp fun v H1 U1 ex1 r1=>hg.bor U1 O H1 σ ρ _ _ (s.ext ex1) hq fun w H2 U2 ex2 r2=>?_;obtain ⟨a,xs,rfl,ha,rx⟩:=Bor.keeps (p:=.lst ps) ex2.keeps ex2.same r1;have hw:=zaG (U:=U2) (H:=H2) r2;refine ⟨by rw [hw,hi],a,xs,rfl,SqL.of ha,fun p hp=>?_⟩;obtain ⟨e2,r2⟩:=zbr ex2.dU hp (Reps.reverse rx);exact k _ _ U2 ((ex1.trans ex2).trans e2) (Res.pre (U1:=U2) (ex1.trans ex2).same r2)
   ·rw [if_neg hi] at e;cases e
  | _=>cases e
 | _=>cases e
end L2
namespace L2
open PySem PySem.Spec PyProof.Rows
theorem zst {m:Md}{r:List V->Hp->VK->Prop}{t:TA}{fa:VL}{g:List PV->Option PV}(hr:RLV m r g) (ha:VA true t fa):VE m (tCB r t) (xL g fa):=by
 intro U O H σ ρ Q z s e k;obtain ⟨ps,hp,e⟩:=Za.mp e;refine ha U O H σ ρ _ ps s hp fun vs H1 U1 ex1 r1=>?_;exact hr U1 H1 ps z vs Q ex1.dU r1 e fun u H3 U3 ex3 r3=>k u H3 U3 (ex1.trans ex3) (Res.pre (U1:=U1) ex1.same r3)
theorem Bors.one {U:AS}{H:Hp}{p:PV}{vs:List V}(h:Bors U H [p] vs):∃v,vs = [v]/\Bor U H p v:=by
 cases h with
 | cons a b=>cases b;exact ⟨_,rfl,a⟩
theorem Bors.two {U:AS}{H:Hp}{p q:PV}{vs:List V}(h:Bors U H [p,q] vs):∃v w,vs = [v,w]/\Bor U H p v/\Bor U H q w:=by
 cases h with
 | cons a b =>
  obtain ⟨w,rfl,hb⟩:=b.one;exact ⟨_,w,rfl,a,hb⟩
def pLen:List PV->Option PV
 | [.lst ps]=>some (.int ps.length)
 | [.tup ps]=>some (.int ps.length)
 | [.scr ns]=>some (.int ns.length)
 | _=>none
theorem zsU {Kf:PySem.W.Frag}:RLV .shr (zqt Kf) pLen:=by
 intro U H ps z vs Q d hb e k
 match ps,e with
 | [.lst qs],e =>
  cases e;obtain ⟨v,rfl,a,xs,rfl,ha,rx⟩:=hb.one;refine ⟨a,xs,rfl,.inl (SqL.of ha),?_⟩;rw [rx.length];exact k _ H U (.refl d) (repI U H _)
 | [.tup qs],e =>
  cases e;obtain ⟨v,rfl,hv⟩:=hb.one;obtain ⟨a,xs,rfl,ha,rx⟩:=zaS.mp (show Rep U H (.tup qs) v from hv);refine ⟨a,xs,rfl,.inr (SqT.of ha),?_⟩;rw [rx.length];exact k _ H U (.refl d) (repI U H _)
 | [.scr ns],e =>
  cases e;obtain ⟨v,rfl,a,rfl,ha⟩:=hb.one;refine ⟨a,ns.map V.int,rfl,.inl (.inl ha),?_⟩;rw [Zd];exact k _ H U (.refl d) (repI U H _)
def zkf:List PV->Option PV
 | [.str z]=>if zaL z.length then some (.int z.length) else none
 | _=>none
theorem zqm:RLV .shr zs3 zkf:=by
 intro U H ps z vs Q d hb e k
 match ps,e with
 | [.str x],e =>
  obtain ⟨h,rfl⟩:=zaD e;obtain ⟨v,rfl,hv⟩:=hb.one;exact ⟨x,by rw [zg5 (U:=U) (H:=H) hv],zbg h,k _ H U (.refl d) (repI U H _)⟩
def zeh:List PV->Option PV
 | [.lst ps]=>some (.lst ps)
 | [.tup ps]=>some (.lst ps)
 | _=>none
theorem zql {Kf:PySem.W.Frag}:RLV .fr (ziz Kf) zeh:=by
 intro U H ps z vs Q d hb e k
 match ps,e with
 | [.lst qs],e =>
  cases e;obtain ⟨v,rfl,a,xs,rfl,ha,rx⟩:=hb.one;refine ⟨a,xs,rfl,.inl (SqL.of ha),fun l hl=>?_⟩;obtain ⟨e2,r2⟩:=zbr d hl rx;exact k _ _ U e2 r2
 | [.tup qs],e =>
  cases e;obtain ⟨v,rfl,hv⟩:=hb.one;obtain ⟨a,xs,rfl,ha,rx⟩:=zaS.mp (show Rep U H (.tup qs) v from hv);refine ⟨a,xs,rfl,.inr (SqT.of ha),fun l hl=>?_⟩;obtain ⟨e2,r2⟩:=zbr d hl rx;exact k _ _ U e2 r2
def bools:List PV->Option (List Bool)
 | []=>some []
 | .bl b::ps=>(bools ps).map (b::·)
 | _=>none
theorem zfo:∀{ps:List PV}{bs:List Bool},bools ps=some bs->ps=bs.map PV.bl
 | [],bs,h=>by cases h;rfl
 | .bl b::ps,bs,h=>by
  obtain ⟨cs,hc,rfl⟩:=Zb.mp h;rw [zfo hc];rfl
 | .non::_,_,h=>nomatch h
 | .int _::_,_,h=>nomatch h
 | .str _::_,_,h=>nomatch h
 | .lst _::_,_,h=>nomatch h
 | .tup _::_,_,h=>nomatch h
 | .dct _::_,_,h=>nomatch h
 | .scr _::_,_,h=>nomatch h
 | .adr _::_,_,h=>nomatch h
 | .obj _ _ _::_,_,h=>nomatch h
 | .dtt _::_,_,h=>nomatch h
theorem zjR:∀(bs:List Bool),bools (bs.map PV.bl)=some bs
 | []=>rfl
 | b::bs=>by simp [bools,zjR bs]
def pAll:List PV->Option PV
 | [.lst ps]=>(bools ps).map fun bs=>.bl (bs.all id)
 | _=>none
theorem zsW {Kf:PySem.W.Frag}:RLV .shr (rAll Kf) pAll:=by
 intro U H ps z vs Q d hb e k
 match ps,e with
 | [.lst qs],e =>
  obtain ⟨bs,hbs,rfl⟩:=Zb.mp e;obtain ⟨v,rfl,a,xs,rfl,ha,rx⟩:=hb.one;rw [zfo hbs] at rx;have:=rx.bls;subst this;exact ⟨a,bs,rfl,SqL.of ha,k _ H U (.refl d) (repB U H _)⟩
def zke:List PV->Option PV
 | [.int i,.int j]=>some (.int (if j > i then j else i))
 | _=>none
theorem zqk:RLV .shr (fun xs H Q=>∃i j,xs = [V.int i,V.int j]/\Q (.int (if j > i then j else i)) H) zke:=by
 intro U H ps z vs Q d hb e k
 match ps,e with
 | [.int i,.int j],e =>
  cases e;obtain ⟨v,w,rfl,h1,h2⟩:=hb.two;rw [zaG (U:=U) (H:=H) h1,zaG (U:=U) (H:=H) h2];exact ⟨i,j,rfl,k _ H U (.refl d) (repI U H _)⟩
def tyName:PV->Option String
 | .non=>some "NoneType" | .bl _=>some "bool" | .int _=>some "int" | .str _=>some "str" | .lst _=>some "list" | .tup _=>some "tuple" | .dct _=>none | .scr _=>none | .adr _=>none | .obj _ _ _=>none | .dtt _=>none
def pIsi (tab:List (String×Bool)) (p:PV):Option PV:=((tyName p).bind fun t=>tab.lookup t).map PV.bl
def pIsN:PV->Option PV
 | .non=>some (.bl true)
 | _=>some (.bl false)
def zhK:PV->Option PV
 | .non=>some (.bl false)
 | _=>some (.bl true)
theorem zmR {U:AS}{H:Hp}{p:PV}{v:V}(h:Bor U H p v):pIsN p=some (.bl (decide (v=.non))):=by
 cases p with
 | non=>rw [(zbB (U:=U) (H:=H)).mp h];rfl
 | bl b=>rw [(zbP (U:=U) (H:=H)).mp h];simp [pIsN]
 | int b=>rw [(zaT (U:=U) (H:=H)).mp h];simp [pIsN]
 | str b=>rw [(za5 (U:=U) (H:=H)).mp h];simp [pIsN]
 | lst b=>obtain ⟨a,xs,rfl,_⟩:=h;simp [pIsN]
 | tup b=>obtain ⟨a,xs,rfl,_⟩:=(zaS (U:=U) (H:=H)).mp h;simp [pIsN]
 | dct b=>obtain ⟨a,xs,rfl,_⟩:=h;simp [pIsN]
 | scr b=>obtain ⟨a,rfl,_⟩:=h;simp [pIsN]
 | dtt b=>obtain ⟨a,xs,rfl,_⟩:=h;simp [pIsN]
 | obj b c d=>obtain ⟨a,dx,xs,rfl,_⟩:=(zeL (U:=U) (H:=H)).mp h;simp [pIsN]
 | adr b=>rw [(zgA (U:=U) (H:=H)).mp h];simp [pIsN]
theorem zsr {m:Md}{te:TE}{f:VX}(h:VE m te f):VE .shr (tIsN te) (x1 pIsN f):=by
 intro U O H σ ρ Q z s e k;obtain ⟨p,hp,e⟩:=Za.mp e;refine h.bor U O H σ ρ _ p s hp fun v H1 U1 ex1 r1=>?_;have:=zmR r1;rw [this] at e;cases e;exact k _ H1 U1 ex1 (repB U1 H1 _)
theorem zpP {m:Md}{te:TE}{f:VX}(h:VE m te f):VE .shr (zsG te) (x1 zhK f):=by
 intro U O H σ ρ Q z s e k;obtain ⟨p,hp,e⟩:=Za.mp e;refine h.bor U O H σ ρ _ p s hp fun v H1 U1 ex1 r1=>?_;have h1:=zmR r1;have h2:zhK p=some (.bl (!decide (v=.non))):=by
  cases p<;>simp only [pIsN,Option.some.injEq,PV.bl.injEq] at h1<;>rw [<- h1]<;>rfl
 rw [h2] at e;cases e;exact k _ H1 U1 ex1 (repB U1 H1 _)
def zfL:PV->Bool
 | .non=>true | .bl _=>true | .int _=>true | .str _=>true|_=>false
def eqP:PV->PV->Bool
 | .non,.non=>true
 | .bl a,.bl b=>a==b
 | .bl a,.int b=>(if a then 1 else 0)==b
 | .int a,.bl b=>a==(if b then 1 else 0)
 | .int a,.int b=>a==b
 | .str a,.str b=>a==b
 | _,_=>false
theorem zgV {U:AS}{H:Hp}{p:PV}{v:V}(h:Bor U H p v) (hf:zfL p=true):zfK v=true/\ofConst v=some p:=by
 cases p<;>simp only [zfL] at hf<;>first|cases hf|skip
 ·rw [(zbB (U:=U) (H:=H)).mp h];exact ⟨rfl,rfl⟩
 ·rw [(zbP (U:=U) (H:=H)).mp h];exact ⟨rfl,rfl⟩
 ·rw [(zaT (U:=U) (H:=H)).mp h];exact ⟨rfl,rfl⟩
 ·rw [(za5 (U:=U) (H:=H)).mp h];exact ⟨rfl,rfl⟩
theorem zrr {p q:PV}{v w:V}(h1:ofConst v=some p) (h2:ofConst w=some q):eqV v w=eqP p q:=by
 cases v<;>simp only [ofConst] at h1<;>first|cases h1|skip
 all_goals (cases w<;>simp only [ofConst] at h2<;>first|cases h2|skip)
 all_goals rfl
theorem zrm {U:AS}{H:Hp}:∀{ps:List PV}{xs:List V},Reps U H ps xs->ps.all zfL=true->xs.all zfK=true /\ ∀(v:V) (p:PV),ofConst v=some p->xs.any (fun y=>eqV y v)=ps.any (fun y=>eqP y p)
 | [],xs,h,_=>by rw [zam.mp h];exact ⟨rfl,fun _ _ _=>rfl⟩
 | p::ps,xs,h,hf=>by
  obtain ⟨x,r,rfl,h1,h2⟩:=zah.mp h;simp only [List.all_cons,Zc1] at hf;obtain ⟨a,b⟩:=zrm h2 hf.2;obtain ⟨c,d⟩:=zgV (Rep.bor h1) hf.1;exact ⟨by simp [a,c],fun v q hq=>by simp only [List.any_cons];rw [b v q hq,zrr d hq]⟩
def pIn (neg:Bool) (p q:PV):Option PV:=match q with
 | .lst ps=>if zfL p&&ps.all zfL then some (.bl (if neg then !(ps.any fun y=>eqP y p) else ps.any fun y=>eqP y p)) else none
 | .tup ps=>if zfL p&&ps.all zfL then some (.bl (if neg then !(ps.any fun y=>eqP y p) else ps.any fun y=>eqP y p)) else none
 | _=>none
theorem ztd {Kf:PySem.W.Frag}{neg:Bool}:R2V .shr (rIn Kf neg) (pIn neg):=by
 intro U H p q z v w Q d hp hq e k;cases q with
 | lst ps =>
  obtain ⟨h,rfl⟩:=zaD e;simp only [Zc1] at h;obtain ⟨a,xs,rfl,ha,rx⟩:=hq;obtain ⟨f1,f2⟩:=zrm rx h.2;obtain ⟨g1,g2⟩:=zgV hp h.1;refine ⟨a,xs,rfl,.inl (SqL.of ha),g1,f1,?_⟩;unfold inV;rw [f2 v p g2];exact k _ H U (.refl d) (repB U H _)
 | tup ps =>
  obtain ⟨h,rfl⟩:=zaD e;simp only [Zc1] at h;obtain ⟨a,xs,rfl,ha,rx⟩:=zaS.mp (show Rep U H (.tup ps) w from hq);obtain ⟨f1,f2⟩:=zrm rx h.2;obtain ⟨g1,g2⟩:=zgV hp h.1;refine ⟨a,xs,rfl,.inr (SqT.of ha),g1,f1,?_⟩;unfold inV;rw [f2 v p g2];exact k _ H U (.refl d) (repB U H _)
 | _=>cases e
def itL (f:VX):VL:=fun ρ=>(f ρ).bind fun p=>match p with
 | .lst ps=>some ps
 | _=>none
def itT (f:VX):VL:=fun ρ=>(f ρ).bind fun p=>match p with
 | .tup ps=>some ps
 | _=>none
theorem zpL {Kf:PySem.W.Frag}{tl:TE}{f:VX}(h:VE .shr tl f):VI (zrg Kf tl) (itL f):=by
 intro U O H σ ρ R ys s e k;obtain ⟨p,hp,e⟩:=Za.mp e;cases p with
 | lst ps =>
  cases e;refine h U O H σ ρ _ _ s hp fun v H1 U1 ex1 r1=>?_;obtain ⟨a,xs,rfl,ua,ha,rx⟩:=zcd.mp r1;refine ⟨a,rfl,⟨xs,SqL.of ha⟩,k _ H1 U1 ex1 ⟨fun i U2 H2 kp d x hx=>?_,fun U2 H2 kp=>?_⟩⟩
  ·have ha2:=kp.lst a (.l xs) ua ha
   obtain ⟨v,hv,rv⟩:=(Reps.keeps kp _ _ rx).get hx;refine ⟨⟨xs,v,SqL.of ha2,hv⟩,fun w H3 hy=>?_⟩;obtain ⟨rfl,hw⟩:=hy;have:=hw xs (SqL.of ha2);rw [hv] at this;cases this;exact ⟨U2,.refl d,rv⟩
  ·exact ⟨xs,SqL.of (kp.lst a (.l xs) ua ha),by rw [rx.length];exact Nat.le_refl _⟩
 | _=>cases e
theorem zsh {Kf:PySem.W.Frag}{m:Md}{tl:TE}{f:VX}(h:VE m tl f):VI (iTup Kf tl) (itT f):=by
 intro U O H σ ρ R ys s e k;obtain ⟨p,hp,e⟩:=Za.mp e;cases p with
 | tup ps =>
  cases e;refine h.bor U O H σ ρ _ _ s hp fun v H1 U1 ex1 r1=>?_;obtain ⟨a,xs,rfl,ha,rx⟩:=(zaS (U:=U1) (H:=H1)).mp r1;refine ⟨a,rfl,⟨xs,SqT.of ha⟩,k _ H1 U1 ex1 ⟨fun i U2 H2 kp d x hx=>?_,fun U2 H2 kp=>?_⟩⟩
  ·have ha2:=kp.tup a xs ha
   obtain ⟨v,hv,rv⟩:=(Reps.keeps kp _ _ rx).get hx;refine ⟨⟨xs,v,SqT.of ha2,hv⟩,fun w H3 hy=>?_⟩;obtain ⟨rfl,hw⟩:=hy;have:=hw xs (SqT.of ha2);rw [hv] at this;cases this;exact ⟨U2,.refl d,rv⟩
  ·exact ⟨xs,SqT.of (kp.tup a xs ha),by rw [rx.length];exact Nat.le_refl _⟩
 | _=>cases e
def rngP (lo:Int) (n:Nat):List PV:=(List.range n).map fun k=>.int (lo + (k:Nat))
theorem zjh {lo:Int}{n i:Nat}{x:PV}(h:(rngP lo n)[i]?=some x):i < n/\x=.int (lo + (i:Nat)):=by
 unfold rngP at h;rw [Zj] at h;obtain ⟨j,hj,rfl⟩:=Zb.mp h;obtain ⟨h1,h2⟩:=Zg.mp hj;rw [Zu] at h1;rw [List.getElem_range] at h2;exact ⟨h1,by rw [h2]⟩
theorem zi3 {U:AS}{H:Hp}{lo:Int}{n:Nat}:Walk U H (Itr lo n) (rngP lo n):=by
 refine ⟨fun i U2 H2 kp d x hx=>?_,fun U2 H2 kp=>?_⟩
 ·obtain ⟨h1,rfl⟩:=zjh hx
  refine ⟨h1,fun w H3 hy=>?_⟩;obtain ⟨rfl,rfl⟩:=hy;exact ⟨U2,.refl d,repI U2 H3 _⟩
 ·show n<=(rngP lo n).length
  unfold rngP;simp
def big? (i:Int):Bool:=decide (-(2 ^ 62)<=i)&&decide (i < 2 ^ 62)
theorem zc7 {i:Int}(h:big? i=true):-(2 ^ 62)<=i/\i < 2 ^ 62:=by unfold big? at h;simpa using h
def itR1 (f:VL):VL:=fun ρ=>(f ρ).bind fun ps=>match ps with
 | [.int j]=>if big? j then some (rngP 0 j.toNat) else none
 | _=>none
def itR2 (f:VL):VL:=fun ρ=>(f ρ).bind fun ps=>match ps with
 | [.int i,.int j]=>if big? i&&big? j then some (rngP i (j - i).toNat) else none
 | _=>none
def dwnP (i:Int) (n:Nat):List PV:=(List.range n).map fun k=>.int (i - (k:Nat))
def itRD (f:VL):VL:=fun ρ=>(f ρ).bind fun ps=>match ps with
 | [.int i,.int j,.int k]=>if big? i&&big? j&&decide (k = -1) then some (dwnP i (i - j).toNat) else none
 | _=>none
theorem zpK {ta:TA}{f:VL}(h:VA true ta f):VI (zul ta) (itR1 f):=by
 intro U O H σ ρ R ys s e k;obtain ⟨ps,hp,e⟩:=Za.mp e
 match ps,hp,e with
 | [.int j],hp,e =>
  obtain ⟨hb,rfl⟩:=zaD e;refine h U O H σ ρ _ _ s hp fun vs H1 U1 ex1 r1=>?_;obtain ⟨v,rfl,hv⟩:=Bors.one (U:=U1) (H:=H1) r1;rw [zaG (U:=U1) (H:=H1) hv];exact ⟨j,rfl,(zc7 hb).1,(zc7 hb).2,k _ H1 U1 ex1 zi3⟩
theorem zpJ {ta:TA}{f:VL}(h:VA true ta f):VI (zuk ta) (itR2 f):=by
 intro U O H σ ρ R ys s e k;obtain ⟨ps,hp,e⟩:=Za.mp e
 match ps,hp,e with
 | [.int i,.int j],hp,e =>
  obtain ⟨hb,rfl⟩:=zaD e;simp only [Zc1] at hb;refine h U O H σ ρ _ _ s hp fun vs H1 U1 ex1 r1=>?_;obtain ⟨v,w,rfl,hv,hw⟩:=Bors.two (U:=U1) (H:=H1) r1;rw [zaG (U:=U1) (H:=H1) hv,zaG (U:=U1) (H:=H1) hw];exact ⟨i,j,rfl,⟨(zc7 hb.1).1,(zc7 hb.1).2,(zc7 hb.2).1,(zc7 hb.2).2⟩,k _ H1 U1 ex1 zi3⟩
theorem zpI {ta:TA}{f:VL}(h:VA true ta f):VI (zrf ta) (itRD f):=by
 intro U O H σ ρ R ys s e k;obtain ⟨ps,hp,e⟩:=Za.mp e
 match ps,hp,e with
 | [.int i,.int j,.int l],hp,e =>
  obtain ⟨hb,rfl⟩:=zaD e;simp only [Zc1,decide_eq_true_eq] at hb;obtain ⟨⟨h1,h2⟩,rfl⟩:=hb;refine h U O H σ ρ _ _ s hp fun vs H1 U1 ex1 r1=>?_;have r1':Bors U1 H1 [.int i,.int j,.int (-1)] vs:=r1;cases r1' with
  | cons ha hr =>
   obtain ⟨v,w,rfl,hv,hw⟩:=hr.two;rw [zaG (U:=U1) (H:=H1) ha,zaG (U:=U1) (H:=H1) hv,zaG (U:=U1) (H:=H1) hw];refine ⟨i,j,rfl,⟨(zc7 h1).1,(zc7 h1).2,(zc7 h2).1,(zc7 h2).2⟩,k _ H1 U1 ex1 ⟨fun q U2 H2 kp d x hx=>?_,fun U2 H2 kp=>?_⟩⟩
   ·unfold dwnP at hx
    rw [Zj] at hx;obtain ⟨t,ht,rfl⟩:=Zb.mp hx;obtain ⟨g1,g2⟩:=Zg.mp ht;rw [Zu] at g1;rw [List.getElem_range] at g2;subst g2;refine ⟨g1,fun w H3 hy=>?_⟩;obtain ⟨rfl,rfl⟩:=hy;exact ⟨U2,.refl d,repI U2 H3 _⟩
   ·show (dwnP i (i - j).toNat).length=(i - j).toNat
    unfold dwnP;simp
def sgnP (x:Str) (i:Nat):PV:=.str ⟨#[x.cps.getD i 0]⟩
def itS (f:VX):VL:=fun ρ=>(f ρ).bind fun p=>match p with
 | .str z=>some ((List.range z.cps.size).map (sgnP z))
 | _=>none
theorem zsi {m:Md}{tl:TE}{f:VX}(h:VE m tl f):VI (iStr tl) (itS f):=by
 intro U O H σ ρ R ys s e k;obtain ⟨p,hp,e⟩:=Za.mp e;cases p with
 | str z =>
  cases e;refine h.bor U O H σ ρ _ _ s hp fun v H1 U1 ex1 r1=>?_;refine ⟨z,zg5 (U:=U1) (H:=H1) r1,k _ H1 U1 ex1 ⟨fun i U2 H2 kp d x hx=>?_,fun U2 H2 kp=>?_⟩⟩
  ·rw [Zj] at hx
   obtain ⟨t,ht,rfl⟩:=Zb.mp hx;obtain ⟨g1,g2⟩:=Zg.mp ht;rw [Zu] at g1;rw [List.getElem_range] at g2;subst g2;refine ⟨g1,fun w H3 hy=>?_⟩;obtain ⟨rfl,rfl⟩:=hy;exact ⟨U2,.refl d,repX U2 H3 _⟩
  ·show ((List.range z.cps.size).map (sgnP z)).length=z.cps.size
   simp
 | _=>cases e
def zcj (ps:List PV):List PV:=ps.zipIdx.map fun q=>.tup [.int (q.2:Nat),q.1]
def itE (f:VL):VL:=fun ρ=>(f ρ).bind fun ps=>match ps with
 | [.lst qs]=>some (zcj qs)
 | _=>none
theorem zpM {Kf:PySem.W.Frag}{ta:TA}{f:VL}(h:VA false ta f):VI (zun Kf ta) (itE f):=by
 intro U O H σ ρ R ys s e k;obtain ⟨ps,hp,e⟩:=Za.mp e
 match ps,hp,e with
 | [.lst qs],hp,e =>
  cases e;refine h U O H σ ρ _ _ s hp fun vs H1 U1 ex1 r1=>?_;obtain ⟨v,r,rfl,hv,hr⟩:=(zah (U:=U1) (H:=H1)).mp r1;rw [zam.mp hr];obtain ⟨a,xs,rfl,ua,ha,rx⟩:=zcd.mp hv;refine ⟨a,rfl,⟨xs,SqL.of ha⟩,k _ H1 U1 ex1 ⟨fun i U2 H2 kp d x hx=>?_,fun U2 H2 kp=>?_⟩⟩
  ·have ha2:=kp.lst a (.l xs) ua ha
   unfold zcj at hx;rw [Zj,List.getElem?_zipIdx] at hx;obtain ⟨t,ht,rfl⟩:=Zb.mp hx;obtain ⟨q,hq,rfl⟩:=Zb.mp ht;obtain ⟨v,hv,rv⟩:=(Reps.keeps kp _ _ rx).get hq;refine ⟨⟨xs,v,SqL.of ha2,hv⟩,fun w H3 hy=>?_⟩;obtain ⟨u,t,hu,rfl,ht,rfl⟩:=hy;have:=hu xs (SqL.of ha2);rw [hv] at this;cases this;have rr:Reps U2 H2 [.int ((0+i:Nat):Int),q] [V.int ((i:Nat):Int),v]:=by
    rw [Nat.zero_add];exact zah.mpr ⟨_,_,rfl,repI U2 H2 _,Reps.one rv⟩
   obtain ⟨e2,r2⟩:=ziF d ht rr;exact ⟨U2,e2,r2⟩
  ·refine ⟨xs,SqL.of (kp.lst a (.l xs) ua ha),?_⟩
   rw [rx.length];unfold zcj;simp
def vAug (i:Nat) (g:Int->Int->Int) (f:VX):VF:=fun ρ=>match xVar i ρ,f ρ with
 | some (.int x),some (.int y)=>some (.nx (ρ.set i (some (.int (g x y),.shr))))
 | _,_=>none
def vPar (i j:Nat) (f:VL):VF:=fun ρ=>(f ρ).bind fun ps=>match ps with
 | [p,q]=>some (.nx ((ρ.set i (some (p,.shr))).set j (some (q,.shr))))
 | _=>none
def vUnp (tg:VTg) (f:VX):VF:=fun ρ=>(f ρ).bind fun p=>(tg p ρ).map Out.nx
theorem zr9 {te:TE}{g:TG}{f:VX}{tg:VTg}(h:VE .shr te f) (hg:VG g tg):VS (tAsg te g) (vUnp tg f):=by
 intro U O H σ ρ D o s e q;obtain ⟨p,hp,e⟩:=Za.mp e;obtain ⟨ρ',hr,rfl⟩:=Zb.mp e;refine h U O H σ ρ _ p s hp fun v H1 U1 ex1 r1=>hg U1 O H1 σ ρ ρ' p v _ (s.ext ex1) r1 hr fun σ' s'=>q U1 O H1 σ' s' ex1.tr
def zdj (g g':PV->PV->Option PV) (fa fb fc:VX):VX:=fun ρ=>(fa ρ).bind fun p=>(fb ρ).bind fun q=>match g p q with
 | some (.bl true)=>(fc ρ).bind fun r=>g' q r
 | some (.bl false)=>some (.bl false)
 | _=>none
theorem znb {ma mb mc:Md}{r r':R2}{ta tb tc:TE}{fa fb fc:VX}{g g':PV->PV->Option PV}(hr:R2V .shr r g) (hr':R2V .shr r' g') (ha:VE ma ta fa) (hb:VE mb tb fb) (hc:VE mc tc fc):VE .shr (zoI r r' ta tb tc) (zdj g g' fa fb fc):=by
 intro U O H σ ρ Q z s e k;obtain ⟨p,hp,e⟩:=Za.mp e;obtain ⟨q,hq,e⟩:=Za.mp e;refine ha.bor U O H σ ρ _ p s hp fun v H1 U1 ex1 r1=>?_;refine hb.bor U1 O H1 σ ρ _ q (s.ext ex1) hq fun w H2 U2 ex2 r2=>?_;have s2:=(s.ext ex1).ext ex2;cases hg:g p q with
 | none=>simp only [hg] at e;cases e
 | some b =>
  refine hr U2 H2 p q b v w _ ex2.dU (Bor.keeps ex2.keeps ex2.same r1) r2 hg fun u H3 U3 ex3 r3=>?_;have s3:=s2.ext ex3;have ex13:=ex1.trans (ex2.trans ex3);simp only [hg] at e;cases b with
  | bl c =>
   have hu:=(zbP (U:=U3) (H:=H3)).mp r3;subst hu;refine ⟨c,rfl,?_⟩;cases c with
   | true =>
    obtain ⟨r,hrr,e⟩:=Za.mp e;show tc σ H3 _;refine hc.bor U3 O H3 σ ρ _ r s3 hrr fun w' H4 U4 ex4 r4=>?_;exact hr' U4 H4 q r z w w' Q ex4.dU (Bor.keeps (ex3.trans ex4).keeps (ex3.trans ex4).same r2) r4 e fun u H5 U5 ex5 r5=>k u H5 U5 (ex13.trans (ex4.trans ex5)) r5
   | false =>
    cases e;exact k _ H3 U3 ex13 (repB U3 H3 _)
  | _=>cases e
def keyP:PV->Option Key
 | .int i=>some (.inl i)
 | .str x=>some (.inr x)
 | _=>none
def valP:List (Key×PV)->Key->Option PV
 | [],_=>none
 | (k,v)::r,x=>if k=x then some v else valP r x
theorem ze8 {U:AS}{H:Hp}{p:PV}{v:V}{k:Key}(h:Bor U H p v) (hk:keyP p=some k):v=kV k:=by
 cases p<;>simp only [keyP] at hk<;>first|cases hk|skip
 ·exact (zaT (U:=U) (H:=H)).mp h
 ·exact (za5 (U:=U) (H:=H)).mp h
theorem zkO (k:Key) (v:V) (r:List (Key×V)) (x:Key):valV ((k,v)::r) x=if k=x then some v else valV r x:=by
 unfold valV;rw [List.find?_cons];by_cases h:k=x
 ·simp [h]
 ·simp [h]
theorem RepK.val {U:AS}{H:Hp}:∀{ks:List (Key×PV)}{kvs:List (Key×V)},RepK U H ks kvs -> ∀x,(valP ks x=none/\valV kvs x=none) \/ ∃p v,valP ks x=some p/\valV kvs x=some v/\Rep U H p v
 | [],kvs,h,x=>by rw [zbo.mp h];exact .inl ⟨rfl,rfl⟩
 | (k,p)::ks,kvs,h,x=>by
  obtain ⟨v,r,rfl,h1,h2⟩:=zaM.mp h;rw [zkO];show ((if k=x then some p else valP ks x)=none/\_) \/ ∃p' v',(if k=x then some p else valP ks x)=some p' /\ _;by_cases hx:k=x
  ·simp only [hx,if_true]
   exact .inr ⟨p,v,rfl,rfl,h1⟩
  ·simp only [hx,if_false]
   exact RepK.val h2 x
def zbQ (f g:VX):VX:=x2 (fun d y=>match d with
 | .dct ks=>(keyP y).bind (valP ks)
 | _=>none) f g
theorem zpS {m m':Md}{td ty:TE}{f g:VX}(h:VE m td f) (hg:VE m' ty g):VE .shr (zsL td ty) (zbQ f g):=by
 intro U O H σ ρ Q z s e k;obtain ⟨p,hp,e⟩:=Za.mp e;obtain ⟨q,hq,e⟩:=Za.mp e;refine h.bor U O H σ ρ _ p s hp fun v H1 U1 ex1 r1=>hg.bor U1 O H1 σ ρ _ q (s.ext ex1) hq fun w H2 U2 ex2 r2=>?_;cases p with
 | dct ks =>
  obtain ⟨a,kvs,rfl,ha,rk⟩:=Bor.keeps (p:=.dct ks) ex2.keeps ex2.same r1;obtain ⟨x,hx,e⟩:=Za.mp e;have hw:=ze8 r2 hx;subst hw;rcases rk.val x with ⟨n1,_⟩|⟨p,u,e1,e2,ru⟩
  ·rw [n1] at e;cases e
  ·rw [e1] at e;cases e
   exact ⟨a,u,rfl,.inl ⟨kvs,x,ha,rfl,e2.symm⟩,k _ H2 U2 (ex1.trans ex2) ru⟩
 | _=>cases e
def xDIn (neg:Bool) (f g:VX):VX:=x2 (fun y d=>match d with
 | .dct ks=>(keyP y).map fun k=>.bl (if neg then !(valP ks k).isSome else (valP ks k).isSome)
 | _=>none) f g
theorem zoD {m m':Md}{td ty:TE}{f g:VX}(h:VE m ty f) (hg:VE m' td g):VE .shr (tDIn ty td) (xDIn false f g):=by
 intro U O H σ ρ Q z s e k;obtain ⟨q,hq,e⟩:=Za.mp e;obtain ⟨p,hp,e⟩:=Za.mp e;refine h.bor U O H σ ρ _ q s hq fun w H1 U1 ex1 r1=>hg.bor U1 O H1 σ ρ _ p (s.ext ex1) hp fun v H2 U2 ex2 r2=>?_;cases p with
 | dct ks =>
  obtain ⟨a,kvs,rfl,ha,rk⟩:=r2;obtain ⟨x,hx,rfl⟩:=Zb.mp e;have hw:=ze8 r1 hx;subst hw;rcases rk.val x with ⟨n1,n2⟩|⟨p,u,e1,e2,ru⟩
  ·refine ⟨a,none,rfl,.inl ⟨kvs,x,ha,rfl,n2.symm⟩,k _ H2 U2 (ex1.trans ex2) ?_⟩
   rw [n1];exact repB U2 H2 _
  ·refine ⟨a,some u,rfl,.inl ⟨kvs,x,ha,rfl,e2.symm⟩,k _ H2 U2 (ex1.trans ex2) ?_⟩
   rw [e1];exact repB U2 H2 _
 | _=>cases e
theorem zkL {m m':Md}{td ty:TE}{f g:VX}(h:VE m ty f) (hg:VE m' td g):VE .shr (zkW ty td) (xDIn true f g):=by
 intro U O H σ ρ Q z s e k;obtain ⟨q,hq,e⟩:=Za.mp e;obtain ⟨p,hp,e⟩:=Za.mp e;refine h.bor U O H σ ρ _ q s hq fun w H1 U1 ex1 r1=>hg.bor U1 O H1 σ ρ _ p (s.ext ex1) hp fun v H2 U2 ex2 r2=>?_;cases p with
 | dct ks =>
  obtain ⟨a,kvs,rfl,ha,rk⟩:=r2;obtain ⟨x,hx,rfl⟩:=Zb.mp e;have hw:=ze8 r1 hx;subst hw;rcases rk.val x with ⟨n1,n2⟩|⟨p,u,e1,e2,ru⟩
  ·refine ⟨a,none,rfl,.inl ⟨kvs,x,ha,rfl,n2.symm⟩,k _ H2 U2 (ex1.trans ex2) ?_⟩
   rw [n1];exact repB U2 H2 _
  ·refine ⟨a,some u,rfl,.inl ⟨kvs,x,ha,rfl,e2.symm⟩,k _ H2 U2 (ex1.trans ex2) ?_⟩
   rw [e1];exact repB U2 H2 _
 | _=>cases e
theorem zml {A:Around}{k:Nat}(hr:Room k A):A.units + (3+1) < cLine:=Nat.lt_of_le_of_lt (Nat.add_le_add_left (by decide:4<=64) _) hr.units
open PySem.W
theorem zgg:∀{ns:List Int}{us:List Value},IntsAre us ns->Vals (ns.map V.int) us
 | _,_,.nil=>.nil
 | _,_,.cons n t h=>.cons ⟨t,rfl⟩ (zgg h)
theorem zdd:∀{ns:List Int}{us:List Value},us.length=ns.length->(∀(j:Nat) (v:Value),us[j]?=some v -> ∃n t,ns[j]?=some n/\v=Value.int n t)->IntsAre us ns
 | [],[],_,_=>.nil
 | [],_::_,h,_=>nomatch h
 | _::_,[],h,_=>nomatch h
 | n::ns,u::us,h,k=>by
  obtain ⟨m,t,e,rfl⟩:=k 0 u rfl;simp at e;subst e;exact .cons _ _ (zdd (by simpa using h) fun j v hv=>by simpa using k (j+1) v (by simpa using hv))
theorem ziM:∀{kvs:List (Key×V)}{vs:List (Key×Value)},KV kvs vs->kvs.map (·.1)=vs.map (·.1)
 | _,_,.nil=>rfl
 | _,_,.cons r t=>by rw [Zh,Zh,r.1,ziM t]
theorem zq9 {P:Program}{w:World}{n:Int}{v:Value}(h:(zaE P w).is (Sum.inl n) v=true):∃t,v=Value.int n t :=
 Value.isInt_shape (k:=n) (v:=v) h
def zs0:List V->Hp->VK->Prop:=fun xs H Q=>∃(a:Addr) (kvs:List (Key×V)) (ns:List Int),xs = [.ref a]/\Rd H a (.dK kvs)/\kvs.map (·.1)=ns.map Sum.inl/\ns.length < 64 /\
 ∀ns':List Int,ns'.Perm ns->ns'.Pairwise (· <= ·) -> ∀l,H l=none->Q (.ref l) (upd H l (.lst (ns'.map V.int)))
theorem zif {X:Cx}(hc:X.calm=true):zbL X (.builtin "sorted") zs0:=by
 intro pins s σ H xs us Q I r h;obtain ⟨a,kvs,ns,rfl,ha,hk,h64,q⟩:=h;obtain ⟨u,rfl,rx⟩:=vals1 r;cases rx;obtain ⟨z,hd,vs,rel,dd⟩:=zgY I.hok ha;have hlen:vs.length=ns.length:=by
  have e1:=rel.len;have e2:=congrArg List.length hk;simp only [Zd] at e2;omega
 refine Calls.call_function_entry kind_sorted plain_sorted entry_sorted (args_sorted1 _) ?_;unfold Builtin.«sorted»;refine wpAny_bind (m:=checkCount "sorted" 1 1 _) (wpAny_pure ?_);obtain ⟨ep,hat⟩:=dd.dictAt;refine wpAny_bind (kdu_collect (A:=X.A.in1) (kdl_dict (knd:=zaE X.prog X.w) (kvs:=vs) (ep:=ep) hd) (I.ok.hd hc) hat (by rw [hlen,sizeLine_eq];omega) fun h' tk acc hkk hacc=>?_);have hl:acc.toList.length=vs.length:=by rw [Array.length_toList];exact hacc.1
 refine wpAny_bind (wpAny_newList ?_ (by rw [hl,hlen,sizeLine_eq];omega));have hI:IntsAre acc.toList ns:=by
  refine zdd (by rw [hl,hlen]) fun j v hv=>?_;obtain ⟨k,x,hx,his⟩:=hacc.2 j v (by rw [<- Array.getElem?_toList];exact hv);have hkj:(vs.map (·.1))[j]?=some k:=by rw [Zj,hx];rfl
  rw [<- ziM rel,hk,Zj] at hkj;obtain ⟨n,hn,rfl⟩:=Zb.mp hkj;obtain ⟨t,rfl⟩:=zq9 his;exact ⟨n,t,hn,rfl⟩
 have hoL:(h'.push (seqObj "list" acc.toList.toArray 0)).get? h'.objs.size=some (seqObj "list" acc.toList.toArray 0):=Heap.get?_push_size _ rfl;refine wpAny_bind (wpAny_holding (wpAny_call_entry slot_list_sort ⟨_,hoL,rfl⟩ entry_list_sort (list_sort_tree hoL hI (by rw [hl,hlen];exact h64) fun out ns' a1 a2 a3=>⟨_,rfl,?_⟩) (args_list_sort _)));refine wpAny_pure ⟨_,rfl,?_⟩;have hlt:h'.objs.size < (h'.push (seqObj "list" acc.toList.toArray 0)).objs.size:=by rw [size_push'];exact Nat.lt_succ_self _
 obtain ⟨e,he⟩:=sortedHeap_at (out:=out) hoL;have I1:Inv X pins σ H { s with heap:=h',toks:=tk }:=I.kept (t':=tk) hkk;have kp:∀b o,h'.get? b=some o->(sortedHeap (h'.push (seqObj "list" acc.toList.toArray 0)) h'.objs.size acc.toList out).get? b=some o:=fun b o hb=>by
  have hb':=Heap.lt_size hb;rw [sortedHeap_old (Nat.ne_of_lt hb') (by rw [size_push'];exact Nat.lt_succ_of_lt hb')];exact Heap.get?_push_of_some _ hb
 refine ⟨.ref h'.objs.size,_,I1.laid (t':=tk) kp (Nat.le_refl _) (show za4 X.prog X.w _ _ _ (.lst (ns'.map V.int)) from ⟨?_,out.toList,e,zgg a1,by simpa using he⟩),rfl,q ns' a2 a3 _ (I1.hok.fresh (Nat.le_refl _))⟩;rw [Zd,a2.length_eq,sizeLine_eq];omega
end L2
namespace L2
theorem zmx {α:Type}{xs:List α}{i:Nat}{x:α}(h:xs[i]?=some x):xs.drop i=x::xs.drop (i+1):=by
 have hl:=(Zg.mp h).1;rw [List.drop_eq_getElem_cons hl];rw [Zc hl] at h;rw [Option.some.inj h]
end L2
namespace PySem
open Sem (wp)
end PySem
namespace L2
open PySem PySem.Spec PyProof.Rows PySem.W
end L2
namespace L2
open PySem PySem.Spec PyProof.Rows
theorem zcf:∀{a b:List Int},a.Perm b->a.Pairwise (· <= ·)->b.Pairwise (· <= ·)->a=b
 | [],b,p,_,_=>(List.perm_nil.mp p.symm).symm ▸ rfl
 | x::a,[],p,_,_=>nomatch (List.perm_nil.mp p)
 | x::a,y::b,p,ha,hb=>by
  have h1:=Zm1.mp ha;have h2:=Zm1.mp hb;have e:x=y:=by
   have hx:x∈y::b:=p.mem_iff.mp Zf;have hy:y∈x::a:=p.mem_iff.mpr Zf;have l1:y<=x:=by
    rcases Zk.mp hx with rfl|hx
    ·exact Int.le_refl _
    ·exact h2.1 x hx
   have l2:x<=y:=by
    rcases Zk.mp hy with rfl|hy
    ·exact Int.le_refl _
    ·exact h1.1 y hy
   omega
  subst e;rw [zcf ((List.perm_cons x).mp p) h1.2 h2.2]
def zkt:List (Key×PV)->Option (List Int)
 | []=>some []
 | (.inl k,_)::r=>(zkt r).map (k::·)
 | _=>none
theorem zh0 {U:AS}{H:Hp}:∀{ks:List (Key×PV)}{kvs:List (Key×V)}{ns:List Int},RepK U H ks kvs->zkt ks=some ns->kvs.map (·.1)=ns.map Sum.inl
 | [],kvs,ns,h,e=>by rw [zbo.mp h];cases e;rfl
 | (.inl k,p)::ks,kvs,ns,h,e=>by
  obtain ⟨v,r,rfl,_,h2⟩:=zaM.mp h;obtain ⟨ms,hm,rfl⟩:=Zb.mp e;rw [Zh,zh0 h2 hm];rfl
 | (.inr k,p)::ks,kvs,ns,h,e=>nomatch e
end L2
namespace L2
def subs:List Nat->List (List Nat)
 | []=>[[]]
 | x::xs=>subs xs++(subs xs).map (x::·)
theorem zgK:∀{xs pl:List Nat},pl.Sublist xs->pl∈subs xs
 | [],_,.slnil=>Zo1.mpr rfl
 | x::xs,pl,.cons _ h=>by unfold subs;exact List.mem_append_left _ (zgK h)
 | x::xs,_::pl,.cons₂ _ h=>by unfold subs;exact List.mem_append_right _ (Zs.mpr ⟨pl,zgK h,rfl⟩)
theorem zdO:∀(n k:Nat) {pl:List Nat},pl.Pairwise (· < ·)->(∀j∈pl,k<=j/\j < k+n)->pl.Sublist (List.range' k n)
 | 0,k,[],_,_=>.slnil
 | 0,k,j::pl,_,h=>by have:=h j (Zf ..);omega
 | n+1,k,[],_,_=>List.nil_sublist _
 | n+1,k,j::pl,hp,h=>by
  rw [List.range'_succ];have hp':=Zm1.mp hp;have h0:=h j (Zf ..);by_cases e:j=k
  ·subst e
   exact .cons₂ _ (zdO n (j+1) hp'.2 fun i hi=>by have:=hp'.1 i hi;have:=h i (Ze _ hi);omega)
  ·refine .cons _ (zdO n (k+1) hp fun i hi=>?_)
   rcases Zk.mp hi with rfl|hi
   ·omega
   ·have:=hp'.1 i hi;have:=h i (Ze _ hi);omega
end L2
namespace PySem
def tOf (pl:List Nat) (led:Bool):SetTable:={ mask:=7,place:=pl.toArray,dummies:=#[],finger:=0,led:=led,moves:=0,plain:=true }
def sChk (pl:List Nat) (led:Bool) (h:Nat):Bool:=match (tOf pl led).freeSlot (h:Int) with
 | some (j,false)=>let p:=SetTable.below pl.toArray j
  decide (j < 8)&&decide (p<=pl.length)&&decide ((pl.take p++j::pl.drop p).Pairwise (· < ·))
 | _=>false
theorem sAll (led:Bool):(L2.subs (List.range' 0 8)).all (fun pl=>decide (3 < pl.length) || (List.range 40).all fun h=>sChk pl led h)=true:=by cases led<;>decide +kernel
def wChk (pl:List Nat):Bool:=decide (SetTable.below pl.toArray 0=0)&&(List.range pl.length).all fun i=>decide (SetTable.below pl.toArray (pl.getD i 0+1)=i+1)
theorem wAll:(L2.subs (List.range' 0 8)).all (fun pl=>decide (4 < pl.length) || wChk pl)=true:=by decide +kernel
def Pl (pl:List Nat):Prop:=pl.Pairwise (· < ·) /\ ∀j∈pl,j < 8
theorem Pl.mem {pl:List Nat}(h:Pl pl):pl∈L2.subs (List.range' 0 8):=L2.zgK (L2.zdO 8 0 h.1 fun j hj=>⟨Nat.zero_le _,by simpa using h.2 j hj⟩)
theorem Pl.free {pl:List Nat}(hp:Pl pl) (hl:pl.length<=3) {h:Nat}(hh:h < 40) (led:Bool):∃j,(tOf pl led).freeSlot (h:Int)=some (j,false)/\SetTable.below pl.toArray j<=pl.length /\
  Pl (pl.take (SetTable.below pl.toArray j)++j::pl.drop (SetTable.below pl.toArray j)):=by
 have h1:=Zp1.mp (sAll led) pl hp.mem;rw [Bool.or_eq_true] at h1;rcases h1 with h1|h1
 ·have:=of_decide_eq_true h1;omega
 have h2:=Zp1.mp h1 h (Zt.mpr hh);unfold sChk at h2;split at h2
 ·rename_i j e
  simp only [Zc1,decide_eq_true_eq] at h2;refine ⟨j,e,h2.1.2,h2.2,fun i hi=>?_⟩;rcases Zd1.mp hi with hi|hi
  ·exact hp.2 i (List.mem_of_mem_take hi)
  ·rcases Zk.mp hi with rfl|hi
   ·exact h2.1.1
   ·exact hp.2 i (List.mem_of_mem_drop hi)
 ·cases h2
theorem Pl.walk {pl:List Nat}(hp:Pl pl) (hl:pl.length<=4):SetTable.below pl.toArray 0=0 /\ ∀i j,pl[i]?=some j->SetTable.below pl.toArray (j+1)=i+1:=by
 have h1:=Zp1.mp wAll pl hp.mem;rw [Bool.or_eq_true] at h1;rcases h1 with h1|h1
 ·have:=of_decide_eq_true h1;omega
 unfold wChk at h1;rw [Zc1] at h1;refine ⟨of_decide_eq_true h1.1,fun i j e=>?_⟩;have hi:=(Zg.mp e).1;have:=of_decide_eq_true (Zp1.mp h1.2 i (Zt.mpr hi));rw [Zy,e] at this;exact this
theorem zcN {pl:List Nat}{led:Bool}{n:Nat}(h:pl.length=n) (hn:n<=7):(tOf pl led).fits n=true:=by
 unfold SetTable.fits SetTable.fill tOf;simp [h];omega
theorem znk {pl:List Nat}{led:Bool}(h:pl.length<=4):(tOf pl led).tooFull=false:=by
 unfold SetTable.tooFull SetTable.fill tOf;simp;omega
theorem zl9 {pl:List Nat}(hp:Pl pl) (hl:pl.length<=3) {h:Nat}(hh:h < 40) (led:Bool) {es:Array (Int×Value)}(he:es.size=pl.length) (x:Value) :
  ∃pl' p,Pl pl' /\ pl'.length=pl.length+1/\layNew (tOf pl led) es (h:Int) x=(SetTable.insertAt es p ((h:Int),x),tOf pl' led,false,false):=by
 obtain ⟨j,e1,e2,e3⟩:=hp.free hl hh led;refine ⟨_,SetTable.below pl.toArray j,e3,?_,?_⟩
 ·simp;omega
 ·have hput:(tOf pl led).put j=(tOf (pl.take (SetTable.below pl.toArray j)++j::pl.drop (SetTable.below pl.toArray j)) led,SetTable.below pl.toArray j):=by
   have hi:SetTable.insertAt pl.toArray (SetTable.below pl.toArray j) j=(pl.take (SetTable.below pl.toArray j)++j::pl.drop (SetTable.below pl.toArray j)).toArray:=by
    apply Array.toList_inj.mp;rw [SetTable.toList_insertAt]
   unfold SetTable.put;show ((_:SetTable),_)=_;rw [show (tOf pl led).place=pl.toArray from rfl,hi];rfl
  have hsz:(SetTable.insertAt es (SetTable.below pl.toArray j) ((h:Int),x)).size=pl.length+1:=by
   have:=(SetTable.insertAt_perm es (SetTable.below pl.toArray j) ((h:Int),x)).length_eq;simpa [he] using this
  have hf:(tOf (pl.take (SetTable.below pl.toArray j)++j::pl.drop (SetTable.below pl.toArray j)) led).fits (pl.length+1)=true:=zcN (by simp;omega) (by omega);unfold layNew;rw [e1];simp only [hput,hsz,hf];unfold SetTable.orStandIn;rw [if_pos hf];rfl
theorem zf6 {n:Int}(h0:0<=n) (h1:n < 40):hashInt n=n:=by
 have h:∀k:Nat,k < 40->hashInt (k:Int)=k:=by decide +kernel
 obtain ⟨k,rfl⟩:=Int.eq_ofNat_of_zero_le h0;exact h k (by omega)
open PyProof.Rows
theorem zfM:entryFor table "set.__iter__" = some Builtin.«frozenset.__iter__»:=entryFor_alias (id':="frozenset.__iter__") (by kernel_rfl) (by kernel_rfl) (by kernel_rfl) (by kernel_rfl)
theorem zc6:entryFor table "set_iterator.__next__" = some Builtin.«set_iterator.__next__»:=entryFor_of_tree (by kernel_rfl)
theorem ziG (a:Value):checkBuiltinCall "set.__new__" { pos:=[.type "set",a] }=pure ():=by kernel_rfl
def zem (led:Bool) (a:Addr) (zs:List Int) (h:Heap):Prop:=∃(es:Array (Int×Value)) (ep:Nat) (pl:List Nat),
 h.get? a=some { cls:=.type "set",data:=.set es ep (tOf pl led) }/\es.toList.map (·.1)=zs/\IntsAre (es.toList.map (·.2)) zs/\Pl pl/\pl.length=zs.length/\zs.length<=4/\zs.Nodup /\ ∀z∈zs,0<=z/\z < 40
section
variable {prog:Program}{w:World}{A:Around}{E:Value->Shared->Prop}{s:Shared}
theorem zdI {Q:Bool->Shared->Prop}(h:Q (w.params.followText "set-order") s):wpAny (model prog w) A setsByText Q E s:=by
 unfold setsByText;exact wpAny_bind (wpAny_askSetting (wpAny_pure h))
theorem zek (a:Value) {Q₁:Value->Shared->Prop}(h:Q₁ (.ref s.heap.objs.size) { s with heap:=s.heap.push { cls:=.type "set",data:=.set #[] 0 (SetTable.fresh 0 0 (!w.params.followText "set-order")) } }) :
  codeAny (model prog w) A (Code.call (.builtin "set.__new__") { pos:=[.type "set",a] }) (wants Q₁ E) s:=by
 refine codeAny_call_builtin F.plain_set_new F.entry_set_new ?_;rw [ziG];refine wpAny_pure ?_;have f1:=F.called_set.sub;show wpAny _ _ (Builtin.Frozenset.newClass "set" _ >>= _) _ _ _;refine wpAny_bind ?_;unfold Builtin.Frozenset.newClass;show wpAny _ _ (isType (.type "set") >>= _) _ _ _;refine wpAny_bind ?_;show wpAny _ _ (pure true) _ _ _;refine wpAny_pure ?_;show wpAny _ _ (isSubtype (.type "set") (.type "set") >>= _) _ _ _;rw [f1];refine wpAny_bind (wpAny_pure (wpAny_pure ?_));show wpAny _ _ (newSet (.type "set") >>= _) _ _ _;refine wpAny_bind ?_;unfold newSet;refine wpAny_bind (zdI ?_);exact wpAny_newObj_type (wpAny_pure h)
end
section
variable {prog:Program}{w:World}{A:Around}{E:Value->Shared->Prop}{s:Shared}
theorem ints_len {vs:List Value}{zs:List Int}(h:IntsAre vs zs):vs.length=zs.length:=by
 induction h with
 | nil=>rfl
 | cons n t h ih=>simp [ih]
theorem isInt_iff {n m:Int}{t:Tok}:Value.isInt n (Value.int m t)=true↔n=m:=by
 constructor
 ·intro h
  obtain ⟨t',e⟩:=Value.isInt_shape (k:=n) (v:=Value.int m t) h;cases e;rfl
 ·rintro rfl
  simp [Value.isInt]
theorem zn8 {vs:List Value}{zs:List Int}(h:IntsAre vs zs) (n:Int):(∃v∈vs,Value.isInt n v=true)↔n∈zs:=by
 induction h with
 | nil=>simp
 | cons m t h ih =>
  constructor
  ·rintro ⟨v,hv,hi⟩
   rcases Zk.mp hv with rfl|hv
   ·rw [isInt_iff.mp hi];exact Zf ..
   ·exact Ze _ (ih.mp ⟨v,hv,hi⟩)
  ·intro hn
   rcases Zk.mp hn with rfl|hn
   ·exact ⟨_,Zf ..,isInt_iff.mpr rfl⟩
   ·obtain ⟨v,hv,hi⟩:=ih.mpr hn
    exact ⟨v,Ze _ hv,hi⟩
theorem zh8 {es:List (Int×Value)}{zs:List Int}{n:Int}(h:IntsAre (es.map (·.2)) zs):es.findIdx? (fun e=>Value.isInt n e.2)=none↔n∉zs:=by
 rw [List.findIdx?_eq_none_iff,<- zn8 h n];constructor
 ·rintro k ⟨v,hv,hi⟩
  obtain ⟨e,he,rfl⟩:=Zs.mp hv;have:=k e he;rw [hi] at this;cases this
 ·intro k e he
  rcases Bool.eq_false_or_eq_true (Value.isInt n e.2) with z|z
  ·exact absurd ⟨e.2,Zs.mpr ⟨e,he,rfl⟩,z⟩ k
  ·exact z
theorem zmi {es es':List (Int×Value)}(hp:es.Perm es') (h:∀e∈es',∃t,e.2=Value.int e.1 t):IntsAre (es.map (·.2)) (es.map (·.1)):=by
 have h':∀e∈es,∃t,e.2=Value.int e.1 t:=fun e he=>h e (hp.mem_iff.mp he);clear hp h
 induction es with
 | nil=>exact .nil
 | cons e es ih =>
  obtain ⟨t,ht⟩:=h' e (Zf ..);rw [Zh,Zh,ht];exact .cons _ _ (ih fun e he=>h' e (Ze _ he))
theorem ints_each:∀{es:List (Int×Value)} ,IntsAre (es.map (·.2)) (es.map (·.1)) -> ∀e∈es,∃t,e.2=Value.int e.1 t
 | [],_,e,he=>by cases he
 | (z,v)::es,h,e,he=>by
  rw [Zh,Zh] at h;generalize hm:es.map (·.2)=vs at h;generalize hz:es.map (·.1)=zs at h;simp only at h;cases h with
  | cons n t h =>
   rcases Zk.mp he with rfl|he
   ·exact ⟨t,rfl⟩
   ·subst hm hz
    exact ints_each h e he
theorem zk2 {led:Bool}{a:Addr}{zs:List Int}{n:Int}{tk:Tok}{Q:Bool->Shared->Prop}(hs:zem led a zs s.heap) (h0:0<=n) (h40:n < 40) (hl:n∈zs\/zs.length<=3)
  (h:∀h' zs' b,Heap.SameBut a s.heap h' -> zem led a zs' h' -> (if n∈zs then zs'=zs else zs'.Perm (n::zs))->Q b { s with heap:=h',toks:=s.toks+1 }) :
  wpAny (model prog w) A (setAdd a (.int n tk)) Q E s:=by
 obtain ⟨es,ep,pl,e1,e2,e3,e4,e5,e6,e7,e8⟩:=hs;have hn:hashInt n=n:=zf6 h0 h40;have hlen:es.size=zs.length:=by
  have:=congrArg List.length e2;simpa using this
 have hfit:(tOf pl led).fits es.size=true:=zcN (by omega) (by omega);have heach:=ints_each (es:=es.toList) (by rw [e2];exact e3);have hel:ElemsOf (intKind prog w) es.toList:=fun e he=>by
  obtain ⟨t,ht⟩:=heach e he;have hz:e.1∈zs:=by rw [<- e2];exact Zs.mpr ⟨e,he,rfl⟩
  refine ⟨⟨e.1,?_,?_⟩,?_⟩
  ·show Value.isInt e.1 e.2=true
   rw [ht];exact isInt_iff.mpr rfl
  ·exact (zf6 (e8 _ hz).1 (e8 _ hz).2).symm
  ·rw [ht];rfl
 have hk:(intKind prog w).is n (Value.int n tk)=true:=(isInt_iff (t:=tk)).mpr rfl;unfold setAdd;refine wpAny_holding (wpAny_bind ((intKind prog w).pyHash (k:=n) hk ?_));show wpAny _ _ (setAddHashed a (.int n tk) (hashInt n)) _ _ _;unfold setAddHashed;refine wpAny_holding ?_;rw [setAddHashedIn.eq_def];show wpAny _ _ (setState a >>= _) _ _ _;refine wpAny_bind (wpAny_setState_of e1 rfl hfit ?_);have hby:byScan (.int n tk) es=true:=by
  unfold byScan;rw [Zc1,Zc1];refine ⟨⟨rfl,Zn (by rw [hlen];have:scanBound > 10:=(by decide);omega)⟩,?_⟩;rw [Array.all_eq_true_iff_forall_mem];intro e he;exact (hel e (by simpa using he)).2
 show wpAny _ _ (if byScan (.int n tk) es=true then _ else _) _ _ _;rw [if_pos hby];refine wpAny_bind ?_;unfold setAddByScan;refine wpAny_bind (wpAny_rule ?_);refine wpAny_bind (wpAny_setScan_of (knd:=intKind prog w) (k:=n) hk e1 rfl hfit hel ?_);by_cases hm:n∈zs
 ·cases hf:es.toList.findIdx? (fun e=>Value.isInt n e.2) with
  | none=>exact absurd hm ((zh8 (by rw [<- e2] at e3;rw [e2] at e3;exact e3)).mp hf)
  | some j =>
   rw [show List.findIdx? (fun e:Int×Value=>(intKind prog w).is n e.snd) es.toList=some j from hf];refine wpAny_pure (wpAny_pure ?_);refine h s.heap zs false (Heap.SameBut.refl _ _) ⟨es,ep,pl,e1,e2,e3,e4,e5,e6,e7,e8⟩ ?_;rw [if_pos hm]
 ·have hf:es.toList.findIdx? (fun e=>Value.isInt n e.2)=none:=(zh8 e3).mpr hm
  rw [show List.findIdx? (fun e:Int×Value=>(intKind prog w).is n e.snd) es.toList=none from hf];have hl3:zs.length<=3:=hl.resolve_left hm;obtain ⟨k,rfl⟩:=Int.eq_ofNat_of_zero_le h0;obtain ⟨pl',p,q1,q2,q3⟩:=zl9 e4 (by omega) (h:=k) (by omega) led (es:=es) (by omega) (.int (k:Int) tk);rw [hn];simp only [q3];refine wpAny_bind (wpAny_pure ?_);rw [if_pos (show (tOf pl' led).plain=true from rfl),hashByValue_scannable 8 (show (Value.int (k:Int) tk).scannable=true from rfl)];refine wpAny_bind (wpAny_pure ?_);rw [show plainKind (Value.int (k:Int) tk)=true from rfl];simp only [if_true,znk (show pl'.length<=4 by omega),Bool.and_false,Bool.false_eq_true,if_false];have hsz:(SetTable.insertAt es p ((k:Int),Value.int (k:Int) tk)).toList.Perm (es.push ((k:Int),Value.int (k:Int) tk)).toList:=SetTable.insertAt_perm ..;have hsz':(SetTable.insertAt es p ((k:Int),Value.int (k:Int) tk)).size=es.size+1:=by simpa using hsz.length_eq
  refine wpAny_bind (wpAny_storeSet_of e1 rfl ?_ (by rw [hsz',sizeLine_eq];omega));refine wpAny_pure (wpAny_pure ?_);have hget:(s.heap.update a (Obj.putSet (SetTable.insertAt es p ((k:Int),Value.int (k:Int) tk)) (tOf pl' led))).get? a=some { cls:=.type "set",data:=.set (SetTable.insertAt es p ((k:Int),Value.int (k:Int) tk)) (ep+1) (tOf pl' led) }:=by
   rw [Heap.get?_update_self _ e1 (by rfl)];rfl
  have hzp:((SetTable.insertAt es p ((k:Int),Value.int (k:Int) tk)).toList.map (·.1)).Perm ((k:Int)::zs):=by
   refine (hsz.map _).trans ?_;rw [Array.toList_push,Zr,e2];exact List.perm_append_comm
  refine h _ ((SetTable.insertAt es p ((k:Int),Value.int (k:Int) tk)).toList.map (·.1)) true (Heap.SameBut.update _ _ _) ⟨_,ep+1,pl',hget,rfl,?_,q1,?_,?_,?_,?_⟩ ?_
  ·refine zmi hsz fun e he=>?_
   rw [Array.toList_push] at he;rcases Zd1.mp he with he|he
   ·exact heach e he
   ·rw [Zo1.mp he];exact ⟨tk,rfl⟩
  ·rw [hzp.length_eq];simp;omega
  ·rw [hzp.length_eq];simp;omega
  ·exact hzp.nodup_iff.mpr (List.nodup_cons.mpr ⟨hm,e7⟩)
  ·intro z hz
   rcases Zk.mp (hzp.mem_iff.mp hz) with rfl|hz
   ·exact ⟨h0,h40⟩
   ·exact e8 z hz
  ·rw [if_neg hm];exact hzp
end
theorem zny (a:Value):(Code.builtin "type.__call__" { pos:=[Value.type "set",a] }).quiet=true:=by kernel_rfl
theorem zsO:isSubtype (.type "list") (.type "set")=pure false:=by kernel_rfl
theorem zsP:isSubtype (.type "list") (.type "frozenset")=pure false:=by kernel_rfl
section
variable {prog:Program}{w:World}{A:Around}{E:Value->Shared->Prop}{s:Shared}
theorem zg4 {a:Value}{Q Q₁:Value->Shared->Prop}
  (hnew:codeAny (model prog w) A.in1 (Code.call (.builtin "set.__new__") { pos:=[.type "set",a] }) (wants Q₁ E) s)
  (h:∀obj s₁,Q₁ obj s₁->s₁.TypeIs obj "set" /\ wpAny (model prog w) A.in1.in1 (Builtin.«set.__init__» { pos:=[obj,a] })
   (fun fin s'=>match fin with
    | .done f=>wants (fun r s₂=>r=Value.none/\Q obj s₂) E (Except.ok f) s'
    | .again c'=>c'.quiet=true/\codeAny (model prog w) A.in1 c' (wants (fun r s₂=>r=Value.none/\Q obj s₂) E) s')
   (fun e s'=>wants (fun r s₂=>r=Value.none/\Q obj s₂) E (Except.error e) s') s₁) :
  wpAny (model prog w) A (call (.type "set") [a]) Q E s:=by
 have f1:=F.called_set.notType;have f2:=F.called_set.canCreate;obtain ⟨c,tl,f3⟩:=F.called_set.mro;have f4:=F.called_set.made;have f5:=F.called_set.plain;have f6:=F.called_set.sub;have f7:=F.typeCall_set_1 a;refine wpAny_call ?_;refine codeAny_of_tree ?_
 repeat (any_goals (first|assumption|wp_step))
 refine ⟨zny a,?_⟩;refine codeAny_builtin F.entry_type_call ?_;rw [show A.under (Code.builtin "type.__call__" { pos:=[.type "set",a] })=A.in1 from rfl];unfold Builtin.«type.__call__»;simp only [f1,Bool.false_eq_true,if_false,f2,f7,pure_bind,f3,List.isEmpty_cons,f4];refine wpAny_bind (wpAny_holding (wpAny_call ?_));refine codeAny_mono hnew fun r s1 hr=>?_
 match r,hr with
 | .ok (.ret obj),hr =>
  obtain ⟨hty,hin⟩:=h obj s1 hr;refine wpAny_bind (wpAny_isInstance hty f6 ?_);simp only [Bool.not_true,Bool.false_eq_true,if_false];refine wpAny_bind (wpAny_holding ?_);refine wpAny_callSpecial?_slotG hty ⟨F.slot_set_init.lookup,F.slot_set_init.bind,F.slot_set_init.check⟩ (wpAny_call ?_);refine codeAny_call_builtin F.slot_set_init.plain F.entry_set_init (check_set_init_1 hty ?_);have key:∀(r:Result) (s2:Shared),wants (fun r s₂=>r=Value.none/\Q obj s₂) E r s2->(match r with
    | Except.ok (Flow.ret v)=>wpAny (model prog w) A.in1
       (match some v with
       | none=>ret obj
       | some r =>
        if (r != Value.none)=true then do
         rule "type.call.init-returned-value"
         let __do_lift <- typeNameOf r
         raiseErrorMade "TypeError"
           (toString "__init__() should return None, not '"++toString __do_lift++toString "'")
         ret obj
        else ret obj)
       (fun fin s' =>
        match fin with
        | Fin.done f =>
         match Except.ok f with
         | Except.ok (Flow.ret v)=>Q v s'
         | Except.ok a=>False
         | Except.error e=>E e s'
        | Fin.again c' =>
         c'.quiet=true /\
          codeAny (model prog w) A c'
           (fun r s' =>
            match r with
            | Except.ok (Flow.ret v)=>Q v s'
            | Except.ok a=>False
            | Except.error e=>E e s')
           s') (fun e s'=>E e s') s2
    | Except.ok a=>False
    | Except.error e=>E e s2):=by
   intro r s2 hr
   match r,hr with
   | .ok (.ret v),hr =>
    obtain ⟨rfl,hq⟩:=hr;exact wpAny_pure hq
   | .error e,hr=>exact hr
  refine wpAny_mono hin (fun fin s2 hf=>?_) (fun e s2 hf=>key _ _ hf);cases fin with
  | done f=>exact key _ _ hf
  | again c'=>exact ⟨hf.1,codeAny_mono hf.2 key⟩
 | .error e,hr=>exact hr
end
open PySem.W PySem.Spec
theorem zce:plainId "set.update.loop" = true:=by decide +kernel
section
variable {prog:Program}{w:World}{A:Around}{R:Result->Shared->Prop}{l it a:Addr}{items:Array Value}{ns:List Int}{led:Bool}
theorem zem.same {zs:List Int}{h h':Heap}(hs:zem led a zs h) (k:∀o,h.get? a=some o->h'.get? a=some o):zem led a zs h':=by
 obtain ⟨es,ep,pl,e1,r⟩:=hs;exact ⟨es,ep,pl,k _ e1,r⟩
theorem zid (hh:A.handled=none) (hia:it≠a) (hla:l≠a) (hli:l≠it):∀(n i:Nat) (s:Shared) (zs:List Int),items.size - i=n->i<=items.size->s.heap.IsListIter it l i->s.heap.IsList l items->zem led a zs s.heap->zs.length+n<=4 ->
  (∀j,j < items.size -> ∃z t,items[j]?=some (.int z t)/\ns[j]?=some z/\0<=z/\z < 40)->ns.length=items.size ->
  (∀h' t' zs',(∀b o,b≠it->b≠a->s.heap.get? b=some o->h'.get? b=some o)->zem led a zs' h' -> (∀x,x∈zs'↔x∈zs\/x∈ns.drop i)->R (.ok (.ret .none)) { s with heap:=h',toks:=t' }) ->
  codeAny (model prog w) A (.builtin "set.update.loop" ⟨[.ref a,.ref it],[]⟩) R s:=by
 intro n
 induction n with
 | zero =>
  intro i s zs hn hi hit hl hd hz hI hp hR;have hin:i=items.size:=by omega
  refine codeAny_builtin PyProof.Rows.F.entry_set_update_loop ?_;rw [Around.under_plainId zce _];show wpAny _ A.in1 (pyNext (.ref it) >>= _) _ _ s;refine wpAny_bind (wpAny_pyNext_list_end (show A.in1.handled=none from hh) hit hl (by simp [hin]) fun h1 hs1=>?_);refine wpAny_pure ?_;have:=hR h1 s.toks zs (fun b o hb _ e=>hs1 b o hb e) (hd.same fun o e=>hs1 _ o (Ne.symm hia) e) (by
   rw [List.drop_of_length_le (by omega)];simp)
  exact this
 | succ n ih =>
  intro i s zs hn hi hit hl hd hz hI hp hR;have hlt:i < items.size:=by omega
  obtain ⟨z,t,e1,e2,e3,e4⟩:=hI i hlt;refine codeAny_builtin PyProof.Rows.F.entry_set_update_loop ?_;rw [Around.under_plainId zce _];show wpAny _ A.in1 (pyNext (.ref it) >>= _) _ _ s;refine wpAny_bind (wpAny_pyNext_list_item hit hl e1 fun h1 hit1 hs1=>?_);have hd1:zem led a zs h1:=hd.same fun o e=>(hs1.2 a (Ne.symm hia)).trans e;refine wpAny_bind (wpAny_holding (zk2 hd1 e3 e4 (.inr (by omega)) fun h2 zs2 b hs2 hd2 hz2=>?_));refine wpAny_pure ⟨plainId_quiet zce _,?_⟩;have hlen2:zs2.length<=zs.length+1:=by
   by_cases hm:z∈zs
   ·rw [if_pos hm] at hz2;rw [hz2];omega
   ·rw [if_neg hm] at hz2;rw [hz2.length_eq];simp
  refine ih (i+1) _ zs2 (by omega) hlt (hit1.at fun o e=>(hs2.2 it hia).trans e) ((hl.extBut hs1.extBut hli).extBut hs2.extBut hla) hd2 (by omega) hI hp fun h' t' zs' hk hd' hm'=>?_;refine hR h' t' zs' (fun b o hb1 hb2 e=>hk b o hb1 hb2 ((hs2.2 b hb2).trans ((hs1.2 b hb1).trans e))) hd' fun x=>?_;rw [hm' x,L2.zmx e2,Zk];by_cases hm:z∈zs
  ·rw [if_pos hm] at hz2;rw [hz2]
   constructor
   ·rintro (h|h)
    ·exact .inl h
    ·exact .inr (.inr h)
   ·rintro (h|rfl|h)
    ·exact .inl h
    ·exact .inl hm
    ·exact .inr h
  ·rw [if_neg hm] at hz2;rw [hz2.mem_iff,Zk]
   constructor
   ·rintro ((rfl|h)|h)
    ·exact .inr (.inl rfl)
    ·exact .inl h
    ·exact .inr (.inr h)
   ·rintro (h|rfl|h)
    ·exact .inl (.inr h)
    ·exact .inl (.inl rfl)
    ·exact .inr h
end
section
variable {prog:Program}{w:World}{A:Around}{E:Value->Shared->Prop}{s:Shared}
theorem ziX {l:Addr}{items:Array Value}{ns:List Int}{Q:Value->Shared->Prop}(hh:A.handled=none) (hl:s.heap.IsList l items) (hs:items.size<=4) (hp:ns.length=items.size)
  (hI:∀j,j < items.size -> ∃z t,items[j]?=some (.int z t)/\ns[j]?=some z/\0<=z/\z < 40)
  (h:∀h' t' zs,(∀b o,s.heap.get? b=some o->h'.get? b=some o)->zem (!w.params.followText "set-order") s.heap.objs.size zs h' -> (∀x,x∈zs↔x∈ns)->Q (.ref s.heap.objs.size) { s with heap:=h',toks:=t' }) :
  wpAny (model prog w) A (call (.type "set") [.ref l]) Q E s:=by
 have hlt:l < s.heap.objs.size:=by
  obtain ⟨o,h1,_⟩:=hl;exact Heap.lt_size h1
 refine zg4 (Q₁:=fun obj s₁=>obj=.ref s.heap.objs.size/\s₁ = { s with heap:=s.heap.push { cls:=.type "set",data:=.set #[] 0 (SetTable.fresh 0 0 (!w.params.followText "set-order")) } }) (zek _ ⟨rfl,rfl⟩) ?_;rintro obj s₁ ⟨rfl,rfl⟩;have hnew:zem (!w.params.followText "set-order") s.heap.objs.size [] (s.heap.push { cls:=.type "set",data:=.set #[] 0 (SetTable.fresh 0 0 (!w.params.followText "set-order")) }) :=
  ⟨#[],0,[],Heap.get?_push_size _ rfl,rfl,.nil,⟨.nil,fun j hj=>by cases hj⟩,rfl,by decide,List.nodup_nil,fun z hz=>by cases hz⟩
 have hty:∀tk,(⟨s.heap.push { cls:=.type "set",data:=.set #[] 0 (SetTable.fresh 0 0 (!w.params.followText "set-order")) },s.gens,s.drawn,tk,s.os⟩:Shared).TypeIs (.ref s.heap.objs.size) "set":=fun tk=>⟨_,Heap.get?_push_size _ rfl,rfl⟩
 refine ⟨hty _,?_⟩;unfold Builtin.«set.__init__»;refine wpAny_bind (wpAny_pure ?_);refine wpAny_bind ?_;unfold typeNameOfCut;have hT:=hty s.toks;have hT2:(⟨s.heap.push { cls:=.type "set",data:=.set #[] 0 (SetTable.fresh 0 0 (!w.params.followText "set-order")) },s.gens,s.drawn,s.toks,s.os⟩:Shared).TypeIs (.ref l) "list":=by
  obtain ⟨o,h1,h2,_⟩:=hl;exact ⟨o,Heap.get?_push_of_some _ h1,h2⟩
 have g1:=zsO;have g2:=zsP;obtain ⟨hp0,g,d,tk,os⟩:=s;have hst:(hp0.push { cls:=.type "set",data:=.set #[] 0 (SetTable.fresh 0 0 (!w.params.followText "set-order")) }).get? hp0.objs.size=some { cls:=.type "set",data:=.set #[] 0 (SetTable.fresh 0 0 (!w.params.followText "set-order")) }:=Heap.get?_push_size _ rfl;have hl1:(hp0.push { cls:=.type "set",data:=.set #[] 0 (SetTable.fresh 0 0 (!w.params.followText "set-order")) }).IsList l items:=hl.push _
 repeat (any_goals (first|assumption|((with_reducible show wpAny _ _ (pyIter (.ref l)) _ _ _);refine wpAny_pyIter_list hl1 ?_)|((with_reducible show wpAny _ _ (runValue _) _ _ _);fail)|wp_step))
 have hsz:(hp0.push { cls:=.type "set",data:=.set #[] 0 (SetTable.fresh 0 0 (!w.params.followText "set-order")) }).objs.size=hp0.objs.size+1:=by rw [size_push']
 change l < hp0.objs.size at hlt;have hd1:zem (!w.params.followText "set-order") hp0.objs.size [] ((hp0.push { cls:=.type "set",data:=.set #[] 0 (SetTable.fresh 0 0 (!w.params.followText "set-order")) }).push { cls:=.type "list_iterator",data:=.fields #[.ref l,.int 0 0] }):=hnew.same fun o e=>Heap.get?_push_of_some _ e;refine zid (A:=A.in1.in1) (led:=!w.params.followText "set-order") (l:=l) (it:=(hp0.push { cls:=.type "set",data:=.set #[] 0 (SetTable.fresh 0 0 (!w.params.followText "set-order")) }).objs.size) (a:=hp0.objs.size) (items:=items) (ns:=ns) hh (by rw [hsz];exact Nat.succ_ne_self _) (Nat.ne_of_lt hlt) (by rw [hsz];exact Nat.ne_of_lt (Nat.lt_succ_of_lt hlt)) items.size 0 _ [] (by omega) (Nat.zero_le _)
  ⟨_,Heap.get?_push_size _ rfl,rfl,rfl⟩ (hl1.push _) hd1 (by simpa using hs) hI hp fun h' t' zs hk hd' hm=>?_
 refine wpAny_pure (wpAny_pure ⟨rfl,?_⟩);refine h h' t' zs (fun b o e=>?_) hd' fun x=>by simpa using hm x
 have hb:b < hp0.objs.size:=Heap.lt_size e;exact hk b o (by rw [hsz];exact Nat.ne_of_lt (Nat.lt_succ_of_lt hb)) (Nat.ne_of_lt hb) (Heap.get?_push_of_some _ (Heap.get?_push_of_some _ e))
end
theorem zdS:typeLookup (.type "set_iterator") (Str.ofString "__next__")=pure (some (.builtin "set_iterator.__next__")):=by rw [typeLookup_type,builtinLookup_eq_fast];kernel_rfl
theorem zb1:Slot "set_iterator" (Str.ofString "__next__") "set_iterator.__next__":=Slot.of (owner:="set_iterator") (n:="__next__") zdS (by kernel_rfl) (by kernel_rfl) (by kernel_rfl) (.inl (by kernel_rfl)) (by kernel_rfl) (by decide +kernel)
theorem zkr:typeLookup (.type "set_iterator") (Str.ofString "__iter__")=pure (some (.builtin "set_iterator.__iter__")):=by rw [typeLookup_type,builtinLookup_eq_fast];kernel_rfl
theorem zdX:Slot "set_iterator" (Str.ofString "__iter__") "set_iterator.__iter__":=Slot.of (owner:="set_iterator") (n:="__iter__") zkr (by kernel_rfl) (by kernel_rfl) (by kernel_rfl) (.inl (by kernel_rfl)) (by kernel_rfl) (by decide +kernel)
theorem zfq (a:Value):argsOk "set_iterator.__next__" { pos:=[a] }:=by kernel_rfl
theorem zsN:isSubtype (.type "set") (.type "set")=pure true:=F.called_set.sub
section
variable {prog:Program}{w:World}{A:Around}{E:Value->Shared->Prop}{s:Shared}
theorem zn9 {r:Addr}{Q:Bool->Shared->Prop}(hT:s.TypeIs (.ref r) "set") (h:Q false s):wpAny (model prog w) A (Builtin.List.listLengthHint (.ref r)) Q E s:=by
 have f1:=F.slot_set_len.lookup;have f2:splitId "set.__len__" = some ("set","__len__"):=by kernel_rfl
 have f3:=zsN;unfold Builtin.List.listLengthHint;refine wpAny_bind (wpAny_specialOf hT f1 ?_);simp -zeta only [f2];refine wpAny_bind (wpAny_isInstance hT f3 ?_);simp -zeta only [Bool.not_true,Bool.false_eq_true,if_false];split
 ·refine wpAny_bind (wpAny_typeOf hT ?_)
  exact wpAny_pure h
 ·rename_i hne
  exact absurd (by kernel_rfl) hne
theorem zn6 {a:Addr}{es:Array (Int×Value)}{ep:Nat}{pl:List Nat}{led:Bool}{Q:Value->Shared->Prop}(ho:s.heap.get? a=some { cls:=.type "set",data:=.set es ep (tOf pl led) }) (hz:es.size=pl.length) (hl:pl.length<=4)
  (h:Q (.ref s.heap.objs.size) { s with heap:=s.heap.push { cls:=.type "set_iterator",data:=.fields #[rawInt 0,rawInt 0,.ref a,rawInt es.size,rawInt ep] } }) :
  wpAny (model prog w) A (pyIter (.ref a)) Q E s:=by
 have hT:s.TypeIs (.ref a) "set":=⟨_,ho,rfl⟩
 have hf:(tOf pl led).fits es.size=true:=zcN hz.symm (by omega);refine wpAny_pyIter_slot hT F.slot_set_iter (wpAny_call_entry F.slot_set_iter hT zfM ?_ (F.args_set_iter_1 _));unfold Builtin.«frozenset.__iter__»;refine wpAny_bind (m:=Builtin.Frozenset.slot0 _ _) (wpAny_pure ?_);refine wpAny_bind (m:=Builtin.Frozenset.sizeOf _) ?_;unfold Builtin.Frozenset.sizeOf setEntries;refine wpAny_bind (wpAny_bind (wpAny_setState_of ho rfl hf (wpAny_pure (wpAny_pure ?_))));refine wpAny_bind (m:=setDrawn _) ?_;unfold setDrawn;refine wpAny_bind (wpAny_setState_of ho rfl hf (wpAny_bind (zdI (wpAny_pure ?_))));have hd:∀b:Bool,(b&&false)=false:=by intro b;cases b<;>rfl
 show wpAny _ _ (if ((!w.params.followText "set-order")&&false)=true then _ else _) _ _ _;rw [hd];simp only [Bool.false_eq_true,if_false,pure_bind];refine wpAny_bind (m:=setEpoch _) ?_;unfold setEpoch;refine wpAny_bind (wpAny_setState_of ho rfl hf (wpAny_pure ?_));unfold newFields;refine wpAny_bind (wpAny_newObj_type ?_);refine wpAny_pure ⟨_,rfl,"set_iterator",_,⟨_,Heap.get?_push_size _ rfl,rfl⟩,zdS,h⟩
end
theorem ziZ (a:Value):argsOk "set_iterator.__iter__" { pos:=[a] }:=by kernel_rfl
theorem zgX:entryFor table "set_iterator.__iter__" = some Builtin.«dict_keyiterator.__iter__»:=entryFor_alias (id':="dict_keyiterator.__iter__") (by kernel_rfl) (by kernel_rfl) (by kernel_rfl) (by kernel_rfl)
def zcc (byText:Bool) (pl:List Nat) (i:Nat):Nat:=if byText then 0 else match i with
 | 0=>0
 | i+1=>pl.getD i 0+1
def sOrd (w:World) (a:Addr) (ep:Nat) (es:Array (Int×Value)):Array (Int×Value):=if w.params.followText "set-order" then pickOrder (w.params.setOrder a ep) es else es
section
variable {prog:Program}{w:World}{A:Around}{E:Value->Shared->Prop}{s:Shared}
theorem zfR {a:Addr}{es:Array (Int×Value)}{ep:Nat}{pl:List Nat}{i:Nat}{Q:Option (Value×Nat)->Shared->Prop}
  (ho:s.heap.get? a=some { cls:=.type "set",data:=.set es ep (tOf pl (!w.params.followText "set-order")) }) (hz:es.size=pl.length) (hl:pl.length<=4) (hp:Pl pl) (hi:i<=es.size)
  (h:Q (((sOrd w a ep es)[i]?).map fun e=>(e.2,zcc (w.params.followText "set-order") pl (i+1))) s) :
  wpAny (model prog w) A (setNext a (zcc (w.params.followText "set-order") pl i) i ep) Q E s:=by
 have hf:(tOf pl (!w.params.followText "set-order")).fits es.size=true:=zcN hz.symm (by omega);unfold setNext;refine wpAny_bind (wpAny_setState_of ho rfl hf (wpAny_bind (zdI ?_)));cases hb:w.params.followText "set-order" with
 | true =>
  rw [hb] at h ho;simp only [if_true,bne_self_eq_false,Bool.false_eq_true,if_false];refine wpAny_bind ?_;unfold setWalk;refine wpAny_bind (wpAny_setState_of ho rfl (by rw [hb] at hf;exact hf) (wpAny_bind (zdI ?_)));rw [hb];simp only [if_true];refine wpAny_bind (wpAny_askSetting (wpAny_pure (wpAny_pure ?_)));unfold sOrd at h;rw [hb,if_pos rfl] at h;exact h
 | false =>
  rw [hb] at h ho;simp only [Bool.false_eq_true,if_false];unfold sOrd at h;rw [hb,if_neg (by decide)] at h;split
  ·rename_i hd
   change (!true&&decide (es.size > 1))=true at hd;simp at hd
  ·refine wpAny_bind (wpAny_pure (wpAny_pure ?_))
   have hbel:SetTable.below pl.toArray (zcc false pl i)=i:=by
    cases i with
    | zero=>exact (hp.walk hl).1
    | succ i =>
     have hlt:i < pl.length:=by omega
     have e:pl[i]?=some pl[i]:=Zc hlt;have:=(hp.walk hl).2 i _ e;have e':zcc false pl (i+1)=pl[i] + 1:=by
      unfold zcc;simp [Zy,e]
     rw [e'];exact this
   show Q (match es[SetTable.below pl.toArray (zcc false pl i)]?,pl.toArray[SetTable.below pl.toArray (zcc false pl i)]? with
     | some (fst,x),some j=>some (x,j+1)
     | x,x_1=>none) s
   rw [hbel];by_cases hlt:i < es.size
   ·have e1:es[i]?=some es[i]:=Array.getElem?_eq_getElem hlt
    have e2:pl.toArray[i]?=some (pl[i]'(by omega)):=by simp [Zc (show i < pl.length by omega)]
    rw [e1] at h ⊢;rw [e2];have e3:zcc false pl (i+1)=pl[i]'(by omega) + 1:=by
     unfold zcc;simp [Zy,Zc (show i < pl.length by omega)]
    rw [Option.map_some,e3] at h;exact h
   ·have e1:es[i]?=none:=Array.getElem?_eq_none (by omega)
    rw [e1] at h ⊢;exact h
theorem zcM {α:Type}:∀(l:List α) (i:Nat) (h:i < l.length),(l[i]::l.eraseIdx i).Perm l
 | x::l,0,h=>.refl _
 | x::l,i+1,h=>by
  have:=zcM l i (by simpa using h);exact (List.Perm.swap x _ _).trans (this.cons x)
theorem zc3 {α:Type}(next:Nat->Nat) (xs:Array α):(pickOrder next xs).toList.Perm xs.toList:=by
 have key:∀(fuel k:Nat) (left:List α) (out:Array α),left.length<=fuel->(pickOrder.go next fuel k left out).toList.Perm (out.toList++left):=by
  intro fuel
  induction fuel with
  | zero=>intro k left out h;cases left with
   | nil=>simp [pickOrder.go]
   | cons x l=>simp at h
  | succ fuel ih =>
   intro k left out h;cases left with
   | nil=>simp [pickOrder.go]
   | cons x l =>
    have hm:next k % (x::l).length < (x::l).length:=Nat.mod_lt _ (by simp);have e:(x::l)[next k % (x::l).length]?=some ((x::l)[next k % (x::l).length]):=Zc hm;unfold pickOrder.go;rw [e];refine (ih (k+1) _ _ (by rw [List.length_eraseIdx];simp only [hm,if_true];simp at h ⊢;omega)).trans ?_;rw [Array.toList_push,Zb1];refine List.Perm.append_left _ ?_;exact zcM _ _ hm
 have:=key xs.size 0 xs.toList #[] (by simp);simpa [pickOrder] using this
theorem next_item {it a:Addr}{es:Array (Int×Value)}{ep:Nat}{pl:List Nat}{i:Nat}{v:Int×Value}{Q:Option Value->Shared->Prop}
  (ho:s.heap.get? a=some { cls:=.type "set",data:=.set es ep (tOf pl (!w.params.followText "set-order")) }) (hz:es.size=pl.length) (hl:pl.length<=4) (hp:Pl pl) (hne:it≠a)
  (hit:s.heap.get? it=some { cls:=.type "set_iterator",data:=.fields #[rawInt (zcc (w.params.followText "set-order") pl i),rawInt i,.ref a,rawInt es.size,rawInt ep] })
  (hv:(sOrd w a ep es)[i]?=some v) (hi:i<=es.size)
  (h:∀h',(∀b o,b≠it->s.heap.get? b=some o->h'.get? b=some o)->h'.get? it=some { cls:=.type "set_iterator",data:=.fields #[rawInt (zcc (w.params.followText "set-order") pl (i+1)),rawInt ((i+1:Nat):Int),.ref a,rawInt es.size,rawInt ep] }->Q (some v.2) { s with heap:=h' }) :
  wpAny (model prog w) A (pyNext (.ref it)) Q E s:=by
 have hT:s.TypeIs (.ref it) "set_iterator":=⟨_,hit,rfl⟩
 have hf:(tOf pl (!w.params.followText "set-order")).fits es.size=true:=zcN hz.symm (by omega);unfold pyNext;refine wpAny_bind (wpAny_attempt ?_);refine wpAny_callSpecial?_slot hT zb1 (wpAny_call_entry zb1 hT zc6 ?_ (zfq _));unfold Builtin.«set_iterator.__next__»;refine wpAny_bind (m:=slotArgs _ _ _) (wpAny_pure ?_);refine wpAny_bind (m:=fieldsOf _) ?_;unfold fieldsOf;refine wpAny_bind (wpAny_load hit (wpAny_pure ?_));show wpAny _ _ (setEntries a >>= _) _ _ _;refine wpAny_bind ?_;unfold setEntries;refine wpAny_bind (wpAny_setState_of ho rfl hf (wpAny_pure ?_));simp only [bne_self_eq_false,Bool.false_eq_true,if_false,rawInt,Zv];refine wpAny_bind (zfR ho hz hl hp hi ?_);rw [hv];have hg1:(s.heap.update it (Obj.mapFields fun x_1=>x_1.setIfInBounds 0 (.int (zcc (w.params.followText "set-order") pl (i+1)) 0))).get? it=some { cls:=.type "set_iterator",data:=.fields #[rawInt (zcc (w.params.followText "set-order") pl (i+1)),rawInt i,.ref a,rawInt es.size,rawInt ep] }:=by
  rw [Heap.get?_update_self _ hit (by rfl)];rfl
 have hg2:((s.heap.update it (Obj.mapFields fun x_1=>x_1.setIfInBounds 0 (.int (zcc (w.params.followText "set-order") pl (i+1)) 0))).update it (Obj.mapFields fun x_1=>x_1.setIfInBounds 1 (.int ((i:Int) + 1) 0))).get? it=some { cls:=.type "set_iterator",data:=.fields #[rawInt (zcc (w.params.followText "set-order") pl (i+1)),rawInt ((i+1:Nat):Int),.ref a,rawInt es.size,rawInt ep] }:=by
  rw [Heap.get?_update_self _ hg1 (by rfl)];rfl
 refine wpAny_bind (wpAny_setField hit rfl (by simp) ?_);refine wpAny_bind (wpAny_setField hg1 rfl (by simp) ?_);refine wpAny_pure ⟨_,rfl,wpAny_pure ?_⟩;refine h _ (fun b o hb e=>?_) hg2;rw [Heap.get?_update_other _ _ (Ne.symm hb),Heap.get?_update_other _ _ (Ne.symm hb)];exact e
theorem next_end {it a:Addr}{es:Array (Int×Value)}{ep:Nat}{pl:List Nat}{Q:Option Value->Shared->Prop}
  (ho:s.heap.get? a=some { cls:=.type "set",data:=.set es ep (tOf pl (!w.params.followText "set-order")) }) (hz:es.size=pl.length) (hl:pl.length<=4) (hp:Pl pl) (hne:it≠a) (hh:A.handled=none)
  (hit:s.heap.get? it=some { cls:=.type "set_iterator",data:=.fields #[rawInt (zcc (w.params.followText "set-order") pl es.size),rawInt es.size,.ref a,rawInt es.size,rawInt ep] })
  (hv:(sOrd w a ep es)[es.size]?=none)
  (h:∀h',(∀b o,b≠it->s.heap.get? b=some o->h'.get? b=some o)->Q none { s with heap:=h' }) :
  wpAny (model prog w) A (pyNext (.ref it)) Q E s:=by
 have hT:s.TypeIs (.ref it) "set_iterator":=⟨_,hit,rfl⟩
 have hf:(tOf pl (!w.params.followText "set-order")).fits es.size=true:=zcN hz.symm (by omega);unfold pyNext;refine wpAny_bind (wpAny_attempt ?_);refine wpAny_callSpecial?_slot hT zb1 (wpAny_call_entry zb1 hT zc6 ?_ (zfq _));unfold Builtin.«set_iterator.__next__»;refine wpAny_bind (m:=slotArgs _ _ _) (wpAny_pure ?_);refine wpAny_bind (m:=fieldsOf _) ?_;unfold fieldsOf;refine wpAny_bind (wpAny_load hit (wpAny_pure ?_));show wpAny _ _ (setEntries a >>= _) _ _ _;refine wpAny_bind ?_;unfold setEntries;refine wpAny_bind (wpAny_setState_of ho rfl hf (wpAny_pure ?_));simp only [bne_self_eq_false,Bool.false_eq_true,if_false,rawInt,Zv];refine wpAny_bind (zfR ho hz hl hp (Nat.le_refl _) ?_);rw [hv];refine wpAny_bind (wpAny_setField hit rfl (by simp) ?_);refine wpAny_bind ?_;unfold newExc
 repeat (any_goals (first|assumption|wp_step))
 refine wpAny_raiseNew_none hh ?_;refine wpAny_bind (wpAny_isInstance (T:="StopIteration") ⟨_,Heap.get?_push_size _ rfl,rfl⟩ isSubtype_stop ?_);refine wpAny_pure ?_;refine h _ fun b o hb e=>?_;refine Heap.get?_push_of_some _ (Heap.get?_push_of_some _ ?_);rw [Heap.get?_update_other _ _ (Ne.symm hb)];exact e
theorem zqd {it:Addr}{o:Obj}{Q:Value->Shared->Prop}(hit:s.heap.get? it=some o) (hc:o.cls=.type "set_iterator") (h:Q (.ref it) s):wpAny (model prog w) A (pyIter (.ref it)) Q E s:=by
 have hT:s.TypeIs (.ref it) "set_iterator":=⟨o,hit,hc⟩
 refine wpAny_pyIter_slot hT zdX (wpAny_call_entry zdX hT zgX ?_ (ziZ _));unfold Builtin.«dict_keyiterator.__iter__»;refine wpAny_bind (m:=slotArgs _ _ _) (wpAny_pure ?_);refine wpAny_pure ⟨_,rfl,"set_iterator",_,hT,zdS,h⟩
theorem zgx {a:Addr}{ep:Nat}{es:Array (Int×Value)}:(sOrd w a ep es).size=es.size:=by
 unfold sOrd;split
 ·have:=(zc3 (w.params.setOrder a ep) es).length_eq
  simpa using this
 ·rfl
theorem zhu {a:Addr}{ep:Nat}{es:Array (Int×Value)}:(sOrd w a ep es).toList.Perm es.toList:=by
 unfold sOrd;split
 ·exact zc3 _ _
 ·exact .refl _
theorem zp6 {a:Addr}{es:Array (Int×Value)}{ep:Nat}{pl:List Nat}(hz:es.size=pl.length) (hl:pl.length<=4) (hp:Pl pl) :
  KdlSrc prog w "set" a a es.size (fun i v=>∃z,(sOrd w a ep es)[i]?=some (z,v)) (fun h=>h.get? a=some { cls:=.type "set",data:=.set es ep (tOf pl (!w.params.followText "set-order")) }) where
 type:=fun s h=>⟨_,h,rfl⟩
 there:=fun h e=>⟨Heap.lt_size e,Heap.lt_size e⟩
 keep:=fun h h' e k=>k a (.inl rfl) _ e
 notList:=by decide
 notTuple:=by decide
 hint:=fun A E s Q h q=>zn9 ⟨_,h,rfl⟩ q
 iter:=fun A s hh ho=>by
  refine ⟨{ cls:=.type "set_iterator",data:=.fields #[rawInt 0,rawInt 0,.ref a,rawInt es.size,rawInt ep] },fun i h=>h.get? s.heap.objs.size=some { cls:=.type "set_iterator",data:=.fields #[rawInt (zcc (w.params.followText "set-order") pl i),rawInt i,.ref a,rawInt es.size,rawInt ep] }/\h.get? a=some { cls:=.type "set",data:=.set es ep (tOf pl (!w.params.followText "set-order")) },fun E Q q=>zn6 ho hz hl q,?_,?_⟩
  ·have hne:s.heap.objs.size≠a:=Nat.ne_of_gt (Heap.lt_size ho)
   refine { sub:=fun b hb=>?_,frame:=fun i h h' st k=>⟨k _ (by simp) _ st.1,k _ (by simp) _ st.2⟩,item:=fun i s1 Q E hi st q=>?_,done:=fun s1 Q E st q=>?_,self:=fun i s1 Q E st q=>zqd st.1 rfl q }
   ·simp at hb;simp [hb]
   ·have hlt:i < (sOrd w a ep es).size:=by rw [zgx];exact hi
    refine next_item st.2 hz hl hp hne st.1 (Array.getElem?_eq_getElem hlt) (Nat.le_of_lt hi) fun h' k e=>?_;refine q _ h' _ ⟨_,Array.getElem?_eq_getElem hlt⟩ ⟨e,k _ _ (Ne.symm hne) st.2⟩ fun b o hb=>k b o (by simpa using hb)
   ·refine next_end st.2 hz hl hp hne hh st.1 (Array.getElem?_eq_none (by rw [zgx];exact Nat.le_refl _)) fun h' k=>q h' _ fun b o hb=>k b o (by simpa using hb)
  ·refine ⟨?_,Heap.get?_push_of_some _ ho⟩
   have:zcc (w.params.followText "set-order") pl 0=0:=by unfold zcc;split<;>rfl
   rw [this];exact Heap.get?_push_size _ rfl
end
end PySem
namespace L2
open PySem PySem.Spec PyProof.Rows PySem.W
def SetO (w:World) (a:Addr) (zs:List Int):HO:=.ext (zem (!w.params.followText "set-order") a zs)
def Small (ns:List Int):Prop:=ns.length<=4 /\ ∀n∈ns,0<=n/\n < 40
def zs1 (w:World) (K:PySem.W.Frag):List V->Hp->VK->Prop:=fun xs H Q=>∃(p:Addr) (ns:List Int),xs = [.ref p]/\SqL K H p (ns.map V.int)/\Small ns /\
 ∀zs:List Int,zs.Nodup->(∀x,x∈zs↔x∈ns) -> ∀l,H l=none->Q (.ref l) (upd H l (SetO w l zs))
theorem zsx:∀{ns:List Int}{us:List Value},Vals (ns.map V.int) us->us.length=ns.length /\ ∀(j:Nat),j < us.length -> ∃z t,us[j]?=some (.int z t)/\ns[j]?=some z
 | [],_,h=>by cases h;exact ⟨rfl,fun j hj=>by simp at hj⟩
 | n::ns,_,h=>by
  cases h with
  | @cons _ u _ us r1 r2 =>
   obtain ⟨t,rfl⟩:=r1;obtain ⟨h1,h2⟩:=zsx r2;refine ⟨by simp [h1],fun j hj=>?_⟩;cases j with
   | zero=>exact ⟨n,t,rfl,rfl⟩
   | succ j=>simpa using h2 j (by simpa using hj)
theorem zkB {X:Cx}{w:World}{K:PySem.W.Frag}(hw:X.w=w) (hK:X.K=K) (hc:X.calm=true):zbL X (.type "set") (zs1 w K):=by
 subst hw hK;intro pins s σ H xs us Q I r h;obtain ⟨p,ns,rfl,hq,hsm,q⟩:=h;obtain ⟨u,rfl,rx⟩:=vals1 r;cases rx;obtain ⟨its,rv,pl,hz⟩:=I.list hq;obtain ⟨e1,e2⟩:=zsx rv;refine ziX (ns:=ns) (I.ok.hd hc) pl.isList (by have:=hsm.1;simp;omega) (by simp [e1]) (fun j hj=>?_) fun h' t' zs k hd hm=>?_
 ·obtain ⟨z,t,q1,q2⟩:=e2 j (by simpa using hj)
  exact ⟨z,t,by simpa using q1,q2,hsm.2 z (Zw q2)⟩
 ·have hnd:zs.Nodup:=by obtain ⟨es,ep,pl,d1,d2,d3,d4,d5,d6,d7,d8⟩:=hd;exact d7
  refine ⟨.ref s.heap.objs.size,_,I.laid (a:=s.heap.objs.size) (o:=SetO X.w s.heap.objs.size zs) (t':=t') (h':=h') k (Nat.le_refl _) ?_,rfl,q zs hnd hm _ (I.hok.fresh (Nat.le_refl _))⟩;refine ⟨hd,?_,fun h1 h2 a b=>a.same b⟩;obtain ⟨es,ep,pl,d1,_⟩:=hd;exact ⟨_,d1⟩
def zqr (w:World):List V->Hp->VK->Prop:=fun xs H Q=>∃(a:Addr) (zs:List Int),xs = [.ref a]/\H a=some (SetO w a zs) /\
 ∀ns':List Int,ns'.Perm zs->ns'.Pairwise (· <= ·) -> ∀l,H l=none->Q (.ref l) (upd H l (.lst (ns'.map V.int)))
section
variable {X:Cx}{pins:List (Addr×Obj)}{σ:St}{H:Hp}{s:Shared}
theorem zkX {A:Around}{E:Value->Shared->Prop}{Q:Value->Shared->Prop}{h':Heap}{tk:Nat}{acc:List Value}{ns:List Int}{q:VK}(I1:Inv X pins σ H { s with heap:=h',toks:=tk }) (hI:IntsAre acc ns) (hl:ns.length < 64)
  (hQ:∀v s1 H1 x,Inv X pins σ H1 s1->RelV x v->q x H1->Q v s1)
  (h:∀ns':List Int,ns'.Perm ns->ns'.Pairwise (· <= ·) -> ∀l,H l=none->q (.ref l) (upd H l (.lst (ns'.map V.int)))) :
  wpAny (model X.prog X.w) A (newList acc >>= fun l=>holding [l] (call (.builtin "list.sort") [l] []) >>= fun _=>ret l) (fun fin s'=>∃v,fin=Fin.done (Flow.ret v)/\Q v s') E { s with heap:=h',toks:=tk }:=by
 have hlen:acc.length=ns.length:=PySem.ints_len hI;refine wpAny_bind (wpAny_newList ?_ (by rw [hlen,sizeLine_eq];omega));have hoL:(h'.push (seqObj "list" acc.toArray 0)).get? h'.objs.size=some (seqObj "list" acc.toArray 0):=Heap.get?_push_size _ rfl;refine wpAny_bind (wpAny_holding (wpAny_call_entry slot_list_sort ⟨_,hoL,rfl⟩ entry_list_sort (list_sort_tree hoL hI (by rw [hlen];exact hl) fun out ns' a1 a2 a3=>⟨_,rfl,?_⟩) (args_list_sort _)));refine wpAny_pure ⟨_,rfl,?_⟩;obtain ⟨e,he⟩:=sortedHeap_at (out:=out) hoL;have kp:∀b o,h'.get? b=some o->(sortedHeap (h'.push (seqObj "list" acc.toArray 0)) h'.objs.size acc out).get? b=some o:=fun b o hb=>by
  have hb':=Heap.lt_size hb;rw [sortedHeap_old (Nat.ne_of_lt hb') (by rw [size_push'];exact Nat.lt_succ_of_lt hb')];exact Heap.get?_push_of_some _ hb
 refine hQ _ _ _ (.ref h'.objs.size) (I1.laid (t':=tk) kp (Nat.le_refl _) (show za4 X.prog X.w _ _ _ (.lst (ns'.map V.int)) from ⟨?_,out.toList,e,zgg a1,by simpa using he⟩)) rfl (h ns' a2 a3 _ (I1.hok.fresh (Nat.le_refl _)));rw [Zd,a2.length_eq,sizeLine_eq];omega
theorem zie {w:World}(hw:X.w=w) (hc:X.calm=true):zbL X (.builtin "sorted") (zqr w):=by
 subst hw;intro pins s σ H xs us Q I r h;obtain ⟨a,zs,rfl,ha,q⟩:=h;obtain ⟨u,rfl,rx⟩:=vals1 r;cases rx;obtain ⟨hd,_,_⟩:=I.hok a _ ha;obtain ⟨es,ep,pl,d1,d2,d3,d4,d5,d6,d7,d8⟩:=hd;have hlen:es.size=zs.length:=by have:=congrArg List.length d2;simpa using this
 refine Calls.call_function_entry kind_sorted plain_sorted entry_sorted (args_sorted1 _) ?_;unfold Builtin.«sorted»;refine wpAny_bind (m:=checkCount "sorted" 1 1 _) (wpAny_pure ?_);refine wpAny_bind (kdu_collect (A:=X.A.in1) (zp6 (prog:=X.prog) (w:=X.w) (a:=a) (es:=es) (ep:=ep) (pl:=pl) (by omega) (by omega) d4) (I.ok.hd hc) d1 (by rw [hlen,sizeLine_eq];omega) fun h' tk acc hkk hacc=>?_);have heach:=PySem.ints_each (es:=es.toList) (by rw [d2];exact d3);have hI:IntsAre acc.toList ((sOrd X.w a ep es).toList.map (·.1)):=by
  refine zdd ?_ fun j v hv=>?_
  ·rw [Zd,Array.length_toList,Array.length_toList,hacc.1,zgx]
  ·obtain ⟨z,hz⟩:=hacc.2 j v (by rw [<- Array.getElem?_toList];exact hv)
   rw [<- Array.getElem?_toList] at hz;obtain ⟨t,ht⟩:=heach (z,v) (zhu.mem_iff.mp (Zw hz));exact ⟨z,t,by rw [Zj,hz];rfl,ht⟩
 have hp:((sOrd X.w a ep es).toList.map (·.1)).Perm zs:=by rw [<- d2];exact zhu.map _
 refine zkX (I.kept (t':=tk) hkk) hI (by rw [hp.length_eq];omega) (fun v s1 H1 x i r1 r2=>⟨x,H1,i,r1,r2⟩) fun ns' p1 p2 l hl=>q ns' (p1.trans hp) p2 l hl
end
end L2
namespace L2
open PySem PySem.Spec PyProof.Rows
def zsZ (K:PySem.W.Frag):List V->Hp->VK->Prop:=fun xs H Q=>∃p ys,xs = [.ref p]/\((SqL K H p ys /\ ∀l,H l=none->Q (.ref l) (upd H l (.tup ys)))\/(SqT K H p ys/\Q (.ref p) H))
theorem zfO {X:Cx}{K:PySem.W.Frag}(hK:X.K=K):zbL X (.type "tuple") (zsZ K):=by
 subst hK;exact zg1
def znR:List PV->Option PV
 | [.lst ps]=>some (.tup ps)
 | _=>none
theorem zqi {K:PySem.W.Frag}:RLV .shr (zsZ K) znR:=by
 intro U H ps z vs Q d hb e k
 match ps,e with
 | [.lst qs],e =>
  cases e;obtain ⟨v,rfl,a,xs,rfl,ha,rx⟩:=hb.one;refine ⟨a,xs,rfl,.inl ⟨SqL.of ha,fun l hl=>?_⟩⟩;obtain ⟨e2,r2⟩:=ziF d hl rx;exact k _ _ U e2 r2
def zgT:List PV->Option (List Int)
 | []=>some []
 | .int k::r=>(zgT r).map (k::·)
 | _=>none
theorem zjB:∀{ps:List PV}{ns:List Int},zgT ps=some ns->ps=ns.map PV.int
 | [],ns,e=>by cases e;rfl
 | p::ps,ns,e=>by
  cases p with
  | int k =>
   obtain ⟨ms,hm,rfl⟩:=Zb.mp e;rw [zjB hm];rfl
  | _=>cases e
theorem zfc:∀(ns:List Int),zgT (ns.map PV.int)=some ns
 | []=>rfl
 | n::ns=>by show (zgT (ns.map PV.int)).map (n::·)=_;rw [zfc ns];rfl
def insZ (x:Int):List Int->List Int
 | []=>[x]
 | y::r=>if x<=y then x::y::r else y::insZ x r
def srtZ:List Int->List Int
 | []=>[]
 | x::r=>insZ x (srtZ r)
theorem zfd (x:Int):∀l:List Int,(insZ x l).Perm (x::l)
 | []=>.refl _
 | y::r=>by
  unfold insZ;split
  ·exact .refl _
  ·exact ((zfd x r).cons y).trans (.swap x y r)
theorem zbW:∀l:List Int,(srtZ l).Perm l
 | []=>.refl _
 | x::r=>(zfd x (srtZ r)).trans ((zbW r).cons x)
theorem zmj (x:Int):∀{l:List Int},l.Pairwise (· <= ·)->(insZ x l).Pairwise (· <= ·)
 | [],_=>List.pairwise_singleton _ _
 | y::r,h=>by
  have h':=Zm1.mp h;unfold insZ;split
  ·rename_i hxy
   refine Zm1.mpr ⟨fun z hz=>?_,h⟩;rcases Zk.mp hz with rfl|hz
   ·exact hxy
   ·exact Int.le_trans hxy (h'.1 z hz)
  ·rename_i hxy
   refine Zm1.mpr ⟨fun z hz=>?_,zmj x h'.2⟩;rcases Zk.mp ((zfd x r).mem_iff.mp hz) with rfl|hz
   ·omega
   ·exact h'.1 z hz
theorem zgn:∀l:List Int,(srtZ l).Pairwise (· <= ·)
 | []=>.nil
 | x::r=>zmj x (zgn r)
def ddZ:List Int->List Int
 | []=>[]
 | x::r=>if x∈r then ddZ r else x::ddZ r
theorem zeV (x:Int):∀l:List Int,x∈ddZ l↔x∈l
 | []=>Iff.rfl
 | y::r=>by
  unfold ddZ;split
  ·rename_i hy
   rw [zeV x r,Zk];exact ⟨.inr,fun h=>h.elim (fun e=>e ▸ hy) id⟩
  ·rw [Zk,Zk,zeV x r]
theorem zdv:∀l:List Int,(ddZ l).Nodup
 | []=>List.nodup_nil
 | y::r=>by
  unfold ddZ;split
  ·exact zdv r
  ·rename_i hy
   exact List.nodup_cons.mpr ⟨fun h=>hy ((zeV y r).mp h),zdv r⟩
def zex (ns:List Int):Bool:=decide (ns.length<=4)&&ns.all fun n=>decide (0<=n)&&decide (n < 40)
def zeO:List PV->Option PV
 | [.lst ps]=>(zgT ps).bind fun ns=>if zex ns then some (.lst ((srtZ (ddZ ns)).map PV.int)) else none
 | _=>none
theorem znn {ns:List Int}(h:zex ns=true):Small ns:=by
 unfold zex at h;rw [Zc1] at h;refine ⟨of_decide_eq_true h.1,fun n hn=>?_⟩;have:=Zp1.mp h.2 n hn;rw [Zc1] at this;exact ⟨of_decide_eq_true this.1,of_decide_eq_true this.2⟩
theorem zkK {w:World}{K:PySem.W.Frag}{t:TA}{fa:VL}(ha:VA true t fa):VE .fr (tCB (zqr w) (zhe (tCB (zs1 w K) t) tNil)) (xL zeO fa):=by
 intro U O H σ ρ Q z s e k;obtain ⟨ps,hp,e⟩:=Za.mp e
 match ps,e with
 | [.lst qs],e =>
  obtain ⟨ns,hns,e⟩:=Za.mp e;obtain ⟨h,rfl⟩:=zaD e;refine ha U O H σ ρ _ _ s hp fun vs H1 U1 ex1 r1=>?_;have r1':Bors U1 H1 [PV.lst qs] vs:=r1;obtain ⟨v,rfl,a,xs,rfl,ha,rx⟩:=r1'.one;rw [zjB hns] at rx;have hx:=rx.ints;subst hx;refine ⟨a,ns,rfl,SqL.of ha,znn h,fun zs hnd hm l hl=>?_⟩;show zqr w [.ref l] (upd H1 l (SetO w l zs)) Q;refine ⟨l,zs,rfl,zaf,fun ns' hp hs l2 hl2=>?_⟩;have hpz:ns'.Perm (srtZ (ddZ ns)):=hp.trans (((List.perm_ext_iff_of_nodup hnd (zdv ns)).mpr fun x=>by rw [hm x,zeV]).trans (zbW _).symm);rw [zcf hpz hs (zgn _)];have ex2:Ext U1 H1 U1 (upd H1 l (SetO w l zs)):=.laid ex1.dU hl;obtain ⟨e3,r3⟩:=zbr ex2.dU hl2 (Reps.of_ints (srtZ (ddZ ns)));exact k _ _ U1 (ex1.trans (ex2.trans e3)) (Res.pre (U1:=U1) (ex1.trans ex2).same r3)
def putP (ks:List (Key×PV)) (k:Key) (v:PV):List (Key×PV):=if (ks.any fun kv=>decide (kv.1=k))=true then ks.map (fun kv=>if kv.1=k then (kv.1,v) else kv) else ks++[(k,v)]
def zju (ks more:List (Key×PV)):List (Key×PV):=more.foldl (fun acc kv=>putP acc kv.1 kv.2) ks
section
variable {U:AS}{H:Hp}
theorem RepK.length:∀{ks:List (Key×PV)}{xs:List (Key×V)},RepK U H ks xs->xs.length=ks.length
 | [],xs,h=>by rw [zbo.mp h];rfl
 | k::ks,xs,h=>by
  obtain ⟨v,r,rfl,_,h2⟩:=zaM.mp h;simp [RepK.length h2]
theorem RepK.any (k:Key):∀{ks:List (Key×PV)}{xs:List (Key×V)},RepK U H ks xs->(xs.any fun kv=>decide (kv.1=k))=ks.any fun kv=>decide (kv.1=k)
 | [],xs,h=>by rw [zbo.mp h];rfl
 | kp::ks,xs,h=>by
  obtain ⟨v,r,rfl,_,h2⟩:=zaM.mp h;rw [List.any_cons,List.any_cons,RepK.any k h2]
theorem RepK.repl (k:Key) {p:PV}{v:V}(hp:Rep U H p v):∀{ks:List (Key×PV)}{xs:List (Key×V)},RepK U H ks xs->RepK U H (ks.map fun kv=>if kv.1=k then (kv.1,p) else kv) (xs.map fun kv=>if kv.1=k then (kv.1,v) else kv)
 | [],xs,h=>by rw [zbo.mp h];exact zbo.mpr rfl
 | kp::ks,xs,h=>by
  obtain ⟨u,r,rfl,h1,h2⟩:=zaM.mp h;rw [Zh,Zh];by_cases e:kp.1=k
  ·simp only [e,if_true]
   exact zaM.mpr ⟨v,_,rfl,hp,RepK.repl k hp h2⟩
  ·simp only [e,if_false]
   exact zaM.mpr ⟨u,_,rfl,h1,RepK.repl k hp h2⟩
theorem RepK.snoc (k:Key) {p:PV}{v:V}(hp:Rep U H p v):∀{ks:List (Key×PV)}{xs:List (Key×V)},RepK U H ks xs->RepK U H (ks++[(k,p)]) (xs++[(k,v)])
 | [],xs,h=>by rw [zbo.mp h];exact zaM.mpr ⟨v,[],rfl,hp,zbo.mpr rfl⟩
 | kp::ks,xs,h=>by
  obtain ⟨u,r,rfl,h1,h2⟩:=zaM.mp h;exact zaM.mpr ⟨u,_,rfl,h1,RepK.snoc k hp h2⟩
theorem RepK.put (k:Key) {p:PV}{v:V}(hp:Rep U H p v) {ks:List (Key×PV)}{xs:List (Key×V)}(h:RepK U H ks xs):RepK U H (putP ks k p) (putK xs k v):=by
 unfold putP putK;rw [h.any k];split
 ·exact h.repl k hp
 ·exact h.snoc k hp
end
def zbU (i:Nat) (fk fv:VX):VF:=fun ρ=>(fv ρ).bind fun q=>(fk ρ).bind fun y=>(keyP y).bind fun k=>wr i (fun p=>match p with
 | .dct ks=>if zaL ks.length then some (.dct (putP ks k q)) else none
 | _=>none) ρ
theorem zpD {m:Md}{i:Nat}{ty tv:TE}{fk fv:VX}(hk:VE m ty fk) (hv:VE .shr tv fv):VS (zqh (tVar i) ty tv) (zbU i fk fv):=by
 intro U O H σ ρ D o s e q;obtain ⟨z,hz,e⟩:=Za.mp e;obtain ⟨y,hy,e⟩:=Za.mp e;obtain ⟨k,hk',e⟩:=Za.mp e;obtain ⟨p,p',hp,hg,rfl⟩:=zes e;obtain ⟨v,hv',a,rfl,oa,tp⟩:=s.slot i p .own hp;cases p with
 | dct ks =>
  obtain ⟨hs,rfl⟩:=zaD hg;refine hv U O H σ ρ _ z s hz fun u H1 U1 ex1 r1=>⟨.ref a,hv',?_⟩
  have s1:=s.ext ex1;refine hk.bor U1 O H1 σ ρ _ y s1 hy fun x H2 U2 ex2 r2=>?_;have s2:=s1.ext ex2;have hx:=ze8 r2 hk';subst hx;obtain ⟨kvs,hx,rx⟩:=tp;have hx2:=ex2.same _ _ (ex1.same _ _ hx);have rx2:=RepK.keeps (ex1.trans ex2).keeps _ _ rx;have k0:=zdD (u':=.dK (putK kvs k u)) s2 oa hx2 (fun _ z=>nomatch z);obtain ⟨s3,t3,_⟩:=s2.write (p':=.dct (putP ks k z)) (u:=.dK (putK kvs k u)) hp hv' (fun _ z=>nomatch z) ⟨_,zaf,RepK.put k (Rep.keeps k0 _ _ (Rep.keeps ex2.keeps _ _ r1)) (RepK.keeps k0 _ _ rx2)⟩;exact ⟨a,_,rfl,.k hx2 (by rw [rx.length];exact zeo hs),q U2 O _ σ s3 ((ex1.trans ex2).tr.trans t3)⟩
 | _=>cases hg
def zni (i:Nat) (f:VX):VF:=fun ρ=>(f ρ).bind fun q=>wr i (fun p=>match p,q with
 | .dct ks,.dct more=>if zaL (ks.length+more.length) then some (.dct (zju ks more)) else none
 | _,_=>none) ρ
theorem zpQ:VE .fr zoH (fun _=>some (.dct [])):=by
 intro U O H σ ρ Q z s e k;cases e;intro p hp;obtain ⟨e2,r2⟩:=zq1 (ks:=[]) (xs:=[]) s.dU hp (zbo.mpr rfl);exact k _ _ U e2 r2
def zg7 (fk fv:VX):VX:=fun ρ=>(fk ρ).bind fun y=>(fv ρ).bind fun q=>(keyP y).map fun k=>.dct [(k,q)]
theorem zm8 {m:Md}{tk tv:TE}{fk fv:VX}(hk:VE m tk fk) (hv:VE .shr tv fv):VE .fr (zsJ [(tk,tv)]) (zg7 fk fv):=by
 intro U O H σ ρ Q z s e k;obtain ⟨y,hy,e⟩:=Za.mp e;obtain ⟨q,hq,e⟩:=Za.mp e;obtain ⟨x,hx,rfl⟩:=Zb.mp e;intro p hp;have ex0:Ext U H U (upd H p (.dK [])):=.laid s.dU hp;have s0:=s.ext ex0;refine hk.bor U O _ σ ρ _ y s0 hy fun v H1 U1 ex1 r1=>hv U1 O H1 σ ρ _ q (s0.ext ex1) hq fun u H2 U2 ex2 r2=>?_;have hvx:=ze8 r1 hx;subst hvx;have e02:=ex0.trans (ex1.trans ex2);have hp2:H2 p=some (.dK []):=ex2.same _ _ (ex1.same _ _ zaf);have hpU:¬U2 p:=fun h=>by
  rcases ex2.new p h with h|h
  ·rcases ex1.new p h with h|h
   ·exact s.dU p h hp
   ·rw [zaf] at h;cases h
  ·rw [ex1.same _ _ zaf] at h;cases h
 refine ⟨hp2,[(x,u)],rfl,by simp,?_⟩;have hne:∀b,U2 b->b≠p:=fun b hb z=>hpU (z ▸ hb);have ex3:Ext U H U2 (upd H2 p (.dK (zeU [] [(x,u)]))):=by
  refine ⟨fun b o hb=>?_,e02.mono,e02.new,fun b hb=>?_⟩
  ·rw [zac (zaw hb hp)];exact e02.same b o hb
  ·rw [zac (hne b hb)];exact e02.dU b hb
 have kp:Keeps U2 H2 U2 (upd H2 p (.dK (zeU [] [(x,u)]))):=by
  refine ⟨fun _ h=>h,fun b ys ub hb=>?_,fun b ys ub hb=>?_,fun b ys ub hb=>?_,fun b ys hb=>?_⟩
  ·rw [zac (hne b ub)];exact hb
  ·rcases hb with hb|⟨oo,hb⟩
   ·exact .inl (by rw [zac (hne b ub)];exact hb)
   ·exact .inr ⟨oo,by rw [zac (hne b ub)];exact hb⟩
  ·rcases hb with hb|⟨oo,hb⟩
   ·exact .inl (by rw [zac (hne b ub)];exact hb)
   ·exact .inr ⟨oo,by rw [zac (hne b ub)];exact hb⟩
  ·rw [zac (zkn hb hp2 (fun z=>nomatch z))];exact hb
 exact k _ _ U2 ex3 ⟨p,rfl,hp,hpU,_,zaf,zaM.mpr ⟨u,[],rfl,Rep.keeps kp _ _ r2,zbo.mpr rfl⟩⟩
structure WalkE (U0:AS) (H0:Hp) (J:It) (xs:List PV):Prop where
 go:∀(i:Nat) (U:AS) (H:Hp),Ext U0 H0 U H->(∀a,U a->H a≠none) -> ∀x,xs[i]?=some x->J.go i H /\ ∀v H',J.yld i H v H' -> ∃U',Ext U H U' H' /\ Rep U' H' x v
 stop:∀(U:AS) (H:Hp),Ext U0 H0 U H->J.stop xs.length H
def VIb (wi:TI) (it:VL):Prop:=∀(U O:AS) (H:Hp) (σ:St) (ρ:PEnv) (R:It->Hp->Prop) (xs:List PV),SR U O H σ ρ->it ρ=some xs->(∀J H' U',Ext U H U' H' -> WalkE U' H' J xs->R J H')->wi σ H R
theorem zna {src:List (Option Nat)}{wi:TI}{g:TG}{tif:TT}{te:TE}{it:VL}{tg:VTg}{cond:VB}{elt:VX}(hi:VIb wi it) (hg:VG g tg) (hc:VT tif cond) (he:VE .shr te elt):VE .fr (zhf src wi g tif te) (zap src it tg cond elt):=by
 intro U O H σ ρ Q z s e k;obtain ⟨xs,hxs,e⟩:=Za.mp e;by_cases hs:zaL xs.length=true
 case neg=>rw [if_neg hs] at e;cases e
 rw [if_pos hs] at e;obtain ⟨zs,e,rfl⟩:=Zb.mp e;refine hi U O H σ ρ _ xs s hxs fun J H1 U1 ex wk=>?_;have s1:=s.ext ex;have sz:∀n,n<=xs.length->n<=sizeLine:=fun n h=>Nat.le_trans h (zbg hs);refine ⟨fun i m ys τ H'=>∃U' ρ' ps,SR U' (fun _=>False) H' τ ρ' /\ Ext U1 H1 U' H' /\ i<=xs.length/\m=xs.length - i/\ys.length<=i/\Reps U' H' ps ys/\(za1 tg cond elt (xs.drop i) ρ').map (ps++·)=some zs,
  ⟨_,U1,zbV src ρ,[],s1.comp src,.refl s1.dU,Nat.zero_le _,rfl,Nat.le_refl _,zam.mpr rfl,by simpa using e⟩,?_⟩
 rintro i m ys τ H' ⟨U',ρ',ps,s',ex',hi',rfl,hy,rp,e'⟩;have kp:=ex'.keeps;cases hx:xs[i]? with
 | none =>
  have hl:xs.length<=i:=List.getElem?_eq_none_iff.mp hx;have hii:i=xs.length:=by omega
  subst hii;rw [List.drop_length] at e';unfold za1 at e';simp at e';subst e';refine .inl ⟨wk.stop U' H' ex',sz _ hy,fun D hD=>?_⟩;obtain ⟨e2,r2⟩:=zbr ex'.dU hD rp;exact k _ _ U' (ex.trans (ex'.trans e2)) (Res.pre (U1:=U1) (ex.trans ex').same r2)
 | some x =>
  have hl:=(Zg.mp hx).1;obtain ⟨hgo,hyl⟩:=wk.go i U' H' ex' s'.dU x hx;rw [zcU hx] at e';refine .inr ⟨hgo,Nat.lt_of_le_of_lt hy (Nat.lt_of_lt_of_le hl (zbg hs)),fun v H2 yl=>?_⟩;obtain ⟨U2,ex2,rv⟩:=hyl v H2 yl;unfold za1 at e';cases z1:tg x ρ' with
  | none=>rw [z1] at e';cases e'
  | some ρ1 =>
   rw [z1] at e';refine hg U2 _ H2 τ ρ' ρ1 x v _ (s'.ext ex2) rv z1 fun τ3 s3=>?_;cases z2:cond ρ1 with
   | none=>simp only [z2] at e';cases e'
   | some b =>
    simp only [z2] at e';refine hc U2 _ H2 τ3 ρ1 _ b s3 z2 fun H4 U4 ex4=>?_;have ex24:=ex2.trans ex4;cases b with
    | false=>exact ⟨_,by omega,U4,ρ1,ps,s3.ext ex4,ex'.trans ex24,hl,rfl,by omega,Reps.keeps ex24.keeps _ _ rp,e'⟩
    | true =>
     cases z3:elt ρ1 with
     | none=>simp only [z3] at e';cases e'
     | some y =>
      simp only [z3] at e';refine he U4 _ H4 τ3 ρ1 _ y (s3.ext ex4) z3 fun w H5 U5 ex5 r5=>?_;refine ⟨_,by omega,U5,ρ1,ps++[y],(s3.ext ex4).ext ex5,(ex'.trans ex24).trans ex5,hl,rfl,by simp;omega,Reps.append (Reps.keeps (ex24.trans ex5).keeps _ _ rp) (Reps.one r5),?_⟩;rw [Option.map_map] at e';rw [<- e'];congr 1;funext l;simp
theorem q_nx {F G:VF}{ρ ρ':PEnv}(h:F ρ=some (.nx ρ')):vSeq F G ρ=G ρ':=by unfold vSeq;rw [h]
theorem q_rt {F G:VF}{ρ:PEnv}{p:PV}{b:Bool}(h:F ρ=some (.rt p b)):vSeq F G ρ=some (.rt p b):=by unfold vSeq;rw [h]
theorem zbM {it:VL}{tg:VTg}{body:VF}{ρ:PEnv}{xs:List PV}(h:it ρ=some xs):vFor it tg body ρ=za2 tg body xs ρ:=by unfold vFor;rw [h];rfl
theorem zay {k n:Nat}{fr b:Bool}{F:VF}{ps:List PV}{p:PV}(hl:ps.length=k) (h:F (zdU n ps)=some (.rt p b)) (hb:(fr&&!b)=false):fnM k n fr F ps=some p:=by
 unfold fnM;rw [if_pos hl,h];simp only [hb,Bool.false_eq_true,if_false]
theorem zhy {k n:Nat}{F:VF}{ps:List PV}{ρ:PEnv}(hl:ps.length=k) (h:F (zdU n ps)=some (.nx ρ)):fnM k n false F ps=some .non:=by
 unfold fnM;rw [if_pos hl,h];rfl
theorem zbz {tg:VTg}{body:VF}{x:PV}{xs:List PV}{ρ ρ1 ρ':PEnv}(h1:tg x ρ=some ρ1) (h2:body ρ1=some (.nx ρ')):za2 tg body (x::xs) ρ=za2 tg body xs ρ':=by
 show (match tg x ρ with|none=>none|some ρ1=>_)=_;rw [h1];show (match body ρ1 with|some (.nx ρ')=>za2 tg body xs ρ'|some (.ct ρ')=>za2 tg body xs ρ'|some (.bk ρ')=>some (.nx ρ')|some (.rt p b)=>some (.rt p b)|none=>none)=_;rw [h2]
theorem za7 {i:Nat}{f:VX}{ρ:PEnv}{p:PV}(h:f ρ=some p):zai i f ρ=some (.nx (ρ.set i (some (p,.shr)))):=by unfold zai;rw [h];rfl
theorem zco {i:Nat}{f:VX}{ρ:PEnv}{p:PV}(h:f ρ=some p):zaR i f ρ=some (.nx (ρ.set i (some (p,.own)))):=by unfold zaR;rw [h];rfl
theorem q_xL {g:List PV->Option PV}{fa:VL}{ρ:PEnv}{ps:List PV}(h:fa ρ=some ps):xL g fa ρ=g ps:=by unfold xL;rw [h];rfl
theorem q_x2 {g:PV->PV->Option PV}{f h:VX}{ρ:PEnv}{p q:PV}(h1:f ρ=some p) (h2:h ρ=some q):x2 g f h ρ=g p q:=by unfold x2;rw [h1,h2];rfl
theorem q_x1 {g:PV->Option PV}{f:VX}{ρ:PEnv}{p:PV}(h1:f ρ=some p):x1 g f ρ=g p:=by unfold x1;rw [h1];rfl
theorem q_lc {f:VX}{r:VL}{ρ:PEnv}{p:PV}{ps:List PV}(h1:f ρ=some p) (h2:r ρ=some ps):zab f r ρ=some (p::ps):=by unfold zab;rw [h1,h2];rfl
theorem q_l1 {f:VX}{ρ:PEnv}{p:PV}(h1:f ρ=some p):zab f lNil ρ=some [p]:=q_lc h1 rfl
theorem q_b {f:VX}{ρ:PEnv}{b:Bool}(h:f ρ=some (.bl b)):bOf f ρ=some b:=by unfold bOf;rw [h];rfl
theorem zlm {f:VB}{ρ:PEnv}{b:Bool}(h:f ρ=some b):bNot f ρ=some (!b):=by unfold bNot;rw [h];rfl
theorem zkc {f g:VB}{ρ:PEnv}(h:f ρ=some false):bOr f g ρ=g ρ:=by unfold bOr;rw [h]
theorem zv7 {f g:VB}{ρ:PEnv}(h:f ρ=some true):bOr f g ρ=some true:=by unfold bOr;rw [h]
theorem zhz {f g:VB}{ρ:PEnv}(h:f ρ=some true):bAnd f g ρ=g ρ:=by unfold bAnd;rw [h]
theorem zlr {f g:VB}{ρ:PEnv}(h:f ρ=some false):bAnd f g ρ=some false:=by unfold bAnd;rw [h]
theorem zcV {f:VX}{b:Bool}{ρ:PEnv}{p:PV}(h:f ρ=some p):vRet f b ρ=some (.rt p b):=by unfold vRet;rw [h];rfl
theorem zcr {c:VB}{F G:VF}{ρ:PEnv}(h:c ρ=some true):vIf c F G ρ=F ρ:=by unfold vIf;rw [h]
theorem za3 {c:VB}{F G:VF}{ρ:PEnv}(h:c ρ=some false):vIf c F G ρ=G ρ:=by unfold vIf;rw [h]
theorem zd4 {f:VX}{ρ:PEnv}{p:PV}(h:f ρ=some p):zbE f ρ=some (.nx ρ):=by unfold zbE;rw [h];rfl
theorem q_sm {n:Nat}(h:n<=1000000):zaL n=true:=Zn h
theorem zkd {i:Nat}{f:VX}{ρ:PEnv}{q:PV}{ps:List PV}(h:f ρ=some q) (hp:ρ[i]?=some (some (.lst ps,.own))) (hs:ps.length<=1000000):zao i f ρ=some (.nx (ρ.set i (some (.lst (ps++[q]),.own)))):=by
 unfold zao wr;rw [h];simp only [Option.bind_some,hp,q_sm hs,if_true,Option.map_some]
theorem zfS {i:Nat}{fk fv:VX}{ρ:PEnv}{x:Int}{q:PV}{ks:List (Key×PV)}(hv:fv ρ=some q) (hk:fk ρ=some (.int x)) (hp:ρ[i]?=some (some (.dct ks,.own))) (hs:ks.length<=1000000):zbU i fk fv ρ=some (.nx (ρ.set i (some (.dct (putP ks (.inl x) q),.own)))):=by
 unfold zbU wr;rw [hv];simp only [Option.bind_some,hk,keyP,hp,q_sm hs,if_true,Option.map_some]
theorem ztD {i:Nat}{f:VX}{ρ:PEnv}{ks more:List (Key×PV)}(h:f ρ=some (.dct more)) (hp:ρ[i]?=some (some (.dct ks,.own))) (hs:ks.length+more.length<=1000000):zni i f ρ=some (.nx (ρ.set i (some (.dct (zju ks more),.own)))):=by
 unfold zni wr;rw [h];simp only [Option.bind_some,hp,q_sm hs,if_true,Option.map_some]
theorem zdP {f:VX}{ρ:PEnv}{ps:List PV}(h:f ρ=some (.lst ps)):itL f ρ=some ps:=by unfold itL;rw [h];rfl
theorem zlo {f:VX}{ρ:PEnv}{ps:List PV}(h:f ρ=some (.tup ps)):itT f ρ=some ps:=by unfold itT;rw [h];rfl
theorem zwc {f:VL}{ρ:PEnv}{ps:List PV}(h:f ρ=some [.lst ps]):itE f ρ=some (zcj ps):=by unfold itE;rw [h];rfl
theorem zlq (n:Int) (h:-1000000<=n/\n<=1000000):big? n=true:=by
 unfold big?;rw [Zc1,decide_eq_true_eq,decide_eq_true_eq];have:(2:Int) ^ 62=4611686018427387904:=by decide
 rw [this];omega
theorem zeM {f:VL}{ρ:PEnv}{j:Int}(h:f ρ=some [.int j]) (hj:-1000000<=j/\j<=1000000):itR1 f ρ=some (rngP 0 j.toNat):=by
 unfold itR1;rw [h];show (if big? j=true then _ else _)=_;rw [zlq j hj];rfl
theorem zlp {f:VL}{ρ:PEnv}{i j:Int}(h:f ρ=some [.int i,.int j]) (hi:-1000000<=i/\i<=1000000) (hj:-1000000<=j/\j<=1000000):itR2 f ρ=some (rngP i (j - i).toNat):=by
 unfold itR2;rw [h];show (if (big? i&&big? j)=true then _ else _)=_;rw [zlq i hi,zlq j hj];rfl
theorem zoU {f:VL}{ρ:PEnv}{i j:Int}(h:f ρ=some [.int i,.int j,.int (-1)]) (hi:-1000000<=i/\i<=1000000) (hj:-1000000<=j/\j<=1000000):itRD f ρ=some (dwnP i (i - j).toNat):=by
 unfold itRD;rw [h];show (if (big? i&&big? j&&decide ((-1:Int) = -1))=true then _ else _)=_;rw [zlq i hi,zlq j hj];rfl
theorem zls (i j:Int):pAdd (.int i) (.int j)=some (.int (i+j)):=rfl
theorem ztz (i j:Int):pSub (.int i) (.int j)=some (.int (i - j)):=rfl
theorem q_eq (i j:Int):pEq (.int i) (.int j)=some (.bl (decide (i=j))):=rfl
theorem q_le (i j:Int):pLe (.int i) (.int j)=some (.bl (decide (i<=j))):=rfl
theorem q_lt (i j:Int):pLt (.int i) (.int j)=some (.bl (decide (i < j))):=rfl
theorem q_gt (i j:Int):pGt (.int i) (.int j)=some (.bl (decide (j < i))):=rfl
theorem q_ge (i j:Int):pGe (.int i) (.int j)=some (.bl (decide (j<=i))):=rfl
theorem zln (ps:List PV):pLen [.lst ps]=some (.int ps.length):=rfl
theorem ztC (ps:List PV):pLen [.tup ps]=some (.int ps.length):=rfl
theorem zc9 (i j:Int) (h:0 < j):pMod (.int i) (.int j)=some (.int (i % j)):=by
 have c:cPos i j=true:=Zn h;show (if cPos i j=true then _ else _)=_;rw [if_pos c]
theorem zfB (i j:Int) (h:0 < j) (h2:j < 1073741824):pDiv (.int i) (.int j)=some (.int (i / j)):=by
 have c:cDiv i j=true:=by unfold cDiv;rw [Zn h,Zn h2];rfl
 show (if cDiv i j=true then _ else _)=_;rw [if_pos c]
theorem zqy (i j:Int) (h:0<=i) (h2:i < 4294967296):pMul (.int i) (.int j)=some (.int (i * j)):=by
 have e:(2:Int) ^ 64=18446744073709551616:=by decide
 have c:cMul i j=true:=by
  unfold cMul;rw [e,Zn (show -18446744073709551616 < i by omega),Zn (show i < 18446744073709551616 by omega)];rfl
 unfold pMul pIIc;simp only [c,if_true]
theorem q_at {α:Type}{l:List α}{i:Nat}{x:α}(h:l[i]?=some x):atI l (i:Int)=some x:=by
 have hl:=(Zg.mp h).1;unfold atI ixN;rw [if_pos (by omega),if_pos (by omega),Zv];exact h
theorem znD (ps qs:List PV) (h:ps.length+qs.length<=1000000):pCat (.lst ps) (.lst qs)=some (.lst (ps++qs)):=by
 show (if zaL (ps.length+qs.length)=true then _ else _)=_;rw [q_sm h];rfl
theorem zjk {src:List (Option Nat)}{it:VL}{tg:VTg}{c:VB}{f:VX}{ρ:PEnv}{xs ys:List PV}(h:it ρ=some xs) (hs:xs.length<=1000000) (h2:za1 tg c f xs (zbV src ρ)=some ys):zap src it tg c f ρ=some (.lst ys):=by
 unfold zap;rw [h];show (if zaL xs.length=true then _ else _)=_;rw [q_sm hs,if_pos rfl,h2];rfl
theorem zdt {tg:VTg}{cond:VB}{elt:VX}{α:Type}(e:α->PV) (Inv:PEnv->Prop) (g:α->Option PV):∀{xs:List α}{ρ:PEnv},Inv ρ->(∀x∈xs,∀ρ,Inv ρ -> ∃ρ1,tg (e x) ρ=some ρ1/\Inv ρ1/\((cond ρ1=some false/\g x=none) \/ ∃y,cond ρ1=some true/\elt ρ1=some y/\g x=some y))->za1 tg cond elt (xs.map e) ρ=some (xs.filterMap g)
 | [],ρ,_,_=>rfl
 | x::xs,ρ,iv,h=>by
  obtain ⟨ρ1,h1,h2,h3⟩:=h x Zf ρ iv;have ih:=zdt e Inv g (xs:=xs) h2 fun y hy=>h y (Ze _ hy);rw [Zh];unfold za1;rcases h3 with ⟨h3,h4⟩|⟨y,h3,h4,h5⟩
  ·simp only [h1,h3,ih,List.filterMap_cons,h4]
  ·simp only [h1,h3,h4,ih,List.filterMap_cons,h5]
   rfl
def zax (l:List Int):PV:=.lst (l.map PV.int)
def tupZ (e:List Int):PV:=.tup (e.map PV.int)
def dT (ns:List Int):List (Key×PV):=ns.map fun x=>(Sum.inl x,PV.bl true)
def addZ (ns:List Int) (x:Int):List Int:=if x∈ns then ns else ns++[x]
def mrgZ (ns ms:List Int):List Int:=ms.foldl addZ ns
theorem zjP (ns:List Int):(dT ns).length=ns.length:=by unfold dT;simp
theorem zuT (ns:List Int) (x:Int):((dT ns).any fun kv=>decide (kv.1=(Sum.inl x:Key)))=decide (x∈ns):=by
 unfold dT;rw [Bool.eq_iff_iff,List.any_map];simp
theorem zmE (ns:List Int) (x:Int):putP (dT ns) (.inl x) (.bl true)=dT (addZ ns x):=by
 unfold putP addZ;rw [zuT];by_cases h:x∈ns
 ·rw [if_pos (Zn h),if_pos h]
  unfold dT;rw [Zi];refine Ze1 fun y _=>?_;simp only [Function.comp];split
  ·rename_i e;rfl
  ·rfl
 ·rw [if_neg (by simpa using h),if_neg h]
  unfold dT;rw [Zr];rfl
theorem zjO:∀(ms ns:List Int),zju (dT ns) (dT ms)=dT (mrgZ ns ms)
 | [],ns=>rfl
 | m::ms,ns=>by
  show zju (putP (dT ns) (.inl m) (.bl true)) (dT ms)=_;rw [zmE,zjO ms];rfl
theorem zpl (x:Int):∀ns:List Int,(valP (dT ns) (.inl x)).isSome=decide (x∈ns)
 | []=>by simp [dT,valP]
 | n::ns=>by
  show (if (Sum.inl n:Key)=Sum.inl x then some (PV.bl true) else valP (dT ns) (.inl x)).isSome=_;by_cases h:n=x
  ·subst h;simp
  ·rw [if_neg (fun z=>h (Sum.inl.inj z)),zpl x ns]
   simp [Ne.symm h]
theorem zmF:∀ns:List Int,zkt (dT ns)=some ns
 | []=>rfl
 | n::ns=>by
  show (zkt (dT ns)).map (n::·)=_;rw [zmF ns];rfl
theorem zjw {ns:List Int}{x y:Int}:y∈addZ ns x↔y∈ns\/y=x:=by
 unfold addZ;split
 ·rename_i h
  exact ⟨.inl,fun z=>z.elim id fun e=>e ▸ h⟩
 ·simp
theorem zf0 {ns:List Int}{x:Int}(h:ns.Nodup):(addZ ns x).Nodup:=by
 unfold addZ;split
 ·exact h
 ·rename_i hx
  refine List.nodup_append.mpr ⟨h,by simp,fun a ha b hb=>?_⟩;rw [Zo1.mp hb];exact fun z=>hx (z ▸ ha)
theorem zbS {y:Int}:∀{ms ns:List Int},y∈mrgZ ns ms↔y∈ns\/y∈ms
 | [],ns=>by simp [mrgZ]
 | m::ms,ns=>by
  show y∈mrgZ (addZ ns m) ms↔_;rw [zbS,zjw,Zk];exact ⟨fun h=>h.elim (fun h=>h.elim .inl (fun h=>.inr (.inl h))) (fun h=>.inr (.inr h)),fun h=>h.elim (fun h=>.inl (.inl h)) fun h=>h.elim (fun h=>.inl (.inr h)) .inr⟩
theorem zdR:∀{ms ns:List Int},ns.Nodup->(mrgZ ns ms).Nodup
 | [],ns,h=>h
 | m::ms,ns,h=>zdR (ms:=ms) (zf0 h)
theorem zcR {y:Int}{l:List Int}:y∈srtZ l↔y∈l:=(zbW l).mem_iff
theorem zgo {l:List Int}(h:l.Nodup):(srtZ l).Pairwise (· < ·):=by
 have h1:=zgn l;have h2:(srtZ l).Nodup:=(zbW l).nodup_iff.mpr h;exact (h1.and h2).imp fun ⟨a,b⟩=>by omega
theorem zji:∀{l:List Int}{k n:Int},l.Pairwise (· < ·)->(∀x∈l,k<=x/\x < n)->k<=n->(l.length:Int)<=n - k
 | [],k,n,_,_,h=>by simp;omega
 | x::l,k,n,hp,h,hk=>by
  have hp':=Zm1.mp hp;have hx:=h x Zf;have:=zji (l:=l) (k:=x+1) (n:=n) hp'.2 (fun y hy=>by have:=hp'.1 y hy;have:=h y (Ze _ hy);omega) (by omega);simp only [Zq];omega
theorem zcy {l:List Int}{n:Nat}(h:l.Nodup) (hb:∀x∈l,0<=x/\x < (n:Int)):l.length<=n:=by
 have:=zji (k:=0) (n:=n) (zgo h) (fun x hx=>hb x (zcR.mp hx)) (by omega);rw [(zbW l).length_eq] at this;omega
theorem zqp {a b:List Int}(ha:a.Pairwise (· < ·)) (hb:b.Pairwise (· < ·)) (h:∀x,x∈a↔x∈b):a=b:=by
 have na:a.Nodup:=ha.imp fun h=>by omega
 have nb:b.Nodup:=hb.imp fun h=>by omega
 exact zcf ((List.perm_ext_iff_of_nodup na nb).mpr h) (ha.imp fun h=>by omega) (hb.imp fun h=>by omega)
def zfX:List PV->Option PV
 | [.dct ks]=>(zkt ks).bind fun ns=>if decide (ns.length < 64) then some (.lst ((srtZ ns).map PV.int)) else none
 | _=>none
theorem zns:RLV .fr zs0 zfX:=by
 intro U H ps z vs Q d hb e k
 match ps,e with
 | [.dct ks],e =>
  obtain ⟨ns,hns,e⟩:=Za.mp e;obtain ⟨h,rfl⟩:=zaD e;obtain ⟨v,rfl,a,kvs,rfl,ha,rk⟩:=hb.one;refine ⟨a,kvs,ns,rfl,ha,zh0 rk hns,of_decide_eq_true h,fun ns' hp hs l hl=>?_⟩;rw [zcf (hp.trans (zbW ns).symm) hs (zgn ns)];obtain ⟨e2,r2⟩:=zbr d hl (Reps.of_ints (srtZ ns));exact k _ _ U e2 r2
theorem zoT {ns:List Int}(h:ns.length < 64):zfX [.dct (dT ns)]=some (zax (srtZ ns)):=by
 show ((zkt (dT ns)).bind fun ns=>if decide (ns.length < 64)=true then some (PV.lst ((srtZ ns).map PV.int)) else none)=_;rw [zmF,Option.bind_some,if_pos (Zn h)];rfl
theorem znA {ns:List Int}(h:zex ns=true):zeO [zax ns]=some (zax (srtZ (ddZ ns))):=by
 show ((zgT (ns.map PV.int)).bind fun ns=>if zex ns=true then some (PV.lst ((srtZ (ddZ ns)).map PV.int)) else none)=_;rw [zfc,Option.bind_some,if_pos h];rfl
theorem znC {neg:Bool}{f g:VX}{ρ:PEnv}{ns:List Int}{i:Int}(h1:g ρ=some (.dct (dT ns))) (h2:f ρ=some (.int i)):xDIn neg f g ρ=some (.bl (if neg=true then !decide (i∈ns) else decide (i∈ns))):=by
 unfold xDIn x2;rw [h1,h2];show some (PV.bl (if neg=true then !(valP (dT ns) (Sum.inl i)).isSome else (valP (dT ns) (Sum.inl i)).isSome))=_;rw [zpl]
theorem zqz (neg:Bool) (x:Int) (l:List Int):pIn neg (.int x) (zax l)=some (.bl (if neg=true then !decide (x∈l) else decide (x∈l))):=by
 have h1:(l.map PV.int).all zfL=true:=by rw [List.all_map];exact Zp1.mpr fun _ _=>rfl
 have h2:((l.map PV.int).any fun y=>eqP y (.int x))=decide (x∈l):=by
  rw [Bool.eq_iff_iff,List.any_map,List.any_eq_true,decide_eq_true_eq];constructor
  ·rintro ⟨y,hy,e⟩
   have:y=x:=by simpa [eqP] using e
   exact this ▸ hy
  ·exact fun h=>⟨x,h,by simp [eqP]⟩
 show (if (zfL (.int x)&&(l.map PV.int).all zfL)=true then _ else _)=_;rw [h1,h2];rfl
end L2
namespace PySem
open PyProof.Rows PySem.W PySem.Spec
end PySem
namespace L2
open PySem PySem.Spec PyProof.Rows PySem.W
end L2
namespace L2
open PySem PySem.Spec PyProof.Rows
theorem range_any (bs:List Bool):((List.range bs.length).any fun i=>(bs[i]?).getD false)=bs.any id:=by
 rw [Bool.eq_iff_iff,List.any_eq_true,List.any_eq_true];constructor
 ·rintro ⟨i,hi,hb⟩
  have hl:=Zt.mp hi;rw [Zc hl] at hb;exact ⟨bs[i],Zz hl,hb⟩
 ·rintro ⟨b,hm,hb⟩
  obtain ⟨i,hi,e⟩:=List.getElem_of_mem hm;exact ⟨i,Zt.mpr hi,by rw [Zc hi,e];exact hb⟩
section
variable {X:Cx}
def rAny (K:PySem.W.Frag):List V->Hp->VK->Prop:=fun xs H Q=>∃(p:Addr) (bs:List Bool),xs = [.ref p]/\SqL K H p (bs.map V.bl)/\Q (.bl (bs.any id)) H
theorem zok (hc:X.calm=true):zbL X (.builtin "any") (rAny X.K):=by
 intro pins s σ H xs us Q I r h;obtain ⟨p,bs,rfl,hq,q⟩:=h;obtain ⟨u,rfl,rx⟩:=vals1 r;cases rx;obtain ⟨its,r',pl,hz⟩:=I.list hq;have hb:∀{its:List Value}{bs:List Bool},Vals (bs.map V.bl) its->its=bs.map Value.bool:=fun {its bs}=>by
  induction bs generalizing its with
  | nil=>intro h;cases h;rfl
  | cons b bs ih=>intro h;cases h with|cons a t=>cases a;rw [ih t];rfl
 have eb:=hb r';subst eb;have hl:=pl.isList;have hlt:p < s.heap.objs.size:=by obtain ⟨_,e,_⟩:=hl;exact Heap.lt_size e
 refine call_any_walk (wpAny_pyIter_list hl ?_);refine ⟨s.heap.objs.size,[s.heap.objs.size,p],[s.heap.objs.size],(bs.map Value.bool).toArray.size,_,_,fun i=>(bs[i]?).getD false,rfl,Walks.list (A:=X.A.in1) (I.ok.hd hc) _ p (Nat.ne_of_lt hlt) (bs.map Value.bool).toArray,
  ⟨⟨_,Heap.get?_push_size _ rfl,rfl,rfl⟩,hl.push _⟩,fun i v s' Q' E' hP hQ=>?_,fun h' tk hk=>?_⟩
 ·have e:bs[i]?.map Value.bool=some v:=by simpa using hP
  obtain ⟨b,eb,rfl⟩:=Zb.mp e;simp only [eb,Option.getD_some] at hQ;exact wpAny_truthy_bool hQ
 ·have e:((List.range (bs.map Value.bool).toArray.size).any fun i=>(bs[i]?).getD false)=bs.any id:=by
   rw [Zm,Zd];exact range_any bs
  rw [e];exact ⟨.bl _,H,I.kept (t':=tk) (LSm.kept_iter hk),rfl,q⟩
end
theorem zmP {X:Cx}{K:PySem.W.Frag}(hK:X.K=K) (hc:X.calm=true):zbL X (.builtin "any") (rAny K):=hK ▸ zok hc
def pAny:List PV->Option PV
 | [.lst ps]=>(bools ps).map fun bs=>.bl (bs.any id)
 | _=>none
theorem zsV {Kf:PySem.W.Frag}:RLV .shr (rAny Kf) pAny:=by
 intro U H ps z vs Q d hb e k
 match ps,e with
 | [.lst qs],e =>
  obtain ⟨bs,hbs,rfl⟩:=Zb.mp e;obtain ⟨v,rfl,a,xs,rfl,ha,rx⟩:=hb.one;rw [zfo hbs] at rx;have hx:=rx.bls;subst hx;exact ⟨a,bs,rfl,SqL.of ha,k _ H U (.refl d) (repB U H _)⟩
def zit (i:Nat) (fk f:VX):VF:=fun ρ=>(f ρ).bind fun q=>(fk ρ).bind fun kk=>wr i (fun p=>match p,kk with
 | .lst ps,.int k=>(ixN ps.length k).map fun j=>.lst (ps.set j q)
 | _,_=>none) ρ
theorem zpA {m:Md}{i:Nat}{te tk:TE}{f fk:VX}(h:VE .shr te f) (hk:VE m tk fk):VS (tAsg te (gSub (tVar i) tk zqs)) (zit i fk f):=by
 intro U O H σ ρ D o s e q;obtain ⟨y,hy,e⟩:=Za.mp e;obtain ⟨kk,hkk,e⟩:=Za.mp e;obtain ⟨p,p',hp,hg,rfl⟩:=zes e;obtain ⟨v,hv,a,rfl,oa,tp⟩:=s.slot i p .own hp;cases p with
 | lst ps =>
  cases kk with
  | int k =>
   obtain ⟨xs,hx,rx⟩:=tp;obtain ⟨j,hj,rfl⟩:=Zb.mp hg;refine h U O H σ ρ _ y s hy fun w H1 U1 ex r1=>?_;have s1:=s.ext ex;refine ⟨.ref a,hv,hk.bor U1 O H1 σ ρ _ _ s1 hkk fun w2 H2 U2 ex2 r2=>?_⟩;have ek:w2=.int k:=zaG (U:=U2) (H:=H2) r2;subst ek;have s2:=s1.ext ex2;have hx2:=ex2.same _ _ (ex.same _ _ hx);have rx2:=Reps.keeps ex2.keeps _ _ (Reps.keeps ex.keeps _ _ rx);have ry2:=Rep.keeps ex2.keeps _ _ r1;have k0:=zdD (u':=.lst (xs.set j w)) s2 oa hx2 (fun _ z=>nomatch z);obtain ⟨s3,t3,_⟩:=s2.write (p':=.lst (ps.set j y)) (u:=.lst (xs.set j w)) hp hv (fun _ z=>nomatch z) ⟨_,zaf,Reps.set (Rep.keeps k0 _ _ ry2) j (Reps.keeps k0 _ _ rx2)⟩;exact ⟨a,xs,k,j,rfl,rfl,hx2,by rw [rx.length];exact hj,q U2 O _ σ s3 ((ex.tr.trans ex2.tr).trans t3)⟩
  | _=>cases hg
 | _=>cases hg
def isL:PV->Bool
 | .lst _=>true
 | .dct _=>true
 | _=>false
def zvE (i:Nat) (f:VX):VF:=fun ρ=>(f ρ).map fun p=>.nx (ρ.set i (some (p,if isL p=true then .own else .shr)))
open PySem.SeqAt
def zs5:List V->Hp->VK->Prop:=fun xs H Q=>∃b,xs = [.bl b]/\Q (.int (if b=true then 1 else 0)) H
theorem zmO {X:Cx}:zbL X (.type "int") zs5:=by
 intro pins s σ H xs us Q I r h;obtain ⟨b,rfl,q⟩:=h;obtain ⟨u,rfl,rx⟩:=vals1 r;cases rx;exact call_int_bool ⟨.int _,H,I.tok _,⟨_,rfl⟩,q⟩
def zlH:List PV->Option PV
 | [.bl b]=>some (.int (if b=true then 1 else 0))
 | _=>none
theorem zqo:RLV .shr zs5 zlH:=by
 intro U H ps z vs Q d hb e k
 match ps,e with
 | [.bl b],e =>
  cases e;obtain ⟨v,rfl,hv⟩:=hb.one;have:=zmS hv;subst this;exact ⟨b,rfl,k _ H U (.refl d) (repI U H _)⟩
def xBM (g:PV->List PV->Option PV) (f:VX) (fa:VL):VX:=fun ρ=>(f ρ).bind fun p=>(fa ρ).bind fun qs=>g p qs
end L2
namespace PySem
open PyProof.Rows PySem.W
end PySem
namespace L2
open PySem PySem.Spec PyProof.Rows PySem.SeqAt
def znZ (d:Int):List Int->Int
 | []=>d
 | [x]=>x
 | x::y::r=>let m:=znZ d (y::r);if m<=x then x else m
def zvw (fa fk:VL):VX:=fun ρ=>(fa ρ).bind fun ps=>(fk ρ).bind fun qs=>match ps,qs with
 | [.lst ps],[.int d]=>(zgT ps).map fun ns=>.int (znZ d ns)
 | _,_=>none
end L2
namespace HT
open PySem PyProof.Rows
end HT
namespace L2
open PySem PySem.Spec PyProof.Rows
end L2
namespace PySem.W
open PySem PySem.Spec PySem.Calls PyProof.Rows Builtin Builtin.ObjectAttr Builtin.Getset_descriptor
end PySem.W
namespace L2
open PySem PySem.Spec PyProof.Rows
end L2
namespace WB
open PySem L2
def zcE:VF:=(vSeq (zai 2 (x1 pNeg (xC (.int (1)))))
 (vSeq (vFor (itT (zaa 0)) (gN 3)
 (vSeq (vIf (bOr (bOf (x2 pLe (zaa 3) (zaa 2))) (bOf (x2 pGe (zaa 3) (zaa 1))))
 (vRet (xC (.bl false)) false)
 zak)
 (zai 2 (zaa 3))))
 (vRet (x2 pLe (xL pLen (zab (zaa 0) lNil)) (xC (.int (3)))) false)))
def zaO:List PV->Option PV:=fnM 2 4 false zcE
def zeq:VF:=(vSeq (vIf (bOr (bOf (x2 (pEqL 3 false) (zaa 0) (xL zar lNil))) (bOf (x2 pGt (xL pLen (zab (zaa 0) lNil)) (xC (.int (40))))))
 (vRet (xC (.bl false)) false)
 zak)
 (vRet (xL pAll (zab (zap [none,none] (itE (zab (zaa 0) lNil)) (gT [0,1]) zaC (xL zaO (zab (zaa 1) (zab (zaa 0) lNil)))) lNil)) false))
def zdF:List PV->Option PV:=fnM 1 1 false zeq
def zdb:VF:=(vIf (bNot (bOf (xL zdF (zab (zaa 0) lNil))))
 zct
 zak)
def zb0:List PV->Option PV:=fnM 1 1 false zdb
def zcC:VF:=(vRet (zdj pLe pLt (xC (.int (0))) (zaa 1) (xL pLen (zab (zaa 0) lNil))) false)
def zbm:List PV->Option PV:=fnM 2 2 false zcC
def zbh:VF:=(vSeq (zbE (xL zb0 (zab (zaa 0) lNil)))
 (vIf (bNot (bOf (xL pAll (zab (zap [none,some 0] (itL (zaa 1)) (gN 0) zaC (xL zbm (zab (zaa 1) (zab (zaa 0) lNil)))) lNil))))
 zct
 zak))
def zas:List PV->Option PV:=fnM 2 2 false zbh
def ziK:VF:=(vSeq (zaR 2 (fun _=>some (.dct [])))
 (vSeq (vFor (itL (zaa 1)) (gN 3)
 (vFor (itT (x2 pIxL (zaa 0) (zaa 3))) (gN 4)
 (zbU 2 (zaa 4) (xC (.bl true)))))
 (zb2 2)))
def zde:List PV->Option PV:=fnM 2 5 true ziK
def zlX:VF:=(vSeq (zbE (xL zas (zab (zaa 0) (zab (xL zar (zab (zaa 1) lNil)) lNil))))
 (vSeq (zaR 2 (zg7 (zaa 1) (xC (.bl true))))
 (vSeq (vFor (itRD (zab (zaa 1) (zab (x1 pNeg (xC (.int (1)))) (zab (x1 pNeg (xC (.int (1)))) lNil)))) (gN 3)
 (vIf (bOf (xDIn false (zaa 3) (xVar 2)))
 (zni 2 (xL zde (zab (zaa 0) (zab (xL zar (zab (zaa 3) lNil)) lNil))))
 zak))
 (vRet (xL zfX (zab (xVar 2) lNil)) true))))
def zro:List PV->Option PV:=fnM 2 4 true zlX
abbrev Web:=List (List Int)
def webP (w:Web):PV:=.lst (w.map tupZ)
def zdV (k:Int) (e:List Int):Prop:=e.Pairwise (· < ·)/\(∀x∈e,0<=x/\x < k)/\e.length<=3
def Good (w:Web):Prop:=w≠[]/\w.length<=40 /\ ∀(i:Nat) (e:List Int),w[i]?=some e->zdV i e
def aeB:VF:=(vSeq (vIf (bOr (bOf (x2 pLe (zaa 3) (zaa 2))) (bOf (x2 pGe (zaa 3) (zaa 1))))
 (vRet (xC (.bl false)) false)
 zak)
 (zai 2 (zaa 3)))
theorem zmW (t:PV) (k:Int):∀(e:List Int) (last:Int) (s3:Option (PV×Fl)),e.Pairwise (· < ·)->(∀x∈e,last < x/\x < k) ->
  ∃l s,za2 (gN 3) aeB (e.map PV.int) [some (t,.shr),some (.int k,.shr),some (.int last,.shr),s3]=some (.nx [some (t,.shr),some (.int k,.shr),some (.int l,.shr),s])
 | [],last,s3,_,_=>⟨last,s3,rfl⟩
 | x::e,last,s3,hp,h=>by
  have hp':=Zm1.mp hp;have hx:=h x Zf;obtain ⟨l,s,hl⟩:=zmW t k e x (some (.int x,.shr)) hp'.2 fun y hy=>⟨hp'.1 y hy,(h y (Ze _ hy)).2⟩
  refine ⟨l,s,?_⟩;rw [<- hl,Zh];refine zbz (ρ1:=[some (t,.shr),some (.int k,.shr),some (.int last,.shr),some (.int x,.shr)]) rfl ?_;have c1:bOf (x2 pLe (zaa 3) (zaa 2)) [some (t,.shr),some (.int k,.shr),some (.int last,.shr),some (.int x,.shr)]=some false:=q_b ((q_x2 rfl rfl).trans ((q_le x last).trans (by rw [Zo (by omega)])));have c2:bOf (x2 pGe (zaa 3) (zaa 1)) [some (t,.shr),some (.int k,.shr),some (.int last,.shr),some (.int x,.shr)]=some false:=q_b ((q_x2 rfl rfl).trans ((q_ge x k).trans (by rw [Zo (by omega)])));refine (q_nx ((za3 ((zkc c1).trans c2)).trans rfl)).trans rfl
theorem ae {k:Int}{e:List Int}(h:zdV k e):zaO [tupZ e,.int k]=some (.bl true):=by
 obtain ⟨h1,h2,h3⟩:=h;obtain ⟨l,s,hl⟩:=zmW (tupZ e) k e (-1) none h1 fun x hx=>by have:=h2 x hx;omega
 refine zay (b:=false) rfl ?_ rfl;refine (q_nx (ρ':=[some (tupZ e,.shr),some (.int k,.shr),some (.int (-1),.shr),none]) rfl).trans ?_;refine (q_nx ((zbM (xs:=e.map PV.int) rfl).trans hl)).trans ?_;refine zcV ?_;refine (q_x2 ((q_xL (ps:=[tupZ e]) rfl).trans (ztC _)) rfl).trans ?_;rw [q_le,Zd,Zn (by omega)]
theorem zjH {α:Type}(g:α->PV):∀(l:List α) (k:Nat),(l.map g).zipIdx k=(l.zipIdx k).map fun q=>(g q.1,q.2)
 | [],_=>rfl
 | x::l,k=>by simp [List.zipIdx_cons,zjH g l]
theorem zge:∀(n:Nat),bools (List.replicate n (PV.bl true))=some (List.replicate n true)
 | 0=>rfl
 | n+1=>by
  rw [List.replicate_succ,List.replicate_succ];show (bools (List.replicate n (PV.bl true))).map (true::·)=_;rw [zge n];rfl
theorem all_true (n:Nat):pAll [.lst (List.replicate n (PV.bl true))]=some (.bl true):=by
 show (bools (List.replicate n (PV.bl true))).map (fun bs=>PV.bl (bs.all id))=_;rw [zge];simp
theorem ziP {α:Type}:∀(l:List α),(l.filterMap fun _=>some (PV.bl true))=List.replicate l.length (PV.bl true)
 | []=>rfl
 | x::l=>by rw [List.filterMap_cons];simp only;rw [ziP l];rfl
theorem isw {w:Web}(h:Good w):zdF [webP w]=some (.bl true):=by
 obtain ⟨h1,h2,h3⟩:=h;refine zay (b:=false) rfl ?_ rfl;show zeq [some (webP w,.shr)]=_;have c1:bOf (x2 (pEqL 3 false) (zaa 0) (xL zar lNil)) [some (webP w,.shr)]=some false:=by
  refine q_b ((q_x2 (p:=webP w) (q:=.lst []) rfl rfl).trans ?_);cases w with
  | nil=>exact absurd rfl h1
  | cons e w =>
   have:peq (.lst ((e::w).map tupZ)) (.lst [])=false:=by
    cases hh:peq (.lst ((e::w).map tupZ)) (.lst []) with
    | false=>rfl
    | true=>have:=zbj.mp hh;simp at this
   unfold webP;simp only [pEqL,Zh,zb6,if_true];rw [Zh] at this;rw [this];rfl
 have c2:bOf (x2 pGt (xL pLen (zab (zaa 0) lNil)) (xC (.int (40)))) [some (webP w,.shr)]=some false:=by
  refine q_b ((q_x2 ((q_xL (ps:=[webP w]) rfl).trans (zln _)) rfl).trans ?_);rw [q_gt,Zd,Zo (by omega)]
 refine (q_nx ((za3 ((zkc c1).trans c2)).trans rfl)).trans ?_;refine zcV ?_;have c3:za1 (gT [0,1]) zaC (xL zaO (zab (zaa 1) (zab (zaa 0) lNil))) (zcj (w.map tupZ)) (zbV [none,none] [some (webP w,.shr)])=some (List.replicate w.length (.bl true)):=by
  have e1:zcj (w.map tupZ)=w.zipIdx.map fun q=>.tup [.int (q.2:Nat),tupZ q.1]:=by
   unfold zcj;rw [zjH,Zi];rfl
  rw [e1];refine (zdt (α:=List Int×Nat) (fun q=>.tup [.int (q.2:Nat),tupZ q.1]) (fun ρ=>ρ.length=2) (fun q=>some (.bl true)) (xs:=w.zipIdx) rfl ?_).trans ?_
  ·intro q hq ρ hρ
   match ρ,hρ with
   | [a,b],_ =>
    refine ⟨[some (.int (q.2:Nat),.shr),some (tupZ q.1,.shr)],rfl,rfl,.inr ⟨.bl true,rfl,?_,rfl⟩⟩;have hg:w[q.2]?=some q.1:=by
     obtain ⟨x,i⟩:=q;exact (List.mem_zipIdx_iff_getElem?.mp hq)
    exact (q_xL (ps:=[tupZ q.1,.int (q.2:Nat)]) rfl).trans (ae (h3 _ _ hg))
  ·rw [ziP,List.length_zipIdx]
 refine (q_xL (q_l1 (zjk (xs:=zcj (w.map tupZ)) rfl ?_ c3))).trans (all_true _);unfold zcj;simp;omega
theorem chw {w:Web}(h:Good w):zb0 [webP w]=some .non:=by
 refine zhy (ρ:=[some (webP w,.shr)]) rfl ?_;exact (za3 (zlm (q_b ((q_xL (ps:=[webP w]) rfl).trans (isw h))))).trans rfl
theorem isv (w:Web) (v:Int) (h0:0<=v) (h1:v < w.length):zbm [webP w,.int v]=some (.bl true):=by
 refine zay (b:=false) rfl (zcV (p:=.bl true) ?_) rfl;show zdj pLe pLt (xC (.int (0))) (zaa 1) (xL pLen (zab (zaa 0) lNil)) [some (webP w,.shr),some (.int v,.shr)]=_;unfold zdj;show (match pLe (.int 0) (.int v) with|some (.bl true)=>_|some (.bl false)=>_|_=>_)=_;rw [q_le,Zn h0];show pLt (.int v) (.int ((w.map tupZ).length:Nat))=_;rw [q_lt,Zd,Zn h1]
theorem chv {w:Web}(h:Good w) (vs:List Int) (hv:∀v∈vs,0<=v/\v < w.length) (hl:vs.length<=1000):zas [webP w,zax vs]=some .non:=by
 refine zhy (ρ:=[some (webP w,.shr),some (zax vs,.shr)]) rfl ?_;show zbh [some (webP w,.shr),some (zax vs,.shr)]=_;refine (q_nx (zd4 ((q_xL (ps:=[webP w]) rfl).trans (chw h)))).trans ?_;have c3:za1 (gN 0) zaC (xL zbm (zab (zaa 1) (zab (zaa 0) lNil))) (vs.map PV.int) (zbV [none,some 0] [some (webP w,.shr),some (zax vs,.shr)])=some (List.replicate vs.length (.bl true)):=by
  refine (zdt PV.int (fun ρ=>∃s,ρ = [s,some (webP w,.shr)]) (fun q=>some (.bl true)) (xs:=vs) ⟨none,rfl⟩ ?_).trans ?_
  ·rintro x hx ρ ⟨s,rfl⟩
   refine ⟨[some (.int x,.shr),some (webP w,.shr)],rfl,⟨_,rfl⟩,.inr ⟨.bl true,rfl,?_,rfl⟩⟩;exact (q_xL (ps:=[webP w,.int x]) rfl).trans (isv w x (hv x hx).1 (hv x hx).2)
  ·rw [ziP]
 refine (za3 ((zlm (q_b ((q_xL (q_l1 (zjk (xs:=vs.map PV.int) rfl (by simp;omega) c3))).trans (all_true _)))).trans rfl)).trans rfl
theorem zr4 {w:Web}{v:Int}(h0:0<=v) (h1:v < w.length):∃e,w[v.toNat]?=some e/\atI (w.map tupZ) v=some (tupZ e):=by
 have hl:v.toNat < w.length:=by omega
 refine ⟨w[v.toNat],Zc hl,?_⟩;have e:=q_at (l:=w.map tupZ) (i:=v.toNat) (x:=tupZ w[v.toNat]) (by rw [Zj,Zc hl];rfl);rw [Int.toNat_of_nonneg h0] at e;exact e
def eld (w:Web) (v:Int):List Int:=(w[v.toNat]?).getD []
theorem zby {w:Web}(h:Good w) {v:Int}(h0:0<=v) (h1:v < w.length):zdV v (eld w v):=by
 have hl:v.toNat < w.length:=by omega
 have e:w[v.toNat]?=some w[v.toNat]:=Zc hl;have:=h.2.2 _ _ e;rw [Int.toNat_of_nonneg h0] at this;unfold eld;rw [e];exact this
theorem zmf {w:Web}{v:Int}(h0:0<=v) (h1:v < w.length):pIxL (webP w) (.int v)=some (tupZ (eld w v)):=by
 obtain ⟨e,h2,h3⟩:=zr4 (w:=w) h0 h1;unfold eld;rw [h2];exact h3
theorem zjl {i k:Nat}{ρf:List Int->Option (PV×Fl)->PEnv}(h1:∀ns s,(ρf ns s)[i]?=some (some (.dct (dT ns),.own))) (h2:∀ns s x,gN k (.int x) (ρf ns s)=some (ρf ns (some (.int x,.shr)))) (h3:∀ns x,zaa k (ρf ns (some (.int x,.shr)))=some (.int x))
  (h4:∀ns s ms,(ρf ns s).set i (some (.dct (dT ms),.own))=ρf ms s):∀(e:List Int) (ns:List Int) (s:Option (PV×Fl)),ns.length+e.length<=1000 ->
  ∃s',za2 (gN k) (zbU i (zaa k) (xC (.bl true))) (e.map PV.int) (ρf ns s)=some (.nx (ρf (mrgZ ns e) s'))
 | [],ns,s,_=>⟨s,rfl⟩
 | x::e,ns,s,hl=>by
  have hl':(addZ ns x).length<=ns.length+1:=by unfold addZ;split<;>simp
  simp only [Zq] at hl;obtain ⟨s',ih⟩:=zjl h1 h2 h3 h4 e (addZ ns x) (some (.int x,.shr)) (by omega);refine ⟨s',?_⟩;rw [Zh];refine (zbz (h2 ns s x) (ρ':=ρf (addZ ns x) (some (.int x,.shr))) ?_).trans ih;refine (zfS rfl (h3 ns x) (h1 _ _) (by rw [zjP];omega)).trans ?_;rw [zmE,h4]
theorem eo {w:Web}(h:Good w) {v:Int}(h0:0<=v) (h1:v < w.length):zde [webP w,zax [v]]=some (.dct (dT (mrgZ [] (eld w v)))):=by
 have hg:=zby h h0 h1;refine zay (b:=true) rfl ?_ rfl;refine (q_nx (ρ':=[some (webP w,.shr),some (zax [v],.shr),some (.dct (dT []),.own),none,none]) rfl).trans ?_;obtain ⟨s',hs⟩:=zjl (i:=2) (k:=4) (ρf:=fun ns s=>[some (webP w,.shr),some (zax [v],.shr),some (.dct (dT ns),.own),some (.int v,.shr),s]) (fun _ _=>rfl) (fun _ _ _=>rfl) (fun _ _=>rfl) (fun _ _ _=>rfl) (eld w v) [] none (by have:=hg.2.2;simp;omega);have l1:vFor (itL (zaa 1)) (gN 3) (vFor (itT (x2 pIxL (zaa 0) (zaa 3))) (gN 4) (zbU 2 (zaa 4) (xC (.bl true)))) [some (webP w,.shr),some (zax [v],.shr),some (.dct (dT []),.own),none,none]=some (.nx [some (webP w,.shr),some (zax [v],.shr),some (.dct (dT (mrgZ [] (eld w v))),.own),some (.int v,.shr),s']):=by
  refine (zbM (xs:=[.int v]) rfl).trans ?_;refine (zbz (ρ1:=[some (webP w,.shr),some (zax [v],.shr),some (.dct (dT []),.own),some (.int v,.shr),none]) rfl ((zbM (zlo ((q_x2 rfl rfl).trans (zmf h0 h1)))).trans hs)).trans rfl
 refine (q_nx l1).trans rfl
def abS (w:Web) (ns:List Int) (k:Int):List Int:=if k∈ns then mrgZ ns (mrgZ [] (eld w k)) else ns
def abR (w:Web) (v:Int):List Int:=((List.range (v+1).toNat).map fun (i:Nat)=>v - (i:Int)).foldl (abS w) [v]
def ab (w:Web) (v:Int):List Int:=srtZ (abR w v)
theorem zu7 {w:Web}(h:Good w) {ns:List Int}{k:Int}(h0:0<=k) (h1:k < w.length) (hn:ns.Nodup) (hb:∀x∈ns,0<=x/\x < (w.length:Int)):(abS w ns k).Nodup/\(∀x∈abS w ns k,0<=x/\x < (w.length:Int)) /\ ∀x∈ns,x∈abS w ns k:=by
 unfold abS;split
 ·refine ⟨zdR hn,fun x hx=>?_,fun x hx=>zbS.mpr (.inl hx)⟩
  rcases zbS.mp hx with hx|hx
  ·exact hb x hx
  ·rcases zbS.mp hx with hx|hx
   ·cases hx
   ·have:=(zby h h0 h1).2.1 x hx;omega
 ·exact ⟨hn,hb,fun x hx=>hx⟩
def abB:VF:=(vIf (bOf (xDIn false (zaa 3) (xVar 2)))
 (zni 2 (xL zde (zab (zaa 0) (zab (xL zar (zab (zaa 3) lNil)) lNil))))
 zak)
theorem zmX {w:Web}(h:Good w) (v:PV):∀(ks:List Int) (ns:List Int) (s:Option (PV×Fl)),(∀k∈ks,0<=k/\k < (w.length:Int))->ns.Nodup->(∀x∈ns,0<=x/\x < (w.length:Int)) ->
  (∃s',za2 (gN 3) abB (ks.map PV.int) [some (webP w,.shr),some (v,.shr),some (.dct (dT ns),.own),s]=some (.nx [some (webP w,.shr),some (v,.shr),some (.dct (dT (ks.foldl (abS w) ns)),.own),s'])) /\
  (ks.foldl (abS w) ns).Nodup/\(∀x∈ks.foldl (abS w) ns,0<=x/\x < (w.length:Int)) /\ ∀x∈ns,x∈ks.foldl (abS w) ns
 | [],ns,s,_,hn,hb=>⟨⟨s,rfl⟩,hn,hb,fun x hx=>hx⟩
 | k::ks,ns,s,hk,hn,hb=>by
  have hk0:=hk k Zf;obtain ⟨a1,a2,a3⟩:=zu7 h hk0.1 hk0.2 hn hb;obtain ⟨⟨s',ih⟩,b1,b2,b3⟩:=zmX h v ks (abS w ns k) (some (.int k,.shr)) (fun x hx=>hk x (Ze _ hx)) a1 a2;refine ⟨⟨s',?_⟩,b1,b2,fun x hx=>b3 x (a3 x hx)⟩;rw [Zh,List.foldl_cons,<- ih];refine zbz (ρ1:=[some (webP w,.shr),some (v,.shr),some (.dct (dT ns),.own),some (.int k,.shr)]) rfl ?_;have c1:bOf (xDIn false (zaa 3) (xVar 2)) [some (webP w,.shr),some (v,.shr),some (.dct (dT ns),.own),some (.int k,.shr)]=some (decide (k∈ns)):=q_b (znC (neg:=false) rfl rfl);by_cases hm:k∈ns
  ·rw [Zn hm] at c1
   refine (zcr c1).trans ?_;have hlen:=zcy hn hb;have hg:=zby h hk0.1 hk0.2;have hl2:(mrgZ [] (eld w k)).length<=w.length:=zcy (zdR List.nodup_nil) fun x hx=>by
    rcases zbS.mp hx with hx|hx
    ·cases hx
    ·have:=hg.2.1 x hx;omega
   have hw:=h.2.1;refine (ztD (ks:=dT ns) ((q_xL (ps:=[webP w,zax [k]]) rfl).trans (eo h hk0.1 hk0.2)) rfl (by rw [zjP,zjP];omega)).trans ?_;rw [zjO];unfold abS;rw [if_pos hm];rfl
  ·rw [Zo hm] at c1
   refine (za3 c1).trans ?_;unfold abS;rw [if_neg hm];rfl
theorem zi1 {w:Web}(h:Good w) {v:Int}(h0:0<=v) (h1:v < w.length):zro [webP w,.int v]=some (zax (ab w v))/\(ab w v).Pairwise (· < ·)/\(∀x∈ab w v,0<=x/\x < (w.length:Int))/\v∈ab w v:=by
 have hks:∀k∈(List.range (v+1).toNat).map (fun (i:Nat)=>v - (i:Int)),0<=k/\k < (w.length:Int):=by
  intro k hk;obtain ⟨i,hi,rfl⟩:=Zs.mp hk;have:=Zt.mp hi;omega
 obtain ⟨⟨s',e1⟩,e2,e3,e4⟩:=zmX h (.int v) ((List.range (v+1).toNat).map fun (i:Nat)=>v - (i:Int)) [v] none hks (by simp) (by simp;omega);refine ⟨?_,zgo e2,fun x hx=>e3 x (zcR.mp hx),zcR.mpr (e4 v (by simp))⟩;refine zay (b:=true) rfl ?_ rfl;show zlX [some (webP w,.shr),some (.int v,.shr),none,none]=_;have hw:=h.2.1;refine (q_nx (zd4 ((q_xL (ps:=[webP w,zax [v]]) rfl).trans (chv h [v] (by simp;omega) (by simp))))).trans ?_;refine (q_nx (ρ':=[some (webP w,.shr),some (.int v,.shr),some (.dct (dT [v]),.own),none]) rfl).trans ?_;have l1:vFor (itRD (zab (zaa 1) (zab (x1 pNeg (xC (.int (1)))) (zab (x1 pNeg (xC (.int (1)))) lNil)))) (gN 3) abB [some (webP w,.shr),some (.int v,.shr),some (.dct (dT [v]),.own),none]=some (.nx [some (webP w,.shr),some (.int v,.shr),some (.dct (dT (abR w v)),.own),s']):=by
  refine (zbM (zoU (i:=v) (j:=-1) rfl (by omega) (by omega))).trans ?_;have:dwnP v (v - -1).toNat=((List.range (v+1).toNat).map fun (i:Nat)=>v - (i:Int)).map PV.int:=by
   unfold dwnP;rw [Zi];rfl
  rw [this];exact e1
 refine (q_nx l1).trans ?_;refine zcV ?_;refine (q_xL (q_l1 (p:=.dct (dT (abR w v))) rfl)).trans (zoT ?_);have:=zcy e2 e3;show (abR w v).length < 64;unfold abR;omega
theorem zmB:∀l:List Int,(ddZ l).length<=l.length
 | []=>Nat.le_refl _
 | x::l=>by
  have:=zmB l;unfold ddZ;split<;>simp<;>omega
theorem zdw (a v:Int) (h:0 < v):0<=a % v/\a % v < v:=⟨Int.emod_nonneg _ (by omega),Int.emod_lt_of_pos _ h⟩
theorem zpq {w:Web}{e:List Int}(h:∀(i:Nat) (e:List Int),w[i]?=some e->zdV i e) (he:zdV (w.length:Nat) e):∀(i:Nat) (x:List Int),(w++[e])[i]?=some x->zdV i x:=by
 intro i x hx;by_cases hi:i < w.length
 ·rw [Za1 hi] at hx
  exact h i x hx
 ·rw [List.getElem?_append_right (by omega)] at hx
  have:i - w.length=0:=by
   cases hd:i - w.length with
   | zero=>rfl
   | succ n=>rw [hd] at hx;simp at hx
  rw [this] at hx;have e1:i=w.length:=by omega
  rw [e1];simp at hx;exact hx ▸ he
theorem zkb (n:Nat):((List.range n).map fun (i:Nat)=>(i:Int)).Pairwise (· < ·):=by
 rw [List.pairwise_map];exact (List.pairwise_lt_range (n:=n)).imp fun h=>by omega
end WB
namespace L2
open PySem
theorem zfA {tg:VTg}{body:VF}{xs:List PV}{ρ:PEnv}(Inv:Nat->PEnv->Prop) (h0:Inv 0 ρ)
  (step:∀i x ρ,xs[i]?=some x->Inv i ρ -> ∃ρ1 ρ',tg x ρ=some ρ1/\body ρ1=some (.nx ρ')/\Inv (i+1) ρ'):∃ρ',za2 tg body xs ρ=some (.nx ρ')/\Inv xs.length ρ':=by
 have go:∀(n i:Nat) (ρ:PEnv),xs.length - i=n->i<=xs.length->Inv i ρ -> ∃ρ',za2 tg body (xs.drop i) ρ=some (.nx ρ')/\Inv xs.length ρ':=by
  intro n
  induction n with
  | zero =>
   intro i ρ hn hi iv;have:i=xs.length:=by omega
   subst this;rw [List.drop_length];exact ⟨ρ,rfl,iv⟩
  | succ n ih =>
   intro i ρ hn hi iv;have hl:i < xs.length:=by omega
   obtain ⟨ρ1,ρ',h1,h2,h3⟩:=step i xs[i] ρ (Zc hl) iv;obtain ⟨ρ2,h4,h5⟩:=ih (i+1) ρ' (by omega) hl h3;refine ⟨ρ2,?_,h5⟩;rw [List.drop_eq_getElem_cons hl];exact (zbz h1 h2).trans h4
 simpa using go xs.length 0 ρ (by simp) (Nat.zero_le _) h0
end L2
namespace WB
open PySem L2
end WB
namespace L2
open PySem
theorem zag {α:Type}{a b:α}(h:a=b):a=b:=by cases h;exact rfl
def seqO (o:Option Out) (G:VF):Option Out:=match o with
 | some (.nx ρ)=>G ρ
 | o=>o
theorem zxu (F G:VF) (ρ:PEnv):vSeq F G ρ=seqO (F ρ) G:=zag rfl
theorem zow (ρ:PEnv) (G:VF):seqO (some (.nx ρ)) G=G ρ:=zag rfl
theorem zov (p:PV) (b:Bool) (G:VF):seqO (some (.rt p b)) G=some (.rt p b):=zag rfl
theorem zoy (ρ:PEnv) (G:VF):seqO (some (.bk ρ)) G=some (.bk ρ):=zag rfl
theorem zox (ρ:PEnv) (G:VF):seqO (some (.ct ρ)) G=some (.ct ρ):=zag rfl
def ifO (c:Option Bool) (F G:VF) (ρ:PEnv):Option Out:=match c with
 | some true=>F ρ
 | some false=>G ρ
 | none=>none
theorem E_if (c:VB) (F G:VF) (ρ:PEnv):vIf c F G ρ=ifO (c ρ) F G ρ:=zag rfl
theorem zvo (F G:VF) (ρ:PEnv):ifO (some true) F G ρ=F ρ:=zag rfl
theorem zvp (F G:VF) (ρ:PEnv):ifO (some false) F G ρ=G ρ:=zag rfl
def ifX (c:Option Bool) (F G:VX) (ρ:PEnv):Option PV:=match c with
 | some true=>F ρ
 | some false=>G ρ
 | none=>none
theorem zxB (c:VB) (F G:VX) (ρ:PEnv):xIf c F G ρ=ifX (c ρ) F G ρ:=zag rfl
theorem zrS (F G:VX) (ρ:PEnv):ifX (some true) F G ρ=F ρ:=zag rfl
theorem zrT (F G:VX) (ρ:PEnv):ifX (some false) F G ρ=G ρ:=zag rfl
def andO (c:Option Bool) (G:VB) (ρ:PEnv):Option Bool:=match c with
 | some true=>G ρ
 | some false=>some false
 | none=>none
theorem zxK (c G:VB) (ρ:PEnv):bAnd c G ρ=andO (c ρ) G ρ:=zag rfl
theorem zrZ (G:VB) (ρ:PEnv):andO (some true) G ρ=G ρ:=zag rfl
theorem zr0 (G:VB) (ρ:PEnv):andO (some false) G ρ=some false:=zag rfl
def orO (c:Option Bool) (G:VB) (ρ:PEnv):Option Bool:=match c with
 | some true=>some true
 | some false=>G ρ
 | none=>none
theorem E_or (c G:VB) (ρ:PEnv):bOr c G ρ=orO (c ρ) G ρ:=zag rfl
theorem zvk (G:VB) (ρ:PEnv):orO (some true) G ρ=some true:=zag rfl
theorem zvl (G:VB) (ρ:PEnv):orO (some false) G ρ=G ρ:=zag rfl
def bind1 (o:Option PV) (g:PV->Option PV):Option PV:=o.bind g
def zu4 (a b:Option PV) (g:PV->PV->Option PV):Option PV:=a.bind fun p=>b.bind fun q=>g p q
def bindL (o:Option (List PV)) (g:List PV->Option PV):Option PV:=o.bind g
def zuV (o:Option PV) (r:Option (List PV)):Option (List PV):=o.bind fun p=>r.bind fun ps=>some (p::ps)
theorem E_x1 (g:PV->Option PV) (f:VX) (ρ:PEnv):x1 g f ρ=bind1 (f ρ) g:=zag rfl
theorem zxr (p:PV) (g:PV->Option PV):bind1 (some p) g=g p:=zag rfl
theorem E_x2 (g:PV->PV->Option PV) (f h:VX) (ρ:PEnv):x2 g f h ρ=zu4 (f ρ) (h ρ) g:=zag rfl
theorem zxq (p q:PV) (g:PV->PV->Option PV):zu4 (some p) (some q) g=g p q:=zag rfl
theorem E_xL (g:List PV->Option PV) (f:VL) (ρ:PEnv):xL g f ρ=bindL (f ρ) g:=zag rfl
theorem zxp (p:List PV) (g:List PV->Option PV):bindL (some p) g=g p:=zag rfl
theorem E_lc (f:VX) (r:VL) (ρ:PEnv):zab f r ρ=zuV (f ρ) (r ρ):=zag rfl
theorem zxA (p:PV) (ps:List PV):zuV (some p) (some ps)=some (p::ps):=zag rfl
theorem E_ln (ρ:PEnv):lNil ρ=some []:=zag rfl
theorem E_c (p:PV) (ρ:PEnv):xC p ρ=some p:=zag rfl
def getO (o:Option (Option (PV×Fl))):Option PV:=match o with
 | some (some (p,_))=>some p
 | _=>none
def getS (o:Option (Option (PV×Fl))):Option PV:=match o with
 | some (some (p,.shr))=>some p
 | _=>none
theorem zxs (i:Nat) (ρ:PEnv):xVar i ρ=getO ρ[i]?:=zag rfl
theorem zrL (p:PV) (fl:Fl):getO (some (some (p,fl)))=some p:=zag rfl
theorem zvc (i:Nat) (ρ:PEnv):zaa i ρ=getS ρ[i]?:=zag rfl
theorem zop (p:PV):getS (some (some (p,.shr)))=some p:=zag rfl
def isBO (o:Option PV):Option Bool:=o.bind isB
theorem zxH (f:VX) (ρ:PEnv):bOf f ρ=isBO (f ρ):=zag rfl
theorem zrW (b:Bool):isBO (some (.bl b))=some b:=zag rfl
def notO (o:Option Bool):Option Bool:=o.map (!·)
theorem zxz (f:VB) (ρ:PEnv):bNot f ρ=notO (f ρ):=zag rfl
theorem zrR (b:Bool):notO (some b)=some (!b):=zag rfl
def blO (o:Option Bool):Option PV:=o.map PV.bl
theorem E_xB (f:VB) (ρ:PEnv):xB f ρ=blO (f ρ):=zag rfl
theorem zvb (b:Bool):blO (some b)=some (.bl b):=zag rfl
theorem zvd (ρ:PEnv):zaC ρ=some true:=zag rfl
def retO (o:Option PV) (b:Bool):Option Out:=o.map fun p=>.rt p b
theorem zxw (f:VX) (b:Bool) (ρ:PEnv):vRet f b ρ=retO (f ρ) b:=zag rfl
theorem zrP (p:PV) (b:Bool):retO (some p) b=some (.rt p b):=zag rfl
def rtO (o:Option (Option (PV×Fl))):Option Out:=match o with
 | some (some (p,.own))=>some (.rt p true)
 | _=>none
theorem zvj (i:Nat) (ρ:PEnv):zb2 i ρ=rtO ρ[i]?:=zag rfl
theorem zoz (p:PV):rtO (some (some (p,.own)))=some (.rt p true):=zag rfl
def setO (i:Nat) (fl:Fl) (o:Option PV) (ρ:PEnv):Option Out:=o.map fun p=>.nx (ρ.set i (some (p,fl)))
theorem zvh (i:Nat) (f:VX) (ρ:PEnv):zai i f ρ=setO i .shr (f ρ) ρ:=zag rfl
theorem zvi (i:Nat) (f:VX) (ρ:PEnv):zaR i f ρ=setO i .own (f ρ) ρ:=zag rfl
theorem zrN (i:Nat) (fl:Fl) (p:PV) (ρ:PEnv):setO i fl (some p) ρ=some (.nx (ρ.set i (some (p,fl)))):=zag rfl
def setW (i:Nat) (o:Option PV) (ρ:PEnv):Option Out:=o.map fun p=>.nx (ρ.set i (some (p,if isL p=true then .own else .shr)))
theorem zvg (i:Nat) (f:VX) (ρ:PEnv):zvE i f ρ=setW i (f ρ) ρ:=zag rfl
theorem zos (i:Nat) (ps:List PV) (ρ:PEnv):setW i (some (.lst ps)) ρ=some (.nx (ρ.set i (some (.lst ps,.own)))):=zag rfl
theorem zoq (i:Nat) (ps:List PV) (ρ:PEnv):setW i (some (.tup ps)) ρ=some (.nx (ρ.set i (some (.tup ps,.shr)))):=zag rfl
theorem zou (i:Nat) (b:Bool) (ρ:PEnv):setW i (some (.bl b)) ρ=some (.nx (ρ.set i (some (.bl b,.shr)))):=zag rfl
theorem zor (i:Nat) (ρ:PEnv):setW i (some .non) ρ=some (.nx (ρ.set i (some (.non,.shr)))):=zag rfl
theorem zot (i:Nat) (b:Int) (ρ:PEnv):setW i (some (.int b)) ρ=some (.nx (ρ.set i (some (.int b,.shr)))):=zag rfl
def zuN (o:Option PV) (ρ:PEnv):Option Out:=o.map fun _=>.nx ρ
theorem zvq (f:VX) (ρ:PEnv):zbE f ρ=zuN (f ρ) ρ:=zag rfl
theorem zoA (p:PV) (ρ:PEnv):zuN (some p) ρ=some (.nx ρ):=zag rfl
theorem zvf (ρ:PEnv):zak ρ=some (.nx ρ):=zag rfl
theorem zxG (ρ:PEnv):vBrk ρ=some (.bk ρ):=zag rfl
theorem zxF (ρ:PEnv):vCnt ρ=some (.ct ρ):=zag rfl
def wrO (i:Nat) (g:PV->Option PV) (o:Option (Option (PV×Fl))) (ρ:PEnv):Option Out:=match o with
 | some (some (p,.own))=>(g p).map fun p'=>.nx (ρ.set i (some (p',.own)))
 | _=>none
def appO (i:Nat) (q:Option PV) (o:Option (Option (PV×Fl))) (ρ:PEnv):Option Out:=q.bind fun q=>wrO i (fun p=>match p with
 | .lst ps=>if zaL ps.length then some (.lst (ps++[q])) else none
 | _=>none) o ρ
theorem zxJ (i:Nat) (f:VX) (ρ:PEnv):zao i f ρ=appO i (f ρ) ρ[i]? ρ:=zag rfl
theorem zrY {i:Nat}{q:PV}{ps:List PV}{ρ:PEnv}(h:ps.length<=1000000):appO i (some q) (some (some (.lst ps,.own))) ρ=some (.nx (ρ.set i (some (.lst (ps++[q]),.own)))):=by
 show Option.map _ (if zaL ps.length=true then _ else _)=_;rw [if_pos (q_sm h)];rfl
def extO (i:Nat) (q:Option PV) (o:Option (Option (PV×Fl))) (ρ:PEnv):Option Out:=q.bind fun q=>wrO i (fun p=>match p,q with
 | .lst ps,.lst qs=>if zaL (ps.length+qs.length) then some (.lst (ps++qs)) else none
 | _,_=>none) o ρ
theorem zxE (i:Nat) (f:VX) (ρ:PEnv):zcb i f ρ=extO i (f ρ) ρ[i]? ρ:=zag rfl
theorem zrV {i:Nat}{qs ps:List PV}{ρ:PEnv}(h:ps.length+qs.length<=1000000):extO i (some (.lst qs)) (some (some (.lst ps,.own))) ρ=some (.nx (ρ.set i (some (.lst (ps++qs),.own)))):=by
 show Option.map _ (if zaL (ps.length+qs.length)=true then _ else _)=_;rw [if_pos (q_sm h)];rfl
def augO (i:Nat) (g:Int->Int->Int) (a b:Option PV) (ρ:PEnv):Option Out:=match a,b with
 | some (.int x),some (.int y)=>some (.nx (ρ.set i (some (.int (g x y),.shr))))
 | _,_=>none
theorem zxI (i:Nat) (g:Int->Int->Int) (f:VX) (ρ:PEnv):vAug i g f ρ=augO i g (xVar i ρ) (f ρ) ρ:=zag rfl
theorem zrX (i:Nat) (g:Int->Int->Int) (x y:Int) (ρ:PEnv):augO i g (some (.int x)) (some (.int y)) ρ=some (.nx (ρ.set i (some (.int (g x y),.shr)))):=zag rfl
def unpO (tg:VTg) (o:Option PV) (ρ:PEnv):Option Out:=o.bind fun p=>(tg p ρ).map Out.nx
theorem zxt (tg:VTg) (f:VX) (ρ:PEnv):vUnp tg f ρ=unpO tg (f ρ) ρ:=zag rfl
def nxO (o:Option PEnv):Option Out:=o.map Out.nx
theorem zrM (tg:VTg) (p:PV) (ρ:PEnv):unpO tg (some p) ρ=nxO (tg p ρ):=zag rfl
theorem zxy (ρ:PEnv):nxO (some ρ)=some (.nx ρ):=zag rfl
theorem E_gN (i:Nat) (p:PV) (ρ:PEnv):gN i p ρ=some (ρ.set i (some (p,.shr))):=zag rfl
theorem E_gT (is:List Nat) (ps:List PV) (ρ:PEnv):gT is (.tup ps) ρ=gAll is ps ρ:=zag rfl
theorem zxC (ρ:PEnv):gAll [] [] ρ=some ρ:=zag rfl
theorem E_gA (i:Nat) (is:List Nat) (p:PV) (ps:List PV) (ρ:PEnv):gAll (i::is) (p::ps) ρ=gAll is ps (ρ.set i (some (p,.shr))):=zag rfl
def parO (i j:Nat) (o:Option (List PV)) (ρ:PEnv):Option Out:=o.bind fun ps=>match ps with
 | [p,q]=>some (.nx ((ρ.set i (some (p,.shr))).set j (some (q,.shr))))
 | _=>none
theorem zxx (i j:Nat) (f:VL) (ρ:PEnv):vPar i j f ρ=parO i j (f ρ) ρ:=zag rfl
theorem zrQ (i j:Nat) (p q:PV) (ρ:PEnv):parO i j (some [p,q]) ρ=some (.nx ((ρ.set i (some (p,.shr))).set j (some (q,.shr)))):=zag rfl
def slO (o:Option PV) (lo hi:Option (Option Int)):Option PV:=o.bind fun p=>lo.bind fun l=>hi.bind fun u=>match p with
 | .lst ps=>some (.lst (cutP ps l u))
 | _=>none
theorem E_sl (f:VX) (lo hi:PEnv->Option (Option Int)) (ρ:PEnv):xSl f lo hi ρ=slO (f ρ) (lo ρ) (hi ρ):=zag rfl
theorem zve (ps:List PV) (l u:Option Int):slO (some (.lst ps)) (some l) (some u)=some (.lst (cutP ps l u)):=zag rfl
theorem E_oN (ρ:PEnv):zb3 ρ=some none:=zag rfl
def oS (o:Option PV):Option (Option Int):=(o.bind isI).map some
theorem E_oS (f:VX) (ρ:PEnv):zbq f ρ=oS (f ρ):=zag rfl
theorem zvm (i:Int):oS (some (.int i))=some (some i):=zag rfl
def forO (o:Option (List PV)) (tg:VTg) (body:VF) (ρ:PEnv):Option Out:=o.bind fun xs=>za2 tg body xs ρ
theorem zxD (it:VL) (tg:VTg) (body:VF) (ρ:PEnv):vFor it tg body ρ=forO (it ρ) tg body ρ:=zag rfl
theorem zrU (xs:List PV) (tg:VTg) (body:VF) (ρ:PEnv):forO (some xs) tg body ρ=za2 tg body xs ρ:=zag rfl
def chO (g g':PV->PV->Option PV) (a b:Option PV) (fc:VX) (ρ:PEnv):Option PV:=a.bind fun p=>b.bind fun q=>match g p q with
 | some (.bl true)=>(fc ρ).bind fun r=>g' q r
 | some (.bl false)=>some (.bl false)
 | _=>none
def chP (o:Option PV) (g':PV->PV->Option PV) (q:PV) (fc:VX) (ρ:PEnv):Option PV:=match o with
 | some (.bl true)=>bind1 (fc ρ) (g' q)
 | some (.bl false)=>some (.bl false)
 | _=>none
theorem E_ch (g g':PV->PV->Option PV) (fa fb fc:VX) (ρ:PEnv):zdj g g' fa fb fc ρ=chO g g' (fa ρ) (fb ρ) fc ρ:=zag rfl
theorem zvs (g g':PV->PV->Option PV) (p q:PV) (fc:VX) (ρ:PEnv):chO g g' (some p) (some q) fc ρ=chP (g p q) g' q fc ρ:=zag rfl
theorem zvr (g':PV->PV->Option PV) (q:PV) (fc:VX) (ρ:PEnv):chP (some (.bl true)) g' q fc ρ=bind1 (fc ρ) (g' q):=zag rfl
theorem zvt (g':PV->PV->Option PV) (q:PV) (fc:VX) (ρ:PEnv):chP (some (.bl false)) g' q fc ρ=some (.bl false):=zag rfl
def bmO (a:Option PV) (b:Option (List PV)) (g:PV->List PV->Option PV):Option PV:=a.bind fun p=>b.bind fun qs=>g p qs
theorem E_bm (g:PV->List PV->Option PV) (f:VX) (fa:VL) (ρ:PEnv):xBM g f fa ρ=bmO (f ρ) (fa ρ) g:=zag rfl
theorem zvu (p:PV) (qs:List PV) (g:PV->List PV->Option PV):bmO (some p) (some qs) g=g p qs:=zag rfl
def mxO (a b:Option (List PV)):Option PV:=a.bind fun ps=>b.bind fun qs=>match ps,qs with
 | [.lst ps],[.int d]=>(zgT ps).map fun ns=>.int (znZ d ns)
 | _,_=>none
theorem E_mx (fa fk:VL) (ρ:PEnv):zvw fa fk ρ=mxO (fa ρ) (fk ρ):=zag rfl
theorem zvn (ns:List Int) (d:Int):mxO (some [zax ns]) (some [.int d])=some (.int (znZ d ns)):=by
 show (zgT (ns.map PV.int)).map _=_;rw [zfc];rfl
def revO (a b:Option PV):Option PV:=a.bind fun p=>b.bind fun q=>match p,q with
 | .lst ps,.int i=>if i = -1 then some (.lst ps.reverse) else none
 | _,_=>none
theorem zxv (f g:VX) (ρ:PEnv):xRev f g ρ=revO (f ρ) (g ρ):=zag rfl
theorem zrO (ps:List PV):revO (some (.lst ps)) (some (.int (-1)))=some (.lst ps.reverse):=zag rfl
theorem zxc (i j:Int):pAdd (.int i) (.int j)=some (.int (i+j)):=zag rfl
theorem zwM (i j:Int):pSub (.int i) (.int j)=some (.int (i - j)):=zag rfl
theorem zwP (i:Int):pNeg (.int i)=some (.int (-i)):=zag rfl
theorem zw8 (i j:Int):pEq (.int i) (.int j)=some (.bl (decide (i=j))):=zag rfl
theorem zw7 (i j:Str):pEq (.str i) (.str j)=some (.bl (decide (i=j))):=zag rfl
theorem zw9 (i j:Bool):pEq (.bl i) (.bl j)=some (.bl (decide (i=j))):=zag rfl
theorem zwO (i j:Int):pNe (.int i) (.int j)=some (.bl (!decide (i=j))):=zag rfl
theorem zwN (i j:Str):pNe (.str i) (.str j)=some (.bl (!decide (i=j))):=zag rfl
theorem e_le (i j:Int):pLe (.int i) (.int j)=some (.bl (decide (i<=j))):=zag rfl
theorem e_lt (i j:Int):pLt (.int i) (.int j)=some (.bl (decide (i < j))):=zag rfl
theorem e_gt (i j:Int):pGt (.int i) (.int j)=some (.bl (decide (j < i))):=zag rfl
theorem e_ge (i j:Int):pGe (.int i) (.int j)=some (.bl (decide (j<=i))):=zag rfl
theorem zuz (i j:Int):zke [.int i,.int j]=some (.int (if j > i then j else i)):=zag rfl
theorem zw6 (b:Bool):isB (.bl b)=some b:=zag rfl
theorem zw5 (b:Int):isI (.int b)=some b:=zag rfl
theorem zpf (ps:List PV):pLen [.lst ps]=some (.int ps.length):=zag rfl
theorem zuB (ps:List PV):pLen [.tup ps]=some (.int ps.length):=zag rfl
theorem zuC (ps:List Int):pLen [.scr ps]=some (.int ps.length):=zag rfl
theorem zuD {x:Str}(h:x.length<=1000000):zkf [.str x]=some (.int x.length):=by simp only [zkf];rw [if_pos (q_sm h)]
theorem zw3 (ps:List PV) (i:Int):pIxL (.lst ps) (.int i)=atI ps i:=zag rfl
theorem zw1 (ps:List PV) (i:Int):pIxT (.tup ps) (.int i)=atI ps i:=zag rfl
theorem zux (i:Int):zhK (.int i)=some (.bl true):=zag rfl
theorem zrt:zhK .non=some (.bl false):=zag rfl
theorem zw4:pIsN .non=some (.bl true):=zag rfl
theorem zuI (x:Str):pIsN (.str x)=some (.bl false):=zag rfl
theorem zuJ (x:List PV):pIsN (.lst x)=some (.bl false):=zag rfl
theorem zw0:zar []=some (.lst []):=zag rfl
theorem zwZ (p:PV):zar [p]=some (.lst [p]):=zag rfl
theorem zwY (p q:PV):zar [p,q]=some (.lst [p,q]):=zag rfl
theorem zwX (p q r:PV):zar [p,q,r]=some (.lst [p,q,r]):=zag rfl
theorem zwU:zaQ []=some (.tup []):=zag rfl
theorem zwT (p:PV):zaQ [p]=some (.tup [p]):=zag rfl
theorem zwS (p q:PV):zaQ [p,q]=some (.tup [p,q]):=zag rfl
theorem zwR (p q r:PV):zaQ [p,q,r]=some (.tup [p,q,r]):=zag rfl
theorem zwV {i j:Int}(h:0 < j):pMod (.int i) (.int j)=some (.int (i % j)):=zc9 i j h
theorem zxa {i j:Int}(h:0 < j) (h2:j < 1073741824):pDiv (.int i) (.int j)=some (.int (i / j)):=zfB i j h h2
theorem zwQ {i j:Int}(h:0<=i) (h2:i < 4294967296):pMul (.int i) (.int j)=some (.int (i * j)):=zqy i j h h2
theorem zuy {i j:Int}(h:0<=j) (h2:j < 4294967296):pMul (.int i) (.int j)=some (.int (i * j)):=by
 have e:(2:Int) ^ 64=18446744073709551616:=by decide
 have c:cMul i j=true:=by
  unfold cMul;rw [e,Zn (show -18446744073709551616 < j by omega),Zn (show j < 18446744073709551616 by omega),Bool.or_eq_true];exact .inr rfl
 unfold pMul pIIc;simp only [c,if_true]
theorem zw2 (ns:List Int) (i:Int):pIxL (.scr ns) (.int i)=(atI ns i).map PV.int:=zag rfl
theorem e_ms {α β:Type}(a:α) (f:α->β):(some a).map f=some (f a):=zag rfl
theorem zwW (p q r s:PV):zar [p,q,r,s]=some (.lst [p,q,r,s]):=zag rfl
theorem zuH (ps:List PV):pIsi [("list",true)] (.lst ps)=some (.bl true):=zag rfl
theorem zuF (ps:List PV):pIsi [("tuple",true)] (.tup ps)=some (.bl true):=zag rfl
theorem zuG (x:Str):pIsi [("str",true)] (.str x)=some (.bl true):=zag rfl
theorem zpg (b:Bool):zlH [.bl b]=some (.int (if b=true then 1 else 0)):=zag rfl
theorem zuA (ps:List PV):zeh [.lst ps]=some (.lst ps):=zag rfl
theorem e_sm {n:Nat}(h:n<=1000000):zaL n=true:=Zn h
theorem zxb {ps qs:List PV}(h:ps.length+qs.length<=1000000):pCat (.lst ps) (.lst qs)=some (.lst (ps++qs)):=znD ps qs h
theorem zrv (bs:List Bool):pAll [.lst (bs.map PV.bl)]=some (.bl (bs.all id)):=by simp only [pAll];rw [zjR];rfl
theorem e_at {α:Type}{l:List α}{i:Nat}{x:α}(h:l[i]?=some x):atI l (i:Int)=some x:=q_at h
theorem zb9 {α:Type}{l:List α}{f:α->PV}{i:Nat}{x:α}(h:l[i]?=some x):atI (l.map f) (i:Int)=some (f x):=q_at (by rw [Zj,h];rfl)
theorem zfi {α:Type}{tg:VTg}{elt:VX}(e:α->PV) (g:α->PV) (Inv:PEnv->Prop):∀(xs:List α) (ρ:PEnv),Inv ρ->(∀x∈xs,∀ρ,Inv ρ -> ∃ρ1,tg (e x) ρ=some ρ1/\Inv ρ1/\elt ρ1=some (g x))->za1 tg zaC elt (xs.map e) ρ=some (xs.map g)
 | [],ρ,_,_=>rfl
 | x::xs,ρ,hI,h=>by
  obtain ⟨ρ1,h1,h2,h3⟩:=h x Zf ρ hI;have ih:=zfi e g Inv xs ρ1 h2 fun y hy=>h y (Ze _ hy);rw [Zh,za1,h1];simp only [zaC,h3,ih];rfl
theorem zea {α:Type}{tg:VTg}{cond:VB}{elt:VX}(e:α->PV) (p:α->Bool) (g:α->PV) (Inv:PEnv->Prop):∀(xs:List α) (ρ:PEnv),Inv ρ->(∀x∈xs,∀ρ,Inv ρ -> ∃ρ1,tg (e x) ρ=some ρ1/\Inv ρ1/\cond ρ1=some (p x)/\elt ρ1=some (g x))->za1 tg cond elt (xs.map e) ρ=some ((xs.filter p).map g)
 | [],ρ,_,_=>rfl
 | x::xs,ρ,hI,h=>by
  obtain ⟨ρ1,h1,h2,h3,h4⟩:=h x Zf ρ hI;have ih:=zea e p g Inv xs ρ1 h2 fun y hy=>h y (Ze _ hy);rw [Zh,za1,h1];simp only [h3];cases hp:p x with
  | false=>rw [List.filter_cons_of_neg (by simp [hp])];exact ih
  | true =>
   rw [List.filter_cons_of_pos hp];simp only [h4,ih];rfl
theorem zbA {src:List (Option Nat)}{it:VL}{tg:VTg}{c:VB}{f:VX}{ρ:PEnv}{xs ys:List PV}(h:it ρ=some xs) (hs:xs.length<=1000000) (h2:za1 tg c f xs (zbV src ρ)=some ys):zap src it tg c f ρ=some (.lst ys):=zjk h hs h2
open PySem.Spec PyProof.Rows
end L2
namespace L2
open PySem
open PySem.Spec PyProof.Rows
end L2
namespace L2
open PySem
structure QE (X:Cx) (m:Md) (e:Expr) (f:VX):Prop where
 h:∃t,PE X e t/\VE m t f
structure QT (X:Cx) (e:Expr) (f:VB):Prop where
 h:∃t,PT X e t/\VT t f
structure QW (X:Cx) (e:Expr) (f:VB):Prop where
 h:∃t,PW X e t/\VT t f
structure QF (X:Cx) (es:List Expr) (f:VB):Prop where
 h:∃t,PIfs X es t/\VT t f
structure QA (X:Cx) (b:Bool) (es:List Expr) (f:VL):Prop where
 h:∃t,PA X es t/\VA b t f
structure QI (X:Cx) (tg e:Expr) (f:VL):Prop where
 h:∃t,PI X tg e t/\VI t f
structure QJ (X:Cx) (tg e:Expr) (f:VL):Prop where
 h:∃t,PI X tg e t/\VIb t f
structure QG (X:Cx) (tg:Expr) (f:VTg):Prop where
 h:∃t,PG X tg t/\VG t f
structure QGs (X:Cx) (tg:List Expr) (is:List Nat):Prop where
 h:PGs X tg (zjC is)
structure QO (X:Cx) (e:Option Expr) (f:PEnv->Option (Option Int)):Prop where
 h:∃t,PO X e t/\VO t f
structure QS (X:Cx) (st:Stmt) (F:VF):Prop where
 h:∃t,PS X st t/\VS t F
structure QB (X:Cx) (st:List Stmt) (F:VF):Prop where
 h:∃t,PSs X st t/\VS t F
structure OB (X:Cx) (o:Operator) (m:Md) (g:PV->PV->Option PV):Prop where
 h:∃r,OpR X (binaryOp o) r/\R2V m r g
structure OC (X:Cx) (o:CmpOp) (m:Md) (g:PV->PV->Option PV):Prop where
 h:∃r,OpR X (compareOp o) r/\R2V m r g
structure I2 (X:Cx) (m:Md) (g:PV->PV->Option PV):Prop where
 h:∃r,IxR X r/\R2V m r g
structure C2 (X:Cx) (v:Value) (m:Md) (g:List PV->Option PV):Prop where
 h:∃r,zbL X v r/\RLV m r g
structure CF (P:Program) (w:World) (K:PySem.W.Frag) (mg:Str->Option Value) (base:Heap) (CX:CXT) (x:Str) (k:Nat) (sp:Sp):Prop where
 h:∃a d ps,FnOk P w K mg base CX k a d ps sp/\mg x=some (.ref a)/\PySem.W.keepIn K (.ref a)=true/\Binds K d ps []
structure Df (K:PySem.W.Frag) (mg:Str->Option Value) (x:Str) (st:Stmt) (ps:List Str):Prop where
 h:∃a d,mg x=some (.ref a)/\Fun K x x st a d/\Binds K d ps []
structure Blt (mg:Str->Option Value) (l:List Str):Prop where
 h:∀x,l.contains x=true->mg x=none
structure CSc (X:Cx) (outer:List (Str×NameKind)) (N:List Str):Prop where
 ho:∀x,X.env.kindOf x=outer.lookup x
 hN:X.N=N
section
variable {X:Cx}{m ma mb mc:Md}{a b c e elt target iter:Expr}{es ifs:List Expr}{pos p p2:Pos}{f g h:VX}{fa fb:VL}{k n i j:Nat}{x y:Str}{l:List Str}
theorem qv (q:PE X (.Name x p) (tVar i)):QE X .bor (.Name x p) (xVar i):=⟨_,q,zsk⟩
theorem qvS (q:PE X (.Name x p) (tVar i)):QE X .shr (.Name x p) (zaa i):=⟨_,q,zpO⟩
theorem qint {i:Int}:QE X .shr (.Constant (.int i) k p) (xC (.int i)):=⟨_,zo0,zoC⟩
theorem qstr {i:Str}:QE X .shr (.Constant (.str i) k p) (xC (.str i)):=⟨_,zoY,zsm⟩
theorem qbl {i:Bool}:QE X .shr (.Constant (.bool i) k p) (xC (.bl i)):=⟨_,ztT,zvC⟩
theorem qnon:QE X .shr (.Constant .none k p) (xC .non):=⟨_,zoZ,zsp⟩
theorem zvZ {i:Int}(hm:∃u,X.mg x=some u/\RelV (V.int i) u) (hg:Gl X x:=by rfl) (hd:(x==("__debug__" : Str))=false:=by decide):QE X .shr (.Name x p) (xC (.int i)):=by
 obtain ⟨u,h1,h2⟩:=hm;exact ⟨_,zqP hg h1 h2 hd,zoC⟩
theorem qop {op:Operator}{o:PV->PV->Option PV}(ho:OB X op m o) (ha:QE X ma a f) (hb:QE X mb b g):QE X m (.BinOp a op b p) (x2 o f g):=by
 obtain ⟨_,o1,o2⟩:=ho.h;obtain ⟨_,a1,a2⟩:=ha.h;obtain ⟨_,b1,b2⟩:=hb.h;exact ⟨_,zwj o1 a1 b1,zm5 o2 a2 b2⟩
theorem qcmp {op:CmpOp}{o:PV->PV->Option PV}(ho:OC X op m o) (ha:QE X ma a f) (hb:QE X mb b g) (hm:behindInMarks op b=false):QE X m (.Compare a [op] [b] p) (x2 o f g):=by
 obtain ⟨_,o1,o2⟩:=ho.h;obtain ⟨_,a1,a2⟩:=ha.h;obtain ⟨_,b1,b2⟩:=hb.h;exact ⟨_,zqT o1 a1 b1 hm,zm5 o2 a2 b2⟩
theorem zvR {op:CmpOp}{o:PV->PV->Option PV}(ho:OC X op m o) (ha:QE X ma a f) (hb:QE X mb b g) (hm:behindInMarks op b=false):QT X (.Compare a [op] [b] p) (bOf (x2 o f g)):=by
 obtain ⟨_,o1,o2⟩:=ho.h;obtain ⟨_,a1,a2⟩:=ha.h;obtain ⟨_,b1,b2⟩:=hb.h;exact ⟨_,zqC o1 a1 b1 hm,zps (zm5 o2 a2 b2)⟩
theorem zty {op op':CmpOp}{o o':PV->PV->Option PV}(ho:OC X op .shr o) (ho':OC X op' .shr o') (ha:QE X ma a f) (hb:QE X mb b g) (hc:QE X mc c h) (hm:lastMarks [op,op'] [b,c]=false:=by with_unfolding_all rfl):QE X .shr (.Compare a [op,op'] [b,c] p) (zdj o o' f g h):=by
 obtain ⟨_,o1,o2⟩:=ho.h;obtain ⟨_,o3,o4⟩:=ho'.h;obtain ⟨_,a1,a2⟩:=ha.h;obtain ⟨_,b1,b2⟩:=hb.h;obtain ⟨_,c1,c2⟩:=hc.h;exact ⟨_,znQ o1 o3 a1 b1 c1 hm,znb o2 o4 a2 b2 c2⟩
theorem qneg (ha:QE X ma a f):QE X .shr (.UnaryOp .USub a p) (x1 pNeg f):=by
 obtain ⟨_,a1,a2⟩:=ha.h;exact ⟨_,zwi zsA a1,zvB ztj a2⟩
theorem zvP {i:Nat}(ha:QE X ma a f):QT X (.Compare a [.Is] [.Constant .none i p2] p) (bOf (x1 pIsN f)):=by
 obtain ⟨_,a1,a2⟩:=ha.h;exact ⟨_,zhC (ztV a1),zet (zsr a2)⟩
theorem ztm {i:Nat}(ha:QE X ma a f):QT X (.Compare a [.IsNot] [.Constant .none i p2] p) (bOf (x1 zhK f)):=by
 obtain ⟨_,a1,a2⟩:=ha.h;exact ⟨_,zhC (zqU a1),zet (zpP a2)⟩
theorem qand (ha:QE X ma a f) (hb:QE X mb (.BoolOp .And (b::es) p) g):QE X .shr (.BoolOp .And (a::b::es) p) (xB (bAnd (bOf f) (bOf g))):=by
 obtain ⟨_,a1,a2⟩:=ha.h;obtain ⟨_,b1,b2⟩:=hb.h;exact ⟨_,ztU a1 b1,zsu a2 b2⟩
theorem qone {op:BoolOp}(ha:QE X m a f):QE X m (.BoolOp op [a] p) f:=by
 obtain ⟨_,a1,a2⟩:=ha.h;exact ⟨_,ztR a1,a2⟩
theorem qlst (ha:QA X false es fa):QE X .fr (.List es p) (xL zar fa):=by
 obtain ⟨_,a1,a2⟩:=ha.h;exact ⟨_,zlD a1,zsq a2⟩
theorem qtup (ha:QA X false es fa):QE X .shr (.Tuple es k p) (xL zaQ fa):=by
 obtain ⟨_,a1,a2⟩:=ha.h;exact ⟨_,ztQ a1,zsl a2⟩
theorem QE.sh (ha:QE X .fr a f):QE X .shr a f:=by
 obtain ⟨_,a1,a2⟩:=ha.h;exact ⟨_,a1,a2.shr⟩
theorem qix {o:PV->PV->Option PV}(ho:I2 X m o) (ha:QE X ma a f) (hb:QE X mb b g) (hs:zmZ b):QE X m (.Subscript a b p) (x2 o f g):=by
 obtain ⟨_,o1,o2⟩:=ho.h;obtain ⟨_,a1,a2⟩:=ha.h;obtain ⟨_,b1,b2⟩:=hb.h;exact ⟨_,zwk o1 a1 b1 hs,zm5 o2 a2 b2⟩
theorem qsl {lo hi:Option Expr}{fl fh:PEnv->Option (Option Int)}(ha:QE X ma a f) (hl:QO X lo fl) (hh:QO X hi fh):QE X .fr (.Subscript a (.Slice lo hi none p2) p) (xSl f fl fh):=by
 obtain ⟨_,a1,a2⟩:=ha.h;obtain ⟨_,b1,b2⟩:=hl.h;obtain ⟨_,c1,c2⟩:=hh.h;exact ⟨_,znL (zno rfl) a1 b1 c1,zsn a2 b2 c2⟩
theorem qo0:QO X none zb3:=⟨_,ziD,zpF⟩
theorem qo1 (ha:QE X ma a f):QO X (some a) (zbq f):=by
 obtain ⟨_,a1,a2⟩:=ha.h;exact ⟨_,zqG a1,zpE a2⟩
theorem qa0 {b:Bool}:QA X b [] lNil:=⟨_,zd6,zkP⟩
theorem qaS (ha:QE X .shr e f) (hr:QA X false es fa) (hs:starEach (e::es) X.env=(false,eval e X.env)::starEach es X.env:=by rfl):QA X false (e::es) (zab f fa):=by
 obtain ⟨_,a1,a2⟩:=ha.h;obtain ⟨_,b1,b2⟩:=hr.h;exact ⟨_,zda a1 b1 hs,zng a2 b2⟩
theorem qaB (ha:QE X ma e f) (hr:QA X true es fa) (hs:starEach (e::es) X.env=(false,eval e X.env)::starEach es X.env:=by rfl):QA X true (e::es) (zab f fa):=by
 obtain ⟨_,a1,a2⟩:=ha.h;obtain ⟨_,b1,b2⟩:=hr.h;exact ⟨_,zda a1 b1 hs,znh a2 b2⟩
def pvV:PV->Option V
 | .non=>some .non | .bl b=>some (.bl b) | .int i=>some (.int i) | .str s=>some (.str s)|_=>none
def pvVs:List PV->Option (List V)
 | []=>some []
 | p::r=>match pvV p,pvVs r with
  | some v,some vs=>some (v::vs)
  | _,_=>none
theorem zia:∀{ps:List PV}{vs:List V},pvVs ps=some vs->Consts vs ps
 | [],vs,e=>by cases e;exact .nil
 | p::r,vs,e=>by
  unfold pvVs at e;split at e
  ·rename_i v ws h1 h2
   cases e;refine .cons ?_ (zia h2);unfold pvV at h1;split at h1<;>first|(cases h1;rfl)|cases h1
  ·cases e
theorem qks {vs:List V}{ps:List PV}(h1:zfm es=some vs) (h2:pvVs ps=some vs):QA X false es (fun _=>some ps):=⟨_,zhH h1,zvD (zia h2)⟩
theorem qtv (ha:QE X m a f) (he:∀whole,isTrue a X.env whole=(do let v <- whole;standAt a.pos;holding [v] (truthy v)):=by intro _;rfl):QT X a (bOf f):=by
 obtain ⟨_,a1,a2⟩:=ha.h;exact ⟨_,ztI a1 he,zet a2⟩
theorem zvO {fa:VB}(ha:QT X a fa):QT X (.UnaryOp .Not a p) (bNot fa):=by
 obtain ⟨_,a1,a2⟩:=ha.h;exact ⟨_,ztJ a1,zr6 a2⟩
theorem qwor {fa fb:VB}(ha:QT X a fa) (hb:QW X (.BoolOp .Or (b::es) p) fb):QW X (.BoolOp .Or (a::b::es) p) (bOr fa fb):=by
 obtain ⟨_,a1,a2⟩:=ha.h;obtain ⟨_,b1,b2⟩:=hb.h;exact ⟨_,zwf a1 b1,zvy a2 b2⟩
theorem ztl {fa fb:VB}(ha:QT X a fa) (hb:QW X (.BoolOp .And (b::es) p) fb):QW X (.BoolOp .And (a::b::es) p) (bAnd fa fb):=by
 obtain ⟨_,a1,a2⟩:=ha.h;obtain ⟨_,b1,b2⟩:=hb.h;exact ⟨_,ztG a1 b1,zr7 a2 b2⟩
theorem zvN {fa:VB}(ha:QT X a fa):QW X (.BoolOp .Or [a] p) fa:=by
 obtain ⟨_,a1,a2⟩:=ha.h;exact ⟨_,ztF a1,a2⟩
theorem ztk {fa:VB}(ha:QT X a fa):QW X (.BoolOp .And [a] p) fa:=by
 obtain ⟨_,a1,a2⟩:=ha.h;exact ⟨_,zqA a1,a2⟩
theorem qtw {fa:VB}(ha:QW X a fa):QT X a fa:=by
 obtain ⟨_,a1,a2⟩:=ha.h;exact ⟨_,PW.pt a1,a2⟩
theorem qf0:QF X [] zaC:=⟨_,znH,zr8⟩
theorem qf1 {fa:VB}(ha:QT X a fa):QF X [a] fa:=by
 obtain ⟨_,a1,a2⟩:=ha.h;exact ⟨_,znG a1,a2⟩
theorem qil (ha:QE X .shr a f):QI X target a (itL f):=by
 obtain ⟨_,a1,a2⟩:=ha.h;exact ⟨_,znI rfl a1,zpL a2⟩
theorem qis (ha:QE X m a f):QI X target a (itS f):=by
 obtain ⟨_,a1,a2⟩:=ha.h;exact ⟨_,ztN a1,zsi a2⟩
theorem qir1 (hb:Blt X.mg l) (ha:QA X true [a] fa) (hl:l.contains "range" = true:=by rfl) (hg:Gl X "range":=by rfl) (hs:starEach [a] X.env = [(false,eval a X.env)]:=by rfl):QI X target (.Call (.Name "range" p) [a] [] pos) (itR1 fa):=by
 obtain ⟨_,a1,a2⟩:=ha.h;exact ⟨_,zlz hg (hb.h _ hl) a1 hs,zpK a2⟩
theorem qir2 (hB:Blt X.mg l) (ha:QA X true [a,b] fa) (hl:l.contains "range" = true:=by rfl) (hg:Gl X "range":=by rfl) (hs:starEach [a,b] X.env = [(false,eval a X.env),(false,eval b X.env)]:=by rfl) (hs2:starEach [b] X.env = [(false,eval b X.env)]:=by rfl):QI X target (.Call (.Name "range" p) [a,b] [] pos) (itR2 fa):=by
 obtain ⟨_,a1,a2⟩:=ha.h;exact ⟨_,zly hg (hB.h _ hl) a1 hs hs2,zpJ a2⟩
theorem qie (hB:Blt X.mg l) (ha:QA X false [a] fa) (hl:l.contains "enumerate" = true:=by rfl) (hg:Gl X "enumerate":=by rfl) (hs:starEach [a] X.env = [(false,eval a X.env)]:=by rfl):QI X (.Tuple es k p2) (.Call (.Name "enumerate" p) [a] [] pos) (itE fa):=by
 obtain ⟨_,a1,a2⟩:=ha.h;exact ⟨_,zqK rfl hg (hB.h _ hl) a1 hs,zpM a2⟩
theorem qgn (hN:X.N.Nodup) (hi:X.N[i]?=some x:=by rfl) (hx:Loc X.env.scope x:=by first|exact Or.inl rfl|exact Or.inr rfl) (hf:X.fn x=true\/X.env.scope.names.lookup x=some .local:=by first|exact .inl rfl|exact .inr rfl):QG X (.Name x p) (gN i):=⟨_,zlA hN hi hx hf,zpN⟩
theorem qgs0:QGs X [] []:=⟨zqL⟩
theorem qgs1 {is:List Nat}(hN:X.N.Nodup) (h2:QGs X es is) (hi:X.N[i]?=some x:=by rfl) (hx:Loc X.env.scope x:=by first|exact Or.inl rfl|exact Or.inr rfl) (hf:X.fn x=true\/X.env.scope.names.lookup x=some .local:=by first|exact .inl rfl|exact .inr rfl)
  (hs:(assignEach ((.Name x p)::es) X.env).map (·.2)=assign (.Name x p) X.env::(assignEach es X.env).map (·.2):=by rfl):QGs X (.Name x p::es) (i::is):=⟨znK (zlA hN hi hx hf) h2.h hs⟩
theorem qgt {is:List Nat}(h:QGs X es is) (hc:X.calm=true:=by rfl) (hn:(assignEach es X.env).length=is.length:=by rfl) (hst:(assignEach es X.env).findIdx? (·.1)=none:=by rfl):QG X (.Tuple es k p) (gT is):=⟨_,zqM rfl hc h.h hn hst,zsj rfl rfl⟩
theorem QE.all {ι:Type}{Y:ι->Cx}(h:∀i,QE (Y i) m e f):∃t,(∀i,PE (Y i) e t)/\VE m t f :=
 ⟨fun σ H Q=>∀i,(Classical.choose (h i).h) σ H Q,fun i pins s σ H Q I hw=>(Classical.choose_spec (h i).h).1 pins s σ H Q I (hw i),fun U O H σ ρ Q p sr ef k i=>(Classical.choose_spec (h i).h).2 U O H σ ρ Q p sr ef k⟩
theorem QF.all {ι:Type}{Y:ι->Cx}{f:VB}(h:∀i,QF (Y i) es f):∃t,(∀i,PIfs (Y i) es t)/\VT t f :=
 ⟨fun σ H Q=>∀i,(Classical.choose (h i).h) σ H Q,fun i pins s σ H Q I hw=>(Classical.choose_spec (h i).h).1 pins s σ H Q I (hw i),fun U O H σ ρ Q p sr ef k i=>(Classical.choose_spec (h i).h).2 U O H σ ρ Q p sr ef k⟩
theorem QG.all {ι:Type}{Y:ι->Cx}{f:VTg}(h:∀i,QG (Y i) e f):∃t,(∀i,PG (Y i) e t)/\VG t f :=
 ⟨fun v σ H Q=>∀i,(Classical.choose (h i).h) v σ H Q,fun i u v s pins σ H Q I r hw=>(Classical.choose_spec (h i).h).1 u v s pins σ H Q I r (hw i),fun U O H σ ρ ρ' p v K sr r ef k i=>(Classical.choose_spec (h i).h).2 U O H σ ρ ρ' p v K sr r ef k⟩
def tgN1:Expr->Option Str
 | .Name x _=>some x
 | _=>none
def tgN:Expr->List Str
 | .Name x _=>[x]
 | .Tuple es _ _=>es.filterMap tgN1
 | _=>[]
def zck (tg:Expr) (src:List (Option Nat)) (N:List Str):List Str:=tgN tg++src.filterMap fun o=>o.bind fun i=>N[i]?
def zfn (scope:Scope) (outer:List (Str×NameKind)) (N:List Str) (tg:Expr) (src:List (Option Nat)):Bool:=zmJ scope.names outer N (zck tg src N) src&&decide (zck tg src N).Nodup&&(match scope.kind with | .function=>true|_=>false)
theorem zgc {scope:Scope}{outer:List (Str×NameKind)}{N:List Str}{src:List (Option Nat)}(cs:CSc X outer N) (hok:zfn scope outer N target src=true):CompScope X scope (zck target src N) src/\(zck target src N).Nodup:=by
 unfold zfn at hok;simp only [Zc1,decide_eq_true_eq] at hok;obtain ⟨⟨h1,h2⟩,h3⟩:=hok;refine ⟨CompScope.of outer N ?_ cs.ho cs.hN h1,h2⟩;cases hk:scope.kind<;>rw [hk] at h3<;>first|rfl|cases h3
structure QC (X:Cx) (elt target iter:Expr) (ifs:List Expr) (scope:Scope) (N':List Str) (src:List (Option Nat)) (f:VX):Prop where
 S:CompScope X scope N' src
 h:∃wi g tif te,PI X target iter wi/\(∀C s H fp,PG (zav X scope N' C s H fp) target g)/\(∀C s H fp,PIfs (zav X scope N' C s H fp) ifs tif)/\(∀C s H fp,PE (zav X scope N' C s H fp) elt te)/\VE .fr (zhf src wi g tif te) f
theorem qc {scope:Scope}{outer:List (Str×NameKind)}{N:List Str}{src:List (Option Nat)}{it:VL}{tg:VTg}{cond:VB}(cs:CSc X outer N) (hok:zfn scope outer N target src=true) (hi:QI X target iter it\/QJ X target iter it)
  (hg:∀C s H fp,(zav X scope (zck target src N) C s H fp).N.Nodup->QG (zav X scope (zck target src N) C s H fp) target tg) (hif:∀C s H fp,QF (zav X scope (zck target src N) C s H fp) ifs cond) (he:∀C s H fp,QE (zav X scope (zck target src N) C s H fp) .shr elt f) :
  QC X elt target iter ifs scope (zck target src N) src (zap src it tg cond f):=by
 obtain ⟨S,nd⟩:=zgc cs hok;obtain ⟨_,g1,g2⟩:=QG.all (Y:=fun (z:Addr×Shared×Hp×List Addr)=>zav X scope (zck target src N) z.1 z.2.1 z.2.2.1 z.2.2.2) fun z=>hg _ _ _ _ nd;obtain ⟨_,f1,f2⟩:=QF.all (Y:=fun (z:Addr×Shared×Hp×List Addr)=>zav X scope (zck target src N) z.1 z.2.1 z.2.2.1 z.2.2.2) fun z=>hif _ _ _ _;obtain ⟨_,e1,e2⟩:=QE.all (Y:=fun (z:Addr×Shared×Hp×List Addr)=>zav X scope (zck target src N) z.1 z.2.1 z.2.2.1 z.2.2.2) fun z=>he _ _ _ _;refine ⟨S,?_⟩;rcases hi with hi|hi<;>obtain ⟨_,i1,i2⟩:=hi.h
 ·exact ⟨_,_,_,_,i1,fun C s H fp=>g1 (C,s,H,fp),fun C s H fp=>f1 (C,s,H,fp),fun C s H fp=>e1 (C,s,H,fp),zpT i2 g2 f2 e2⟩
 ·exact ⟨_,_,_,_,i1,fun C s H fp=>g1 (C,s,H,fp),fun C s H fp=>f1 (C,s,H,fp),fun C s H fp=>e1 (C,s,H,fp),zna i2 g2 f2 e2⟩
theorem ztx {scope:Scope}{N':List Str}{src:List (Option Nat)}(q:QC X elt target iter ifs scope N' src f) (hc:X.calm=true:=by rfl) (hs:∀x,foldedSetIterable iter X.env x=pure x:=by intro _;rfl):QE X .fr (.ListComp elt [⟨target,iter,ifs,0⟩] scope p) f:=by
 obtain ⟨wi,g,tif,te,h1,h2,h3,h4,h5⟩:=q.h;exact ⟨_,zlE q.S hc h1 h2 h3 h4 hs,h5⟩
theorem qcS {f:List PV->Option PV}(F:CF X.prog X.w X.K X.mg X.base CX0 x k (spV false f)) (hr:Room j X.A) (hk:k<=j) (ha:QA X false (e::es) fa) (hg:Gl X x:=by rfl) (hdb:(x==("__debug__" : Str))=false:=by decide) (he:starEach (e::es) X.env=(false,eval e X.env)::starEach es X.env:=by rfl) (hpl:(backTo pos (starEach es X.env)).any (·.1)=false:=by rfl) :
  QE X .shr (.Call (.Name x p) (e::es) [] pos) (xL f fa):=by
 obtain ⟨_,_,_,F1,F2,F3,F4⟩:=F.h;obtain ⟨_,a1,a2⟩:=ha.h;exact ⟨_,zlF F1 (hr.mono hk) hg F2 F3 F4 .nil ziE a1 hdb he hpl,znc a2⟩
theorem qcF {f:List PV->Option PV}(F:CF X.prog X.w X.K X.mg X.base CX0 x k (spV true f)) (hr:Room j X.A) (hk:k<=j) (ha:QA X false (e::es) fa) (hg:Gl X x:=by rfl) (hdb:(x==("__debug__" : Str))=false:=by decide) (he:starEach (e::es) X.env=(false,eval e X.env)::starEach es X.env:=by rfl) (hpl:(backTo pos (starEach es X.env)).any (·.1)=false:=by rfl) :
  QE X .fr (.Call (.Name x p) (e::es) [] pos) (xL f fa):=by
 obtain ⟨_,_,_,F1,F2,F3,F4⟩:=F.h;obtain ⟨_,a1,a2⟩:=ha.h;exact ⟨_,zlF F1 (hr.mono hk) hg F2 F3 F4 .nil ziE a1 hdb he hpl,znd a2⟩
theorem qb {id:String}{o:List PV->Option PV}(hB:Blt X.mg l) (hc:C2 X (.builtin id) m o) (ha:QA X true (e::es) fa) (hl:l.contains x=true:=by rfl) (hv:bootBuiltins x=some (.builtin id):=by decide +kernel) (hg:Gl X x:=by rfl) (hn:x≠"__name__":=by decide) (hdb:(x==("__debug__" : Str))=false:=by decide)
  (he:starEach (e::es) X.env=(false,eval e X.env)::starEach es X.env:=by rfl) (hpl:(backTo pos (starEach es X.env)).any (·.1)=false:=by rfl):QE X m (.Call (.Name x p) (e::es) [] pos) (xL o fa):=by
 obtain ⟨_,c1,c2⟩:=hc.h;obtain ⟨_,a1,a2⟩:=ha.h;exact ⟨_,zjp c1 hg (hB.h _ hl) hv a1 hn hdb he hpl,zst c2 a2⟩
theorem qbT {T:String}{o:List PV->Option PV}(hB:Blt X.mg l) (hc:C2 X (.type T) m o) (ha:QA X true (e::es) fa) (hl:l.contains x=true:=by rfl) (hv:bootBuiltins x=some (.type T):=by decide +kernel) (hg:Gl X x:=by rfl) (hn:x≠"__name__":=by decide) (hdb:(x==("__debug__" : Str))=false:=by decide)
  (he:starEach (e::es) X.env=(false,eval e X.env)::starEach es X.env:=by rfl) (hpl:(backTo pos (starEach es X.env)).any (·.1)=false:=by rfl):QE X m (.Call (.Name x p) (e::es) [] pos) (xL o fa):=by
 obtain ⟨_,c1,c2⟩:=hc.h;obtain ⟨_,a1,a2⟩:=ha.h;exact ⟨_,zhG c1 hg (hB.h _ hl) hv a1 hn hdb he hpl,zst c2 a2⟩
theorem ztr {st:Stmt}:QS X st zct:=⟨_,znE,zm2⟩
theorem zvV (ha:QE X .shr a f):QS X (.Return (some a) p) (vRet f false):=by
 obtain ⟨_,a1,a2⟩:=ha.h;exact ⟨_,zjn a1,zpw a2⟩
theorem zvX (ha:QE X .fr a f):QS X (.Return (some a) p) (vRet f true):=by
 obtain ⟨_,a1,a2⟩:=ha.h;exact ⟨_,zjn a1,zpy a2⟩
theorem zvW (q:PE X (.Name x p2) (tVar i)):QS X (.Return (some (.Name x p2)) p) (zb2 i):=⟨_,zjn q,zpx⟩
theorem qif {fc:VB}{s t:List Stmt}{F G:VF}(hc:QT X c fc) (ha:QB X s F) (hb:QB X t G):QS X (.If c s t p) (vIf fc F G):=by
 obtain ⟨_,c1,c2⟩:=hc.h;obtain ⟨_,a1,a2⟩:=ha.h;obtain ⟨_,b1,b2⟩:=hb.h;exact ⟨_,zwg c1 a1 b1,zvz c2 a2 b2⟩
theorem zv2 (ha:QE X m a f) (hs:swapsWith a none pos.line X.env=pure false:=by rfl):QS X (.Expr a pos) (zbE f):=by
 obtain ⟨_,a1,a2⟩:=ha.h;exact ⟨_,zgC a1 hs,zpC a2⟩
theorem zvS (hN:X.N.Nodup) (ha:QE X .shr a f) (hi:X.N[i]?=some x:=by rfl) (hx:Loc X.env.scope x:=by first|exact Or.inl rfl|exact Or.inr rfl) (hs:swapsWith a (some (.Name x p)) pos.line X.env=pure false:=by rfl) (hf:X.fn x=true\/X.env.scope.names.lookup x=some .local:=by first|exact .inl rfl|exact .inr rfl):QS X (.Assign [.Name x p] a pos) (zai i f):=by
 obtain ⟨_,a1,a2⟩:=ha.h;exact ⟨_,zjm hN hi hx a1 hs hf,zpu a2⟩
theorem zvT (hN:X.N.Nodup) (ha:QE X .fr a f) (hi:X.N[i]?=some x:=by rfl) (hx:Loc X.env.scope x:=by first|exact Or.inl rfl|exact Or.inr rfl) (hs:swapsWith a (some (.Name x p)) pos.line X.env=pure false:=by rfl) (hf:X.fn x=true\/X.env.scope.names.lookup x=some .local:=by first|exact .inl rfl|exact .inr rfl):QS X (.Assign [.Name x p] a pos) (zaR i f):=by
 obtain ⟨_,a1,a2⟩:=ha.h;exact ⟨_,zjm hN hi hx a1 hs hf,zpv a2⟩
theorem zvU {scope:Scope}{N':List Str}{src:List (Option Nat)}(hN:X.N.Nodup) (q:QC X elt target iter ifs scope N' src f) (hj:X.N[j]?=some y:=by rfl) (hy:X.env.scope.names.lookup y=some .local:=by rfl) (hc:X.calm=true:=by rfl) (hsw:swapsWith (.ListComp elt [⟨target,iter,ifs,0⟩] scope pos) (some (.Name y p)) p2.line X.env=pure true:=by rfl)
  (hs:∀x,foldedSetIterable iter X.env x=pure x:=by intro _;rfl):QS X (.Assign [.Name y p] (.ListComp elt [⟨target,iter,ifs,0⟩] scope pos) p2) (zai j f)/\QS X (.Assign [.Name y p] (.ListComp elt [⟨target,iter,ifs,0⟩] scope pos) p2) (zaR j f):=by
 obtain ⟨wi,g,tif,te,h1,h2,h3,h4,h5⟩:=q.h;exact ⟨⟨_,zfT hN hj hy q.S hc h1 h2 h3 h4 hsw hs,zir h5⟩,⟨_,zfT hN hj hy q.S hc h1 h2 h3 h4 hsw hs,zis h5⟩⟩
theorem ztp {scope:Scope}{N':List Str}{src:List (Option Nat)}(hN:X.N.Nodup) (q:QC X elt target iter ifs scope N' src f) (hj:X.N[j]?=some y) (hy:X.env.scope.names.lookup y=some .local) (hc:X.calm=true) (hsw:swapsWith (.ListComp elt [⟨target,iter,ifs,0⟩] scope pos) (some (.Name y p)) p2.line X.env=pure true)
  (hs:∀x,foldedSetIterable iter X.env x=pure x):QS X (.Assign [.Name y p] (.ListComp elt [⟨target,iter,ifs,0⟩] scope pos) p2) (zai j f):=(zvU hN q hj hy hc hsw hs).1
theorem qfor {s:List Stmt}{F:VF}{it:VL}{tg:VTg}(hi:QI X target iter it) (hg:QG X target tg) (hb:QB X s F) (hp:PassesOwn (model X.prog X.w) X.A X.env X.xe) (hc:X.calm=true:=by rfl) (hs:∀x,foldedSetIterable iter X.env x=pure x:=by intro _;rfl):QS X (.For target iter s [] pos) (vFor it tg F):=by
 obtain ⟨_,c1,c2⟩:=hi.h;obtain ⟨_,a1,a2⟩:=hg.h;obtain ⟨_,b1,b2⟩:=hb.h;exact ⟨_,zlt hp hc c1 a1 b1 hs,zsb c2 a2 b2⟩
theorem zto {st:Stmt}{F:VF}(h:QS X st F):QS X st (zfQ i F):=by
 obtain ⟨_,c1,c2⟩:=h.h;exact ⟨_,c1,zm1 c2⟩
theorem qb0:QB X [] zak:=⟨_,zqD,zpt⟩
theorem qb1 {st:Stmt}{F:VF}(h:QS X st F):QB X [st] F:=by
 obtain ⟨_,c1,c2⟩:=h.h;exact ⟨_,zgB c1,c2⟩
theorem qbc {st:Stmt}{s:List Stmt}{F G:VF}(h:QS X st F) (r:QB X s G):QB X (st::s) (vSeq F G):=by
 obtain ⟨_,c1,c2⟩:=h.h;obtain ⟨_,r1,r2⟩:=r.h;exact ⟨_,zcQ c1 r1,zsa c2 r2⟩
end
section
variable {X:Cx}{m ma mb mc:Md}{a b c e elt target iter:Expr}{es ifs:List Expr}{pos p p2 ap:Pos}{f g h:VX}{fa fb:VL}{k n i j:Nat}{x y:Str}{l:List Str}
theorem zwB:OB X .Add .shr pAdd:=⟨_,zt1,zti⟩
theorem zws:OB X .Sub .shr pSub:=⟨_,ztW,zs6⟩
theorem zwv:OB X .Mult .shr pMul:=⟨_,ztY,zs8⟩
theorem zwz:OB X .FloorDiv .shr pDiv:=⟨_,zqX,ztg⟩
theorem zww:OB X .Mod .shr pMod:=⟨_,ztZ,zs9⟩
theorem zwA:OB X .Add .fr pCat:=⟨_,zt0,zth⟩
theorem zwt:OB X .Mult .fr pRep:=⟨_,ztX,zs7⟩
theorem o_eq:OC X .Eq .shr pEq:=⟨_,zwr,zvM⟩
theorem o_ne:OC X .NotEq .shr pNe:=⟨_,zwm,zvH⟩
theorem o_lt:OC X .Lt .shr pLt:=⟨_,zwn,zvI⟩
theorem o_le:OC X .LtE .shr pLe:=⟨_,zwo,zvJ⟩
theorem o_gt:OC X .Gt .shr pGt:=⟨_,zwp,zvK⟩
theorem o_ge:OC X .GtE .shr pGe:=⟨_,zwq,zvL⟩
theorem znU:OC X .LtE .shr pLeS:=⟨_,zlI,zta⟩
theorem zlO:OC X .In .shr (pIn false):=⟨_,zki rfl,ztd⟩
theorem zhS:OC X .NotIn .shr (pIn true):=⟨_,zgF rfl,ztd⟩
theorem zwy (hr:Room k X.A):OC X .Eq .shr (pEqL 3 false):=⟨_,zkj 3 (zml hr),zoP⟩
theorem zwu (hr:Room k X.A):OC X .NotEq .shr (pEqL 3 true):=⟨_,zkh 3 (zml hr),zoP⟩
theorem zwx (hr:Room k X.A):OC X .Eq .shr (pEqT 3):=⟨_,zlK 3 (zml hr),ztf⟩
theorem zxj:C2 X (.builtin "len") .shr pLen:=⟨_,ziW rfl,zsU⟩
theorem zu1:C2 X (.builtin "len") .shr zkf:=⟨_,zkz,zqm⟩
theorem zxl (hc:X.calm=true):C2 X (.builtin "all") .shr pAll:=⟨_,zmQ rfl hc,zsW⟩
theorem zu0:C2 X (.type "list") .fr zeh:=⟨_,ziV rfl,zql⟩
theorem zuZ (hc:X.calm=true):C2 X (.builtin "max") .shr zke:=⟨_,zmN hc,zqk⟩
theorem zxk (hc:X.calm=true):C2 X (.builtin "any") .shr pAny:=⟨_,zmP rfl hc,zsV⟩
theorem zuX:C2 X (.type "tuple") .shr znR:=⟨_,zfO rfl,zqi⟩
theorem zu3:C2 X (.type "int") .shr zlH:=⟨_,zmO,zqo⟩
theorem zr2:I2 X .shr pIxL:=⟨_,zn5 rfl,ztc⟩
theorem zvv:I2 X .shr pIxT:=⟨_,zrc rfl,ztb⟩
theorem qbmS {T id:String}{r:V->List V->Hp->VK->Prop}{st:VF}(hm:MtR X id r) (pa:PlainAttrs T) (slot:Slot T y id) (hty:typeOf (.builtin id)=pure (.type "method_descriptor")) (q:PE X (.Name x p) (tVar i)) {t:TA}(h1:PA X (e::es) t) (h2:VS (zhd (tBM X.K T r (tVar i) t)) st)
  (hbase:attributeBase (.Name x p) y X.env (eval (.Name x p) X.env)=eval (.Name x p) X.env:=by rfl)
  (hfew:((backTo p2 (starEach (e::es) X.env)).all (fun x=>!x.1)&&(backToKw p2 (keywordEach [] X.env)).all (fun x=>x.1.isSome)&&decide ((e::es).length + ([]:List Keyword).length + (if ([]:List Keyword).isEmpty then 0 else 1) < 30))=true:=by rfl)
  (hline:(ap.endLine==p2.line)=true:=by rfl) (hs:starEach (e::es) X.env=(false,eval e X.env)::starEach es X.env:=by rfl) (hplain:(backTo p2 (starEach es X.env)).any (·.1)=false:=by rfl) (hsw:swapsWith (.Call (.Attribute (.Name x p) y ap) (e::es) [] p2) none pos.line X.env=pure false:=by rfl) :
  QS X (.Expr (.Call (.Attribute (.Name x p) y ap) (e::es) [] p2) pos) st:=⟨_,zgC (zo2 rfl pa slot hty hm q h1 hbase hfew hline hs hplain) hsw,h2⟩
structure MM1 (X:Cx) (id:String) (T:String) (o:Nat->VX->VF):Prop where
 h:∃r,MtR X id r /\ ∀{m:Md}{i:Nat}{te:TE}{f:VX},VE .shr te f->VS (zhd (tBM X.K T r (tVar i) (zhe te tNil))) (o i f)
theorem qm1 {T id:String}{o:Nat->VX->VF}(M:MM1 X id T o) (pa:PlainAttrs T) (slot:Slot T y id) (hty:typeOf (.builtin id)=pure (.type "method_descriptor")) (q:PE X (.Name x p) (tVar i)) (ha:QE X .shr a f)
  (hbase:attributeBase (.Name x p) y X.env (eval (.Name x p) X.env)=eval (.Name x p) X.env:=by rfl)
  (hfew:((backTo p2 (starEach [a] X.env)).all (fun x=>!x.1)&&(backToKw p2 (keywordEach [] X.env)).all (fun x=>x.1.isSome)&&decide ([a].length + ([]:List Keyword).length + (if ([]:List Keyword).isEmpty then 0 else 1) < 30))=true:=by rfl)
  (hline:(ap.endLine==p2.line)=true:=by rfl) (hs:starEach [a] X.env=(false,eval a X.env)::starEach [] X.env:=by rfl) (hplain:(backTo p2 (starEach [] X.env)).any (·.1)=false:=by rfl) (hsw:swapsWith (.Call (.Attribute (.Name x p) y ap) [a] [] p2) none pos.line X.env=pure false:=by rfl) :
  QS X (.Expr (.Call (.Attribute (.Name x p) y ap) [a] [] p2) pos) (o i f):=by
 obtain ⟨_,m1,m2⟩:=M.h;obtain ⟨_,a1,a2⟩:=ha.h;exact qbmS m1 pa slot hty q (zda a1 zd6 hs) (m2 (m:=.shr) a2) hbase hfew hline hs hplain hsw
theorem qapp (q:PE X (.Name x p) (tVar i)) (ha:QE X .shr a f)
  (hbase:attributeBase (.Name x p) "append" X.env (eval (.Name x p) X.env)=eval (.Name x p) X.env:=by rfl)
  (hfew:((backTo p2 (starEach [a] X.env)).all (fun x=>!x.1)&&(backToKw p2 (keywordEach [] X.env)).all (fun x=>x.1.isSome)&&decide ([a].length + ([]:List Keyword).length + (if ([]:List Keyword).isEmpty then 0 else 1) < 30))=true:=by rfl)
  (hline:(ap.endLine==p2.line)=true:=by rfl) (hs:starEach [a] X.env=(false,eval a X.env)::starEach [] X.env:=by rfl) (hplain:(backTo p2 (starEach [] X.env)).any (·.1)=false:=by rfl) (hsw:swapsWith (.Call (.Attribute (.Name x p) "append" ap) [a] [] p2) none pos.line X.env=pure false:=by rfl) :
  QS X (.Expr (.Call (.Attribute (.Name x p) "append" ap) [a] [] p2) pos) (zao i f):=qm1 ⟨_,zhV,fun h=>zkH h⟩ PySem.F.plainAttrs_list PySem.F.slot_list_append PySem.F.type_list_append q ha hbase hfew hline hs hplain hsw
theorem zv1 (q:PE X (.Name x p) (tVar i)) (ha:QE X m a f)
  (hbase:attributeBase (.Name x p) "extend" X.env (eval (.Name x p) X.env)=eval (.Name x p) X.env:=by rfl)
  (hfew:((backTo p2 (starEach [a] X.env)).all (fun x=>!x.1)&&(backToKw p2 (keywordEach [] X.env)).all (fun x=>x.1.isSome)&&decide ([a].length + ([]:List Keyword).length + (if ([]:List Keyword).isEmpty then 0 else 1) < 30))=true:=by rfl)
  (hline:(ap.endLine==p2.line)=true:=by rfl) (hs:starEach [a] X.env=(false,eval a X.env)::starEach [] X.env:=by rfl) (hplain:(backTo p2 (starEach [] X.env)).any (·.1)=false:=by rfl) (hsw:swapsWith (.Call (.Attribute (.Name x p) "extend" ap) [a] [] p2) none pos.line X.env=pure false:=by rfl) :
  QS X (.Expr (.Call (.Attribute (.Name x p) "extend" ap) [a] [] p2) pos) (zcb i f):=by
 obtain ⟨_,a1,a2⟩:=ha.h;exact qbmS zlT PySem.F.plainAttrs_list PySem.F.slot_list_extend PySem.F.type_list_extend q (zda a1 zd6 hs) (zkG a2) hbase hfew hline hs hplain hsw
theorem zvY (q:PE X (.Name x p) (tVar i)) (hk:QE X m b g) (ha:QE X .shr a f) (hsub:∀{ti},PE X b ti->PG X (.Subscript (.Name x p) b ap) (gSub (tVar i) ti zqs)) (hs:swapsWithSole [.Subscript (.Name x p) b ap] a pos.line X.env=pure false:=by rfl) (hw:swappedStores [.Subscript (.Name x p) b ap] a X.env=pure none:=by rfl)
  (h1:(assignEach [.Subscript (.Name x p) b ap] X.env).map (·.2) = [assign (.Subscript (.Name x p) b ap) X.env]:=by rfl):QS X (.Assign [.Subscript (.Name x p) b ap] a pos) (zit i g f):=by
 obtain ⟨_,a1,a2⟩:=ha.h;obtain ⟨_,b1,b2⟩:=hk.h;exact ⟨_,zoW a1 (hsub b1) hs hw h1,zpA a2 b2⟩
theorem qunp {tg:VTg}(hG:QG X target tg) (ha:QE X .shr a f) (hs:swapsWithSole [target] a pos.line X.env=pure false:=by rfl) (hw:swappedStores [target] a X.env=pure none:=by rfl) (h1:(assignEach [target] X.env).map (·.2) = [assign target X.env]:=by rfl):QS X (.Assign [target] a pos) (vUnp tg f):=by
 obtain ⟨_,a1,a2⟩:=ha.h;obtain ⟨_,g1,g2⟩:=hG.h;exact ⟨_,zoW a1 g1 hs hw h1,zr9 a2 g2⟩
theorem qrev {s:Expr}(hb:QE X ma a f) (hg:QE X mb s g) (hq:∀{t u},PE X a t->PE X s u->PE X (.Subscript a (.Slice none none (some s) p2) p) (tRev X.K t u)):QE X .fr (.Subscript a (.Slice none none (some s) p2) p) (xRev f g):=by
 obtain ⟨_,a1,a2⟩:=hb.h;obtain ⟨_,g1,g2⟩:=hg.h;exact ⟨_,hq a1 g1,zso a2 g2⟩
theorem qir3 (hB:Blt X.mg l) (ha:QA X true [a,b,c] fa) (hl:l.contains "range" = true:=by rfl) (hq:∀{t},PA X [a,b,c] t->X.mg "range" = none->PI X target (.Call (.Name "range" p) [a,b,c] [] pos) (zrf t)):QI X target (.Call (.Name "range" p) [a,b,c] [] pos) (itRD fa):=by
 obtain ⟨_,a1,a2⟩:=ha.h;exact ⟨_,hq a1 (hB.h _ hl),zpI a2⟩
variable {pm r:Bool}{cl:Nat->Addr}{G G':VR}{F:VF}{st:Stmt}{s t:List Stmt}{u:PEnv->Option Nat}
variable {P:Program}{w:World}{K:PySem.W.Frag}{mg:Str->Option Value}{base:Heap}
theorem okQ {st:Stmt}{N ps:List Str}{fr:Bool}(D:Df K mg x st ps) (S:FnScope N ps (zad st))
  (hb:∀(a:Addr) (cdv:Value) (A:Around) (outer:List Env) (s:Shared) (H:Hp) (E:XK),Room k (cxOf CX0 P w K mg base N x (zad st) a cdv A outer s H E).nox.A->CSc (cxOf CX0 P w K mg base N x (zad st) a cdv A outer s H E).nox (zad st).names N->(cxOf CX0 P w K mg base N x (zad st) a cdv A outer s H E).nox.N.Nodup ->
   QB (cxOf CX0 P w K mg base N x (zad st) a cdv A outer s H E).nox (za0 st) F):CF P w K mg base CX0 x (k+1) (spV fr (fnM ps.length N.length fr F)):=by
 obtain ⟨a,d,h1,h2,h3⟩:=D.h;refine ⟨a,d,ps,?_,h1,h2.kp,h3⟩;refine h2.ok S (ziw rfl) fun cdv A outer s H vs Q E hr h=>?_;obtain ⟨_,q1,q2⟩:=(hb a cdv A outer s H E hr ⟨fun _=>rfl,rfl⟩ S.nd).h;exact ⟨_,q1,fnV q2 h⟩
end
theorem okL {P:Program}{w:World}{K:PySem.W.Frag}{mg:Str->Option Value}{base:Heap}{k:Nat}{x:Str}{F:VF}{st:Stmt}{N ps:List Str}{a:Addr}{d:FuncData}(D:Fun K x x st a d) (S:FnScope N ps (zad st))
  (hb:∀(cdv:Value) (A:Around) (outer:List Env) (s:Shared) (H:Hp) (E:XK),Room k (cxOf CX0 P w K mg base N x (zad st) a cdv A outer s H E).nox.A->CSc (cxOf CX0 P w K mg base N x (zad st) a cdv A outer s H E).nox (zad st).names N->(cxOf CX0 P w K mg base N x (zad st) a cdv A outer s H E).nox.N.Nodup ->
   QB (cxOf CX0 P w K mg base N x (zad st) a cdv A outer s H E).nox (za0 st) F):FnOk P w K mg base CX0 (k+1) a d ps (spV false (fnM ps.length N.length false F)):=by
 refine D.ok S (ziw rfl) fun cdv A outer s H vs Q E hr h=>?_;obtain ⟨_,q1,q2⟩:=(hb cdv A outer s H E hr ⟨fun _=>rfl,rfl⟩ S.nd).h;exact ⟨_,q1,fnV q2 h⟩
section
variable {X:Cx}{m ma mb mc:Md}{a b c e elt target iter:Expr}{es ifs:List Expr}{pos p p2 ap:Pos}{f g h:VX}{fa fb:VL}{k n i j:Nat}{x y:Str}{l:List Str}
theorem zuo {A:Around}{k:Nat}(hr:Room k A):A.units + (8+1) < cLine:=Nat.lt_of_le_of_lt (Nat.add_le_add_left (by decide:9<=64) _) hr.units
theorem qit (ha:QE X m a f):QI X target a (itT f):=by
 obtain ⟨_,a1,a2⟩:=ha.h;exact ⟨_,zqH rfl a1,zsh a2⟩
end
open PySem.Spec PyProof.Rows PySem.W
theorem zha:∀{ss:List Str}{us:List Value},StrsAre us ss->Vals (ss.map V.str) us
 | _,_,.nil=>.nil
 | _,_,.cons n t h=>.cons ⟨t,rfl⟩ (zha h)
theorem zev:∀{ns:List Str}{us:List Value},us.length=ns.length->(∀(j:Nat) (v:Value),us[j]?=some v -> ∃n t,ns[j]?=some n/\v=Value.str n t)->StrsAre us ns
 | [],[],_,_=>.nil
 | [],_::_,h,_=>nomatch h
 | _::_,[],h,_=>nomatch h
 | n::ns,u::us,h,k=>by
  obtain ⟨m,t,e,rfl⟩:=k 0 u rfl;simp at e;subst e;exact .cons _ _ (zev (by simpa using h) fun j v hv=>by simpa using k (j+1) v (by simpa using hv))
theorem zq8 {P:Program}{w:World}{n:Str}{v:Value}(h:(zaE P w).is (Sum.inr n) v=true):∃t,v=Value.str n t :=
 by
  rcases zaJ (k:=Sum.inr n) h with ⟨i,t,e,_⟩|⟨x,t,e,rfl⟩
  ·cases e
  ·cases e;exact ⟨t,rfl⟩
def zoN:List V->Hp->VK->Prop:=fun xs H Q=>∃(a:Addr) (kvs:List (Key×V)) (ns:List Str),xs = [.ref a]/\Rd H a (.dK kvs)/\kvs.map (·.1)=ns.map Sum.inr/\ns.length < 64 /\
 ∀ns':List Str,ns'.Perm ns->sortedS ns'=true -> ∀l,H l=none->Q (.ref l) (upd H l (.lst (ns'.map V.str)))
theorem zg2 {X:Cx}(hc:X.calm=true):zbL X (.builtin "sorted") zoN:=by
 intro pins s σ H xs us Q I r h;obtain ⟨a,kvs,ns,rfl,ha,hk,h64,q⟩:=h;obtain ⟨u,rfl,rx⟩:=vals1 r;cases rx;obtain ⟨z,hd,vs,rel,dd⟩:=zgY I.hok ha;have hlen:vs.length=ns.length:=by
  have e1:=rel.len;have e2:=congrArg List.length hk;simp only [Zd] at e2;omega
 refine Calls.call_function_entry kind_sorted plain_sorted entry_sorted (args_sorted1 _) ?_;unfold Builtin.«sorted»;refine wpAny_bind (m:=checkCount "sorted" 1 1 _) (wpAny_pure ?_);obtain ⟨ep,hat⟩:=dd.dictAt;refine wpAny_bind (kdu_collect (A:=X.A.in1) (kdl_dict (knd:=zaE X.prog X.w) (kvs:=vs) (ep:=ep) hd) (I.ok.hd hc) hat (by rw [hlen,sizeLine_eq];omega) fun h' tk acc hkk hacc=>?_);have hl:acc.toList.length=vs.length:=by rw [Array.length_toList];exact hacc.1
 refine wpAny_bind (wpAny_newList ?_ (by rw [hl,hlen,sizeLine_eq];omega));have hI:StrsAre acc.toList ns:=by
  refine zev (by rw [hl,hlen]) fun j v hv=>?_;obtain ⟨k,x,hx,his⟩:=hacc.2 j v (by rw [<- Array.getElem?_toList];exact hv);have hkj:(vs.map (·.1))[j]?=some k:=by rw [Zj,hx];rfl
  rw [<- ziM rel,hk,Zj] at hkj;obtain ⟨n,hn,rfl⟩:=Zb.mp hkj;obtain ⟨t,rfl⟩:=zq8 his;exact ⟨n,t,hn,rfl⟩
 have hoL:(h'.push (seqObj "list" acc.toList.toArray 0)).get? h'.objs.size=some (seqObj "list" acc.toList.toArray 0):=Heap.get?_push_size _ rfl;refine wpAny_bind (wpAny_holding (wpAny_call_entry slot_list_sort ⟨_,hoL,rfl⟩ entry_list_sort (list_sort_treeK strKind_oneLt hoL hI.keysOf (fun v₁ v₂ rest e=>keyKind_strs (by rw [<- e];exact hI)) (by rw [hl,hlen];exact h64) fun st' hp hs=>⟨_,rfl,?_⟩) (args_list_sort _)));obtain ⟨ns',a1,a2,a3⟩:=sorted_out_str hI hp hs;generalize (arrOf st').map (·.2)=out at a1 ⊢;refine wpAny_pure ⟨_,rfl,?_⟩;obtain ⟨e,he⟩:=sortedHeap_at (out:=out) hoL;have I1:Inv X pins σ H { s with heap:=h',toks:=tk }:=I.kept (t':=tk) hkk;have kp:∀b o,h'.get? b=some o->(sortedHeap (h'.push (seqObj "list" acc.toList.toArray 0)) h'.objs.size acc.toList out).get? b=some o:=fun b o hb=>by
  have hb':=Heap.lt_size hb;rw [sortedHeap_old (Nat.ne_of_lt hb') (by rw [size_push'];exact Nat.lt_succ_of_lt hb')];exact Heap.get?_push_of_some _ hb
 refine ⟨.ref h'.objs.size,_,I1.laid (t':=tk) kp (Nat.le_refl _) (show za4 X.prog X.w _ _ _ (.lst (ns'.map V.str)) from ⟨?_,out.toList,e,zha a1,by simpa using he⟩),rfl,q ns' a2 a3 _ (I1.hok.fresh (Nat.le_refl _))⟩;rw [Zd,a2.length_eq,sizeLine_eq];omega
def leS (a b:Str):Bool:=!decide (b.cps.toList < a.cps.toList)
def insS (x:Str):List Str->List Str
 | []=>[x]
 | y::r=>if leS x y then x::y::r else y::insS x r
def srtS:List Str->List Str
 | []=>[]
 | x::r=>insS x (srtS r)
theorem zgO {a b:Str}:leS a b=true↔a.cps.toList<=b.cps.toList:=by unfold leS;simp
theorem zl7 (a b:Str):leS a b=true\/leS b a=true:=by rw [zgO,zgO];exact List.le_total _ _
theorem zhX {a b c:Str}(h:leS a b=true) (g:leS b c=true):leS a c=true:=by rw [zgO] at *;exact List.le_trans h g
theorem zn2 {a b:Str}(h:leS a b=true) (g:leS b a=true):a=b:=by
 rw [zgO] at *;have:=List.le_antisymm h g;cases a;cases b;simp only [Str.mk.injEq];exact Array.ext' this
theorem zfe (x:Str):∀l:List Str,(insS x l).Perm (x::l)
 | []=>.refl _
 | y::r=>by
  unfold insS;split
  ·exact .refl _
  ·exact ((zfe x r).cons y).trans (.swap x y r)
theorem zaX:∀l:List Str,(srtS l).Perm l
 | []=>.refl _
 | x::r=>(zfe x _).trans ((zaX r).cons x)
theorem zmk (x:Str):∀{l:List Str},l.Pairwise (fun a b=>leS a b=true)->(insS x l).Pairwise (fun a b=>leS a b=true)
 | [],_=>List.pairwise_singleton _ _
 | y::r,h=>by
  unfold insS;split
  ·rename_i hxy
   refine Zm1.mpr ⟨fun z hz=>?_,h⟩;rcases Zk.mp hz with rfl|hz
   ·exact hxy
   ·exact zhX hxy ((Zm1.mp h).1 z hz)
  ·rename_i hxy
   have hyx:leS y x=true:=(zl7 x y).resolve_left hxy;refine Zm1.mpr ⟨fun z hz=>?_,zmk x (Zm1.mp h).2⟩;rcases Zk.mp ((zfe x r).mem_iff.mp hz) with rfl|hz
   ·exact hyx
   ·exact (Zm1.mp h).1 z hz
theorem zgp:∀l:List Str,(srtS l).Pairwise (fun a b=>leS a b=true)
 | []=>.nil
 | x::r=>zmk x (zgp r)
theorem zqN:∀{a b:List Str},a.Perm b->a.Pairwise (fun a b=>leS a b=true)->b.Pairwise (fun a b=>leS a b=true)->a=b
 | [],b,h,_,_=>by rw [List.nil_perm.mp h]
 | x::a,[],h,_,_=>by cases List.perm_nil.mp h
 | x::a,y::b,h,ha,hb=>by
  have hx:x=y:=by
   rcases Zk.mp (h.mem_iff.mp (Zf ..)) with e|e
   ·exact e
   rcases Zk.mp (h.mem_iff.mpr (Zf ..)) with e'|e'
   ·exact e'.symm
   exact zn2 ((Zm1.mp ha).1 y e') ((Zm1.mp hb).1 x e)
  subst hx;rw [zqN (List.Perm.cons_inv h) (Zm1.mp ha).2 (Zm1.mp hb).2]
theorem zld:∀(l:List Str) (p:Str),risingS p l=true->(p::l).Pairwise (fun a b=>leS a b=true)
 | [],p,_=>List.pairwise_singleton _ _
 | x::r,p,h=>by
  simp only [risingS,Zc1] at h;have ih:=zld r x h.2;have hpx:leS p x=true:=by
   have:=h.1;rw [ltCps_eq] at this;exact this
  refine Zm1.mpr ⟨fun z hz=>?_,ih⟩;rcases Zk.mp hz with rfl|hz
  ·exact hpx
  ·exact zhX hpx ((Zm1.mp ih).1 z hz)
theorem znm {l:List Str}(h:sortedS l=true):l.Pairwise (fun a b=>leS a b=true):=by
 cases l with
 | nil=>exact .nil
 | cons x r=>exact zld r x h
def zks:List (Key×PV)->Option (List Str)
 | []=>some []
 | (.inr x,_)::r=>(zks r).map (x::·)
 | _=>none
theorem zhZ {U:AS}{H:Hp}:∀{ks:List (Key×PV)}{kvs:List (Key×V)}{ns:List Str},RepK U H ks kvs->zks ks=some ns->kvs.map (·.1)=ns.map Sum.inr
 | [],kvs,ns,r,e=>by
  cases e;rw [zbo.mp r];rfl
 | (.inl i,p)::ks,kvs,ns,r,e=>by cases e
 | (.inr x,p)::ks,kvs,ns,r,e=>by
  obtain ⟨ms,hm,rfl⟩:=Zb.mp e;obtain ⟨v,kr,rfl,_,hr⟩:=zaM.mp r;rw [Zh,Zh,zhZ hr hm]
def zhI:List PV->Option PV
 | [.dct ks]=>(zks ks).bind fun ns=>if decide (ns.length < 64)=true then some (.lst ((srtS ns).map PV.str)) else none
 | _=>none
theorem Reps.of_strs {U:AS}{H:Hp}:∀(ns:List Str),Reps U H (ns.map PV.str) (ns.map V.str)
 | []=>zam.mpr rfl
 | n::ns=>zah.mpr ⟨_,_,rfl,za5.mpr rfl,Reps.of_strs ns⟩
theorem znt:RLV .fr zoN zhI:=by
 intro U H ps z vs Q d hb e k
 match ps,e with
 | [.dct ks],e =>
  obtain ⟨ns,hns,e⟩:=Za.mp e;obtain ⟨h,rfl⟩:=zaD e;obtain ⟨v,rfl,a,kvs,rfl,ha,rk⟩:=hb.one;refine ⟨a,kvs,ns,rfl,ha,zhZ rk hns,of_decide_eq_true h,fun ns' hp hs l hl=>?_⟩;rw [zqN (hp.trans (zaX ns).symm) (znm hs) (zgp ns)];obtain ⟨e2,r2⟩:=zbr d hl (Reps.of_strs (srtS ns));exact k _ _ U e2 r2
theorem zrF {X:Cx}(hc:X.calm=true):C2 X (.builtin "sorted") .fr zhI:=⟨_,zg2 hc,znt⟩
end L2
namespace HT
open PySem PyProof.Rows
end HT
namespace L2
open PySem PySem.Spec PyProof.Rows
end L2
namespace L2
open PySem PySem.W PyProof.Rows
def zcl {α:Type}(P:α->Prop) (n:Nat):KasT α->Prop
 | .ret a=>P a
 | .ask i j k=>i < n/\j < n /\ ∀b,zcl P n (k b)
def runA {α:Type}(lt:Nat->Nat->Bool):KasT α->α
 | .ret a=>a
 | .ask i j k=>runA lt (k (lt i j))
theorem zcl.bind {α β:Type}{P:α->Prop}{Q:β->Prop}{n:Nat}{f:α->KasT β}:∀{t:KasT α},zcl P n t->(∀a,P a->zcl Q n (f a))->zcl Q n (t.bind f)
 | .ret a,h,k=>by rw [KasT.bind.eq_1];exact k a h
 | .ask i j g,h,k=>by
  rw [KasT.bind.eq_2];exact ⟨h.1,h.2.1,fun b=>(h.2.2 b).bind k⟩
theorem zcl.run {α:Type}{P:α->Prop}{n:Nat}(lt:Nat->Nat->Bool):∀{t:KasT α},zcl P n t->P (runA lt t)
 | .ret a,h=>h
 | .ask i j g,h=>(h.2.2 (lt i j)).run lt
theorem zcl.wp {α:Type}{P:α->Prop}{n:Nat}{lt:Nat->Nat->Bool}{cmp:Nat->Nat->(Bool->Shared->Prop)->Shared->Prop}{J:Shared->Prop}
  (hc:∀i j,i < n->j < n -> ∀(C:Bool->Shared->Prop) s,J s->(∀s',J s' -> C (lt i j) s')->cmp i j C s):∀{t:KasT α}{Q:α->Shared->Prop}{s:Shared},zcl P n t->J s->(∀s',J s' -> Q (runA lt t) s')->KasT.kasWp cmp t Q s
 | .ret a,Q,s,h,hj,k=>by rw [KasT.kasWp.eq_1];exact k s hj
 | .ask i j g,Q,s,h,hj,k=>by
  rw [KasT.kasWp.eq_2];refine hc i j h.1 h.2.1 _ s hj fun s' hj'=>?_;exact zcl.wp hc (h.2.2 (lt i j)) hj' k
def PR (n:Nat) (p:Array Nat):Prop:=p.toList.Perm (List.range n)
theorem PR.at {n:Nat}{p:Array Nat}(h:PR n p) (h0:0 < n) (i:Nat):p.getD i 0 < n:=by
 by_cases hi:i < p.size
 ·have hm:p.getD i 0∈p.toList:=by
   rw [Array.getD_eq_getD_getElem?,Array.getElem?_eq_getElem hi];simp
  exact Zt.mp (h.mem_iff.mp hm)
 ·rw [Array.getD_eq_getD_getElem?,Array.getElem?_eq_none (by omega)]
  exact h0
theorem PR.swap {n:Nat}{p:Array Nat}(h:PR n p) (i j:Nat):PR n (p.swapIfInBounds i j):=by
 unfold PR;unfold Array.swapIfInBounds;split
 ·split
  ·exact ((Array.swap_perm _ _).toList).trans h
  ·exact h
 ·exact h
theorem PR.swaps {n:Nat}(f g:Nat->Nat):∀(l:List Nat) {p:Array Nat},PR n p->PR n (l.foldl (fun a k=>a.swapIfInBounds (f k) (g k)) p)
 | [],p,h=>h
 | k::l,p,h=>PR.swaps f g l (h.swap _ _)
theorem PR.rev {n:Nat}{p:Array Nat}(h:PR n p) (i j:Nat):PR n (kas_rev p i j):=PR.swaps (fun k=>i+k) (fun k=>j - 1 - k) _ h
theorem PR.bub {n:Nat}{p:Array Nat}(h:PR n p) (i j:Nat):PR n (bubble p i j):=PR.swaps (fun k=>i - k) (fun k=>i - k - 1) _ h
section
variable {n:Nat}(h0:0 < n)
include h0
theorem ziY {p:Array Nat}(h:PR n p):∀(f x:Nat),zcl (fun _=>True) n (kas_asc p f x)
 | 0,x=>by rw [kas_asc.eq_1];trivial
 | f+1,x=>by
  rw [kas_asc.eq_2];refine ⟨h.at h0 _,h.at h0 _,fun b=>?_⟩;cases b with
  | true=>trivial
  | false=>exact ziY h f (x+1)
theorem zfp {p:Array Nat}(h:PR n p) (k:Nat):∀(f x y:Nat),zcl (fun _=>True) n (kas_place p k f x y)
 | 0,x,y=>by rw [kas_place.eq_1];trivial
 | f+1,x,y=>by
  rw [kas_place.eq_2];split
  ·trivial
  ·refine ⟨h.at h0 _,h.at h0 _,fun b=>?_⟩
   cases b with
   | true=>exact zfp h k f _ _
   | false=>exact zfp h k f _ _
theorem zmV:∀(f:Nat) {p:Array Nat}(x:Nat),PR n p->zcl (PR n) n (kas_bin f p x)
 | 0,p,x,h=>by rw [kas_bin.eq_1];exact h
 | f+1,p,x,h=>by
  rw [kas_bin.eq_2];exact (zfp h0 h x x 0 x).bind fun l _=>zmV f (x+1) (h.bub _ _)
theorem zer:∀(f:Nat) {p:Array Nat}(x y:Nat),PR n p->zcl (fun r=>PR n r.1) n (kas_desc f p x y)
 | 0,p,x,y,h=>by rw [kas_desc.eq_1];exact h
 | f+1,p,x,y,h=>by
  rw [kas_desc.eq_2];refine ⟨h.at h0 _,h.at h0 _,fun b=>?_⟩;cases b with
  | true =>
   simp only [if_true];split
   ·exact zer f _ _ (h.rev _ _)
   ·exact zer f _ _ h
  | false =>
   refine ⟨h.at h0 _,h.at h0 _,fun d=>?_⟩;cases d with
   | true=>exact h
   | false=>exact zer f _ _ h
theorem zjV {p:Array Nat}(h:PR n p) (a b:Nat):zcl (fun r=>PR n r.2) n (kas_tail3 a b p):=by
 unfold kas_tail3;exact (ziY h0 (h.rev 0 a) _ _).bind fun m _=>h.rev 0 a
theorem zin {p:Array Nat}(h:PR n p) (a b:Nat):zcl (fun r=>PR n r.2) n (kas_descPart a b p):=by
 unfold kas_descPart;refine (zer h0 _ _ _ h).bind fun r hr=>?_;split
 ·exact zjV h0 (hr.rev _ _) _ _
 ·exact zjV h0 hr _ _
theorem zmU {p:Array Nat}(h:PR n p) (m:Nat):zcl (fun r=>PR n r.2) n (kas_count m p):=by
 unfold kas_count;refine (ziY h0 h _ _).bind fun k _=>?_;split
 ·exact h
 ·split
  ·refine ⟨h.at h0 _,h.at h0 _,fun b=>?_⟩
   cases b with
   | true=>exact h
   | false=>exact zin h0 (h.rev 0 k) _ _
  ·exact zin h0 h _ _
theorem zjW:zcl (PR n) n (kas_sort n):=by
 unfold kas_sort;refine (zmU h0 (p:=(List.range n).toArray) (by unfold PR;simp) n).bind fun r hr=>?_;split
 ·exact zmV h0 _ _ hr
 ·exact hr
end
section
variable {prog:Program}{w:World}{A:Around}{E:Value->Shared->Prop}{s:Shared}{a:Addr}{vs:List Value}
def h3of (h:Heap) (a:Addr) (vs:List Value):Heap:=((h.update a (Obj.mapSeq fun _=>(#[]:Array Value))).push (seqObj "tuple" vs.toArray 0)).push (seqObj "list" #[] 0)
def zew (lt:Nat->Nat->Bool) (n:Nat):List Nat:=if n < 2 then List.range n else (runA lt (kas_sort n)).toList
theorem zcO (lt:Nat->Nat->Bool) (n:Nat):(zew lt n).Perm (List.range n):=by
 unfold zew;split
 ·exact .refl _
 ·exact (zjW (n:=n) (by omega)).run lt
end
open PySem.Spec
theorem zkM:∀{ys:List V}{us:List Value},Vals ys us -> ∀i:Nat,i < ys.length->RelV (ys.getD i .non) (us.getD i Value.none):=fun r i hi=>by
 obtain ⟨u,hu,ru⟩:=r.get (Zc hi);rw [Zy,Zy,Zc hi,hu];exact ru
theorem zhb {ys:List V}{us:List Value}(r:Vals ys us):∀(p:List Nat),(∀i∈p,i < ys.length)->Vals (p.map fun i=>ys.getD i .non) (p.map fun i=>us.getD i Value.none)
 | [],_=>.nil
 | i::p,h=>.cons (zkM r i (h i (Zf ..))) (zhb r p fun j hj=>h j (Ze _ hj))
end L2
namespace L2
open PySem
def zp5 (ns:List (List Int)):List Nat:=zew (fun i j=>HT.lexLt (ns.getD i []) (ns.getD j [])) ns.length
theorem Reps.pick {U:AS}{H:Hp}{ps:List PV}{xs:List V}(r:Reps U H ps xs):∀(p:List Nat),(∀i∈p,i < ps.length)->Reps U H (p.map fun i=>ps.getD i .non) (p.map fun i=>xs.getD i .non)
 | [],_=>zam.mpr rfl
 | i::p,h=>by
  have hi:=h i (Zf ..);obtain ⟨v,hv,rv⟩:=r.get (Zc hi);refine zah.mpr ⟨_,_,rfl,?_,Reps.pick r p fun j hj=>h j (Ze _ hj)⟩;show Rep U H (ps.getD i .non) (xs.getD i .non);rw [Zy,Zy,Zc hi,hv];exact rv
section
variable {X:Cx}{e:Expr}{es:List Expr}{pos p p2 p3:Pos}{fa:VL}{l:List Str}
theorem qss (hB:Blt X.mg l) (ha:QA X true (e::es) fa) (hl:l.contains "sorted" = true) (hl2:l.contains "set" = true) (hv:bootBuiltins "sorted" = some (.builtin "sorted")) (hv2:bootBuiltins "set" = some (.type "set")) (hg:Gl X "sorted") (hg2:Gl X "set") (hc:X.calm=true)
  (he:starEach (e::es) X.env=(false,eval e X.env)::starEach es X.env) (hpl:(backTo p2 (starEach es X.env)).any (·.1)=false)
  (he2:starEach [.Call (.Name "set" p3) (e::es) [] p2] X.env=(false,eval (.Call (.Name "set" p3) (e::es) [] p2) X.env)::starEach [] X.env) (hpl2:(backTo pos (starEach [] X.env)).any (·.1)=false) :
  QE X .fr (.Call (.Name "sorted" p) [.Call (.Name "set" p3) (e::es) [] p2] [] pos) (xL zeO fa):=by
 obtain ⟨_,a1,a2⟩:=ha.h;exact ⟨_,zjp (zie rfl hc) hg (hB.h _ hl) hv (zda (zhG (zkB rfl rfl hc) hg2 (hB.h _ hl2) hv2 a1 (by decide) (by decide) he hpl) zd6 he2) (by decide) (by decide) he2 hpl2,zkK a2⟩
end
open PySem.W PyProof.Rows
structure WOrd (lt:Nat->Nat->Bool):Prop where
 as:∀a b,lt a b=true->lt b a=false
 tr:∀a b c,lt b a=false->lt c b=false->lt c a=false
section
variable {lt:Nat->Nat->Bool}(W:WOrd lt)
include W
end
end L2
namespace PySem
open PyProof.Rows
open PySem.W PySem.Spec
end PySem
namespace L2
open PySem PySem.Spec PyProof.Rows PySem.W
end L2
namespace L2
open PySem PySem.W PyProof.Rows
section
variable {X:Cx}{m ma mb mc:Md}{a b c e:Expr}{es:List Expr}{pos p p2 ap:Pos}{f g h:VX}{fa fb:VL}{k n i j:Nat}{x y:Str}{l:List Str}
theorem zd7 {A:Around}{k:Nat}(hr:Room k A):A.units+1 < cLine:=Nat.lt_of_le_of_lt (Nat.add_le_add_left (by decide:1<=64) _) hr.units
theorem zrE (hc:X.calm=true):C2 X (.builtin "sorted") .fr zfX:=⟨_,zif hc,zns⟩
theorem ztu:QE X .fr (.Dict [] [] p) (fun _=>some (.dct [])):=⟨_,znN,zpQ⟩
theorem zoR (ha:QE X ma a f) (hb:QE X .shr b g):QE X .fr (.Dict [some a] [b] p) (zg7 f g):=by
 obtain ⟨_,a1,a2⟩:=ha.h;obtain ⟨_,b1,b2⟩:=hb.h;exact ⟨_,zqR (znF a1 b1 zqF) rfl rfl (fun z=>nomatch z) (Nat.le_of_ble_eq_true rfl),zm8 a2 b2⟩
theorem qdin (hr:Room k X.A) (ha:QE X ma a f) (hb:QE X mb b g) (hm:behindInMarks .In b=false):QE X .shr (.Compare a [.In] [b] p) (xDIn false f g):=by
 obtain ⟨_,a1,a2⟩:=ha.h;obtain ⟨_,b1,b2⟩:=hb.h;exact ⟨_,ztS (zo3 (zd7 hr) a1 b1) hm,zoD a2 b2⟩
theorem zvQ (hr:Room k X.A) (ha:QE X ma a f) (hb:QE X mb b g) (hm:behindInMarks .In b=false):QT X (.Compare a [.In] [b] p) (bOf (xDIn false f g)):=by
 obtain ⟨_,a1,a2⟩:=ha.h;obtain ⟨_,b1,b2⟩:=hb.h;exact ⟨_,zhC (zo3 (zd7 hr) a1 b1) hm,zet (zoD a2 b2)⟩
theorem znz (hr:Room k X.A) (ha:QE X ma a f) (hb:QE X mb b g) (hm:behindInMarks .NotIn b=false):QT X (.Compare a [.NotIn] [b] p) (bOf (xDIn true f g)):=by
 obtain ⟨_,a1,a2⟩:=ha.h;obtain ⟨_,b1,b2⟩:=hb.h;exact ⟨_,zhC (zlG (zd7 hr) a1 b1) hm,zet (zkL a2 b2)⟩
theorem zv3 (hr:Room k X.A) (q:PE X (.Name x p) (tVar i)) (hk:QE X m b g) (ha:QE X .shr a f) (hs:swapsWith a (some (.Subscript (.Name x p) b ap)) pos.line X.env=pure false:=by rfl):QS X (.Assign [.Subscript (.Name x p) b ap] a pos) (zbU i g f):=by
 obtain ⟨_,a1,a2⟩:=ha.h;obtain ⟨_,b1,b2⟩:=hk.h;exact ⟨_,zlu (zd7 hr) q b1 a1 hs,zpD b2 a2⟩
end
inductive Sh where|s|l (h:Sh)|t (h:Nat->Sh)|o (C:Addr) (nm:List Str) (h:Nat->Sh)
def zaI (R:Nat->PV->V->List Addr->Prop):Nat->List PV->List V->List Addr->Prop
 | _,[],xs,fs=>xs = []/\fs = []
 | n,p::ps,xs,fs=>∃x r f g,xs=x::r/\R n p x f/\zaI R (n+1) ps r g/\fs=f++g
def DRep (U:AS) (H:Hp):Sh->PV->V->List Addr->Prop
 | .s,p,v,fs=>Rep U H p v/\fs = []
 | .l h,p,v,fs=>∃a xs ps g,v=.ref a/\p=.lst ps/\H a=some (.lst xs)/\zaI (fun _=>DRep U H h) 0 ps xs g/\fs=a::g
 | .t h,p,v,fs=>∃a xs ps,v=.ref a/\p=.tup ps/\H a=some (.tup xs)/\zaI (fun n=>DRep U H (h n)) 0 ps xs fs
 | .o C nm h,p,v,fs=>∃a dx xs ps g,v=.ref a/\p=.obj C nm ps/\H a=some (.ins C dx (nm.zip xs))/\nm.length=ps.length/\zaI (fun n=>DRep U H (h n)) 0 ps xs g/\fs=a::g
section
variable {R R':Nat->PV->V->List Addr->Prop}
theorem zaI.imp:∀{ps:List PV}{n:Nat}{xs:List V}{fs:List Addr},(∀m p x f,R m p x f->(∀b∈f,b∈fs)->R' m p x f)->zaI R n ps xs fs->zaI R' n ps xs fs
 | [],n,xs,fs,_,d=>d
 | p::ps,n,xs,fs,h,d=>by
  obtain ⟨x,r,f,g,rfl,h1,h2,rfl⟩:=d;exact ⟨x,r,f,g,rfl,h _ _ _ _ h1 fun b hb=>List.mem_append_left _ hb,zaI.imp (fun m p x f q z=>h m p x f q fun b hb=>List.mem_append_right _ (z b hb)) h2,rfl⟩
theorem zaI.length:∀{ps:List PV}{n:Nat}{xs:List V}{fs:List Addr},zaI R n ps xs fs->xs.length=ps.length
 | [],n,xs,fs,d=>by rw [d.1];rfl
 | p::ps,n,xs,fs,d=>by
  obtain ⟨x,r,f,g,rfl,h1,h2,rfl⟩:=d;simp [zaI.length h2]
theorem zaI.reps {U:AS}{H:Hp}:∀{ps:List PV}{n:Nat}{xs:List V}{fs:List Addr},(∀m p x f,R m p x f->(∀b∈f,b∈fs)->Rep U H p x)->zaI R n ps xs fs->Reps U H ps xs
 | [],n,xs,fs,_,d=>zam.mpr d.1
 | p::ps,n,xs,fs,h,d=>by
  obtain ⟨x,r,f,g,rfl,h1,h2,rfl⟩:=d;exact zah.mpr ⟨x,r,rfl,h _ _ _ _ h1 fun b hb=>List.mem_append_left _ hb,zaI.reps (fun m p x f q z=>h m p x f q fun b hb=>List.mem_append_right _ (z b hb)) h2⟩
theorem zaI.at_:∀{ps:List PV}{n k:Nat}{xs:List V}{fs:List Addr}{p:PV},zaI R n ps xs fs->ps[k]?=some p ->
  ∃x f1 g f2,xs[k]?=some x/\R (n+k) p x g/\fs=f1++g++f2 /\ ∀(R':Nat->PV->V->List Addr->Prop) p' g',(∀m q y f,R m q y f->(∀b∈f,b∈f1\/b∈f2)->R' m q y f)->R' (n+k) p' x g' -> zaI R' n (ps.set k p') xs (f1++g'++f2)
 | [],n,k,xs,fs,p,d,e=>by simp at e
 | q::ps,n,0,xs,fs,p,d,e=>by
  obtain ⟨x,r,f,g,rfl,h1,h2,rfl⟩:=d;simp at e;subst e;refine ⟨x,[],f,g,rfl,h1,rfl,fun R' p' g' hi hp=>?_⟩;exact ⟨x,r,g',g,rfl,hp,zaI.imp (fun m p x f q z=>hi m p x f q fun b hb=>.inr (z b hb)) h2,rfl⟩
 | q::ps,n,k+1,xs,fs,p,d,e=>by
  obtain ⟨x,r,f,g,rfl,h1,h2,rfl⟩:=d;obtain ⟨y,f1,gg,f2,e1,e2,rfl,e4⟩:=zaI.at_ (k:=k) h2 (by simpa using e);refine ⟨y,f++f1,gg,f2,by simpa using e1,by rw [show n + (k+1)=n+1+k by omega];exact e2,by simp,fun R' p' g' hi hp=>?_⟩;refine ⟨x,r,f,f1++g'++f2,rfl,hi _ _ _ _ h1 fun b hb=>.inl (List.mem_append_left _ hb),e4 R' p' g' (fun m q y f q2 z=>hi m q y f q2 fun b hb=>(z b hb).elim (fun z=>.inl (List.mem_append_right _ z)) .inr) (by rw [show n+1+k=n + (k+1) by omega];exact hp),by simp⟩
theorem zaI.snoc:∀{ps:List PV}{n:Nat}{xs:List V}{fs f:List Addr}{p:PV}{x:V},zaI R n ps xs fs->R (n+ps.length) p x f->zaI R n (ps++[p]) (xs++[x]) (fs++f)
 | [],n,xs,fs,f,p,x,d,h=>by
  obtain ⟨rfl,rfl⟩:=d;exact ⟨x,[],f,[],rfl,h,⟨rfl,rfl⟩,by simp⟩
 | q::ps,n,xs,fs,f,p,x,d,h=>by
  obtain ⟨y,r,f1,g,rfl,h1,h2,rfl⟩:=d;refine ⟨y,r++[x],f1,g++f,rfl,h1,zaI.snoc h2 (by rw [show n+1+ps.length=n + (q::ps).length by simp;omega];exact h),by simp⟩
end
theorem DRep.keeps {U U':AS}{H H':Hp}(k:Keeps U H U' H'):∀{h:Sh}{p:PV}{v:V}{fs:List Addr},DRep U H h p v fs->(∀b∈fs,∀o,H b=some o->H' b=some o)->DRep U' H' h p v fs
 | .s,p,v,fs,d,_=>⟨Rep.keeps k _ _ d.1,d.2⟩
 | .l h,p,v,fs,d,c=>by
  obtain ⟨a,xs,ps,g,rfl,rfl,e,di,rfl⟩:=d;exact ⟨a,xs,ps,g,rfl,rfl,c a Zf _ e,zaI.imp (fun m p x f q z=>DRep.keeps k q fun b hb=>c b (Ze _ (z b hb))) di,rfl⟩
 | .t h,p,v,fs,d,c=>by
  obtain ⟨a,xs,ps,rfl,rfl,e,di⟩:=d;exact ⟨a,xs,ps,rfl,rfl,k.tup a xs e,zaI.imp (fun m p x f q z=>DRep.keeps k q fun b hb=>c b (z b hb)) di⟩
 | .o C nm h,p,v,fs,d,c=>by
  obtain ⟨a,dx,xs,ps,g,rfl,rfl,e,hl,di,rfl⟩:=d;exact ⟨a,dx,xs,ps,g,rfl,rfl,c a Zf _ e,hl,zaI.imp (fun m p x f q z=>DRep.keeps k q fun b hb=>c b (Ze _ (z b hb))) di,rfl⟩
theorem Keeps.up {U V:AS}{H:Hp}(m:∀a,U a->V a):Keeps U H V H:=⟨m,fun _ _ _ h=>h,fun _ _ _ h=>h,fun _ _ _ h=>h,fun _ _ h=>h⟩
theorem DRep.rep {U W:AS}{H:Hp}(m:∀a,U a->W a):∀{h:Sh}{p:PV}{v:V}{fs:List Addr},DRep U H h p v fs->(∀b∈fs,W b)->Rep W H p v
 | .s,p,v,fs,d,_=>Rep.keeps (Keeps.up m) _ _ d.1
 | .l h,p,v,fs,d,c=>by
  obtain ⟨a,xs,ps,g,rfl,rfl,e,di,rfl⟩:=d;exact zcd.mpr ⟨a,xs,rfl,c a Zf,e,zaI.reps (fun m' p x f q z=>DRep.rep m q fun b hb=>c b (Ze _ (z b hb))) di⟩
 | .t h,p,v,fs,d,c=>by
  obtain ⟨a,xs,ps,rfl,rfl,e,di⟩:=d;exact zaS.mpr ⟨a,xs,rfl,e,zaI.reps (fun m' p x f q z=>DRep.rep m q fun b hb=>c b (z b hb)) di⟩
 | .o C nm h,p,v,fs,d,c=>by
  obtain ⟨a,dx,xs,ps,g,rfl,rfl,e,hl,di,rfl⟩:=d;exact zeL.mpr ⟨a,dx,xs,rfl,c a Zf,e,hl,zaI.reps (fun m' p x f q z=>DRep.rep m q fun b hb=>c b (Ze _ (z b hb))) di⟩
def shrA:Option (PV×Fl)->Option (PV×Fl)
 | some (p,_)=>some (p,.shr)
 | none=>none
def vw (i:Nat) (p:PV) (ρ:PEnv):PEnv:=(ρ.map shrA).set i (some (p,.shr))
theorem SR.all {U O:AS}{H:Hp}{σ:St}{ρ:PEnv}(s:SR U O H σ ρ):SR (fun a=>H a≠none) (fun _=>False) H σ (ρ.map shrA):=by
 refine ⟨by simp [s.len],fun _ h=>h,fun _ h=>h.elim,fun _ _ h=>h,fun i p fl h=>?_,fun i j p q a ne h1 h2 h3 h4=>?_⟩
 ·rw [Zj] at h
  obtain ⟨o,ho,e⟩:=Zb.mp h;cases o with
  | none=>cases e
  | some x =>
   obtain ⟨q,fl0⟩:=x;cases e;obtain ⟨v,hv,ok⟩:=s.slot i p fl0 ho;refine ⟨v,hv,?_⟩;cases fl0 with
   | shr=>exact Rep.keeps (Keeps.up s.dU) _ _ ok
   | own=>obtain ⟨a,rfl,oa,tp⟩:=ok;exact Bor.dm s.dU tp.bor
   | bor=>exact Bor.dm s.dU ok.1
 ·rw [Zj] at h1
  obtain ⟨o,ho,e⟩:=Zb.mp h1;cases o with
  | none=>cases e
  | some x=>cases e
theorem zk1 {α:Type}:∀{l:List α}{i:Nat}{x:α},l[i]?=some x->l.set i x=l
 | [],_,_,h=>by simp at h
 | y::l,0,x,h=>by simp at h;simp [h]
 | y::l,i+1,x,h=>by simp at h;simp [zk1 h]
structure SD (U P:AS) (H:Hp) (σ:St) (ρ:PEnv) (i:Nat) (h:Sh) (p:PV) (a:Addr):Prop where
 h:∃O fs,SR U O H σ ρ/\ρ[i]?=some (some (.adr a,.shr))/\DRep U H h p (.ref a) fs/\fs.Nodup/\(∀b∈fs,¬U b /\ ¬O b/\Mutb H b) /\ ∀b,P b↔O b\/b∈fs
section
variable {U P U':AS}{H H':Hp}{σ:St}{ρ:PEnv}{i:Nat}{h:Sh}{p:PV}{a:Addr}
theorem Mutb.dom {b:Addr}(m:Mutb H b):H b≠none:=by obtain ⟨o,e,_⟩:=m;rw [e];intro z;cases z
theorem SD.sig (s:SD U P H σ ρ i h p a):σ[i]?=some (some (.ref a)):=by
 obtain ⟨O,fs,s,tk,_⟩:=s.h;obtain ⟨v,hv,ok⟩:=s.slot i _ _ tk;rw [hv,zgA.mp (show Rep U H (.adr a) v from ok)]
theorem SD.view (s:SD U P H σ ρ i h p a):SR (fun a=>H a≠none) (fun _=>False) H σ (vw i p ρ):=by
 have hs:=s.sig;obtain ⟨O,fs,s,tk,d,nd,ds,_⟩:=s.h;have:=s.all.setS (i:=i) (p:=p) (v:=.ref a) (d.rep s.dU fun b hb=>(ds b hb).2.2.dom);rw [zk1 hs] at this;exact this
theorem SD.dU (s:SD U P H σ ρ i h p a):∀a,U a->H a≠none:=by
 obtain ⟨O,fs,s,_⟩:=s.h;exact s.dU
theorem SD.ext (s:SD U P H σ ρ i h p a) (e:Ext U H U' H'):SD U' P H' σ ρ i h p a:=by
 obtain ⟨O,fs,s,tk,d,nd,ds,hP⟩:=s.h;refine ⟨O,fs,s.ext e,tk,d.keeps e.keeps fun b _ o q=>e.same b o q,nd,fun b hb=>?_,hP⟩;obtain ⟨d1,d2,o,d3,d4⟩:=ds b hb;refine ⟨fun z=>?_,d2,o,e.same _ _ d3,d4⟩;rcases e.new b z with z|z
 ·exact d1 z
 ·rw [d3] at z;cases z
end
inductive DO where|nx (ρ:PEnv) (p:PV)|rt (q:PV)
def zmY (U P:AS) (H:Hp) (i:Nat) (h:Sh) (a:Addr) (D:Ends):DO->Prop
 | .nx ρ' p'=>∀U' P' H' σ',SD U' P' H' σ' ρ' i h p' a->Tr U P H U' P' H' -> D.nx σ' H'
 | .rt q=>∀U' P' H' v,Tr U P H U' P' H' -> Rep U' H' q v->D.rt v H'
abbrev DF:=PEnv->PV->Option DO
abbrev DB:=PEnv->PV->Option Out
def VD (i:Nat) (h:Sh) (t:TS) (G:DF):Prop:=∀(U P:AS) (H:Hp) (σ:St) (ρ:PEnv) (p:PV) (a:Addr) (D:Ends) (o:DO),SD U P H σ ρ i h p a->G ρ p=some o->zmY U P H i h a D o->t D σ H
def VDB (i:Nat) (h:Sh) (t:TS) (G:DB):Prop:=∀(U P:AS) (H:Hp) (σ:St) (ρ:PEnv) (p:PV) (a:Addr) (D:Ends) (o:Out),SD U P H σ ρ i h p a->G ρ p=some o->Post U P H D o->t D σ H
theorem zmY.pre {U P U1 P1:AS}{H H1:Hp}{i:Nat}{h:Sh}{a:Addr}{D:Ends}{o:DO}(t:Tr U P H U1 P1 H1) (q:zmY U P H i h a D o):zmY U1 P1 H1 i h a D o:=by
 cases o with
 | nx ρ' p'=>exact fun U' P' H' σ' s r=>q U' P' H' σ' s (t.trans r)
 | rt v=>exact fun U' P' H' v r k=>q U' P' H' v (t.trans r) k
section
variable {i:Nat}{h:Sh}{t u:TS}{G:DF}{B:DB}{F:VF}
def ziR (G:DF) (B:DB):DB:=fun ρ p=>match G ρ p with
 | some (.nx ρ' p')=>B ρ' p'
 | some (.rt q)=>some (.rt q false)
 | none=>none
theorem zry (hg:VD i h t G) (hb:VDB i h u B):VDB i h (tSeq t u) (ziR G B):=by
 intro U P H σ ρ p a D o s e q;unfold ziR at e;cases z:G ρ p with
 | none=>rw [z] at e;cases e
 | some o1 =>
  rw [z] at e;refine hg U P H σ ρ p a { D with nx:=u D } o1 s z ?_;cases o1 with
  | nx ρ1 p1=>exact fun U1 P1 H1 σ1 s1 r1=>hb U1 P1 H1 σ1 ρ1 p1 a D o s1 e (q.pre r1)
  | rt v=>cases e;exact fun U' P' H' v r k=>q U' P' H' v r k
theorem SR.addU {U O:AS}{H:Hp}{σ:St}{ρ:PEnv}{fs:List Addr}(s:SR U O H σ ρ) (hf:∀b∈fs,¬O b/\H b≠none):SR (fun b=>U b\/b∈fs) O H σ ρ:=by
 have k:Keeps U H (fun b=>U b\/b∈fs) H:=Keeps.up fun _ h=>.inl h;refine ⟨s.len,fun b z=>z.elim (s.dU b) fun z=>(hf b z).2,s.dO,fun b z o=>z.elim (fun z=>s.dis b z o) fun z=>(hf b z).1 o,fun j q fl e=>?_,s.inj⟩;obtain ⟨v,hv,ok⟩:=s.slot j q fl e;refine ⟨v,hv,?_⟩;cases fl with
 | shr=>exact Rep.keeps k _ _ ok
 | own=>obtain ⟨a,e1,e2,e3⟩:=ok;exact ⟨a,e1,e2,e3.keeps k fun _ h=>h⟩
 | bor=>exact ⟨Bor.keeps k (fun _ _ h=>h) ok.1,ok.2⟩
def dEnd (i:Nat) (F:VF):DB:=fun ρ p=>F (ρ.set i (some (p,.shr)))
theorem zuS (hf:VS t F):VDB i h t (dEnd i F):=by
 intro U P H σ ρ p a D o s e q;have sg:=s.sig;obtain ⟨O,fs,s,tk,d,nd,ds,hP⟩:=s.h;have s1:=s.addU (fs:=fs) fun b hb=>⟨(ds b hb).2.1,(ds b hb).2.2.dom⟩
 have s2:=s1.setS (i:=i) (p:=p) (v:=.ref a) (d.rep (fun _ h=>.inl h) fun b hb=>.inr hb);rw [zk1 sg] at s2;refine hf _ O H σ _ D o s2 e (q.pre ⟨fun _ _ h _=>h,fun _ h=>.inl h,fun b z=>z.elim .inl fun z=>.inr (.inl ((hP b).mpr (.inr z))),fun b z=>.inl ((hP b).mpr (.inl z)),fun b z=>z.elim (s.dU b) fun z=>(ds b z).2.2.dom,fun _ h=>h⟩)
def zcL (i:Nat) (F:VF):DF:=fun ρ p=>match F ρ with
 | some (.nx ρ')=>match ρ[i]?,ρ'[i]? with
  | some (some (.adr a,.shr)),some (some (.adr b,.shr))=>if a=b then some (.nx ρ' p) else none
  | _,_=>none
 | some (.rt q false)=>some (.rt q)
 | _=>none
theorem zpV (hf:VS t F):VD i h t (zcL i F):=by
 intro U P H σ ρ p a D o s e q;obtain ⟨O,fs,s,tk,d,nd,ds,hP⟩:=s.h;unfold zcL at e;have up:∀{U' O':AS}{H':Hp},Tr U O H U' O' H' -> Tr U P H U' (fun b=>O' b\/b∈fs) H':=fun {U' O' H'} tr =>
  ⟨fun b o h n=>tr.fr b o h fun z=>n ((hP b).mpr (.inl z)),tr.mono,fun b z=>(tr.new b z).elim .inl fun z=>z.elim (fun z=>.inr (.inl ((hP b).mpr (.inl z)))) fun z=>.inr (.inr z),fun b z=>z.elim (fun z=>(tr.own b z).elim (fun z=>.inl ((hP b).mpr (.inl z))) .inr) fun z=>.inl ((hP b).mpr (.inr z)),tr.dU,tr.dm⟩
 cases z:F ρ with
 | none=>rw [z] at e;cases e
 | some o1 =>
  rw [z] at e;cases o1 with
  | bk ρ1=>cases e
  | ct ρ1=>cases e
  | rt v fr =>
   cases fr with
   | true=>cases e
   | false =>
    cases e;exact hf U O H σ ρ _ _ s z fun U' O' H' w tr ro=>q U' _ H' w (up tr) ro
  | nx ρ1 =>
   simp only [tk] at e;refine hf U O H σ ρ _ _ s z fun U' O' H' σ' s' tr=>?_;split at e
   ·rename_i a1 b1 e1 e2
    cases e1;by_cases hab:a=b1
    ·subst hab
     rw [if_pos rfl] at e;cases e;refine q U' _ H' σ' ⟨O',fs,s',e2,d.keeps (tr.keeps s.dis s.dO) fun b hb o ho=>tr.fr b o ho (ds b hb).2.1,nd,fun b hb=>?_,fun _=>Iff.rfl⟩ (up tr);obtain ⟨d1,d2,o,d3,d4⟩:=ds b hb;refine ⟨fun z=>?_,fun z=>?_,o,tr.fr _ _ d3 d2,d4⟩
     ·rcases tr.new b z with z|z|z
      ·exact d1 z
      ·exact d2 z
      ·rw [d3] at z;cases z
     ·rcases tr.own b z with z|z
      ·exact d2 z
      ·rw [d3] at z;cases z
    ·rw [if_neg hab] at e;cases e
   ·cases e
def zoj:DF:=fun ρ p=>some (.nx ρ p)
def dSeq (G1 G2:DF):DF:=fun ρ p=>match G1 ρ p with
 | some (.nx ρ' p')=>G2 ρ' p'
 | o=>o
theorem zsv {G1 G2:DF}(h1:VD i h t G1) (h2:VD i h u G2):VD i h (tSeq t u) (dSeq G1 G2):=by
 intro U P H σ ρ p a D o s e q;unfold dSeq at e;cases z:G1 ρ p with
 | none=>rw [z] at e;cases e
 | some o1 =>
  rw [z] at e;refine h1 U P H σ ρ p a { D with nx:=u D } o1 s z ?_;cases o1 with
  | nx ρ1 p1=>exact fun U1 P1 H1 σ1 s1 r1=>h2 U1 P1 H1 σ1 ρ1 p1 a D o s1 e (q.pre r1)
  | rt v=>cases e;exact fun U' P' H' v r k=>q U' P' H' v r k
end
def nb:PEnv->Bool
 | []=>true
 | some (_,.bor)::_=>false
 | _::ρ=>nb ρ
theorem ziH:∀{ρ:PEnv}{k:Nat}{p:PV},nb ρ=true->ρ[k]?≠some (some (p,.bor))
 | [],k,p,_,e=>by simp at e
 | o::ρ,0,p,h,e=>by
  simp at e;subst e;simp [nb] at h
 | o::ρ,k+1,p,h,e=>by
  have:nb ρ=true:=by
   unfold nb at h;split at h
   ·rename_i z;cases z
   ·cases h
   ·rename_i z;cases z;exact h
  exact ziH this (by simpa using e)
theorem SR.side {U O:AS}{H:Hp}{σ:St}{ρ:PEnv}{b:Addr}{o:HO}(s:SR U O H σ ρ) (n:nb ρ=true) (nu:¬U b) (no:¬O b) (hb:Mutb H b) (ho:∀xs,o≠.tup xs):SR U O (upd H b o) σ ρ/\Keeps U H U (upd H b o):=by
 have ne:∀c,U c->c≠b:=fun c hc z=>nu (z ▸ hc);have nO:∀c,O c->c≠b:=fun c hc z=>no (z ▸ hc);obtain ⟨u,hu,hut⟩:=hb;have k:Keeps U H U (upd H b o):=by
  refine ⟨fun _ h=>h,fun c ys u hc=>?_,fun c ys u hc=>?_,fun c ys u hc=>?_,fun c ys hc=>?_⟩
  ·rw [zac (ne c u)];exact hc
  ·rcases hc with hc|⟨oo,hc⟩
   ·exact .inl (by rw [zac (ne c u)];exact hc)
   ·exact .inr ⟨oo,by rw [zac (ne c u)];exact hc⟩
  ·rcases hc with hc|⟨oo,hc⟩
   ·exact .inl (by rw [zac (ne c u)];exact hc)
   ·exact .inr ⟨oo,by rw [zac (ne c u)];exact hc⟩
  ·rw [zac (show c≠b from fun z=>by subst z;rw [hu] at hc;cases hc;exact hut _ rfl)];exact hc
 refine ⟨⟨s.len,fun c hc=>by rw [zac (ne c hc)];exact s.dU c hc,fun c hc=>?_,s.dis,fun j q fl e=>?_,s.inj⟩,k⟩
 ·obtain ⟨o',h1,h2⟩:=s.dO c hc
  exact ⟨o',by rw [zac (nO c hc)];exact h1,h2⟩
 ·obtain ⟨v,hv,ok⟩:=s.slot j q fl e
  refine ⟨v,hv,?_⟩;cases fl with
  | shr=>exact Rep.keeps k _ _ ok
  | own=>obtain ⟨a,e1,e2,e3⟩:=ok;exact ⟨a,e1,e2,e3.keeps k fun o' h'=>by rw [zac (nO a e2)];exact h'⟩
  | bor=>exact absurd e (ziH n)
theorem DRep.childO {U:AS}{H:Hp}{C:Addr}{nm:List Str}{h:Nat->Sh}{p c:PV}{a:Addr}{fs:List Addr}{n:Nat}{ps:List PV}(d:DRep U H (.o C nm h) p (.ref a) fs) (hp:p=.obj C nm ps) (hn:ps[n]?=some c) :
  ∃dx xs x f1 g f2,H a=some (.ins C dx (nm.zip xs))/\a∈f1/\nm.length=ps.length/\xs.length=ps.length/\xs[n]?=some x/\DRep U H (h n) c x g/\fs=f1++g++f2 /\
   ∀(U':AS) (H':Hp) c' g',Keeps U H U' H' -> (∀b,b∈f1\/b∈f2 -> ∀o,H b=some o->H' b=some o)->DRep U' H' (h n) c' x g' -> DRep U' H' (.o C nm h) (.obj C nm (ps.set n c')) (.ref a) (f1++g'++f2):=by
 obtain ⟨a',dx,xs,qs,g,ea,ep,e,hl,di,rfl⟩:=d;cases ea;rw [hp] at ep;cases ep;obtain ⟨x,f1,g1,f2,e1,e2,rfl,e4⟩:=di.at_ hn;rw [Nat.zero_add] at e2 e4;refine ⟨dx,xs,x,a::f1,g1,f2,e,Zf,hl,di.length,e1,e2,by simp,fun U' H' c' g' k ag d'=>?_⟩;refine ⟨a,dx,xs,_,f1++g'++f2,rfl,rfl,ag a (.inl Zf) _ e,by simpa using hl,e4 _ c' g' (fun m q y f r z=>DRep.keeps k r fun b hb=>ag b ((z b hb).elim (fun z=>.inl (Ze _ z)) .inr)) d',by simp⟩
theorem zlQ {f1 g f2:List Addr}{b:Addr}(nd:(f1++g++f2).Nodup) (hb:b∈g):∀c,c∈f1\/c∈f2->c≠b:=by
 intro c hc z;subst z;rw [List.nodup_append,List.nodup_append] at nd;obtain ⟨⟨_,_,h1⟩,_,h2⟩:=nd;rcases hc with hc|hc
 ·exact h1 c hc c hb rfl
 ·exact h2 c (List.mem_append_right _ hb) c hc rfl
def zrK (H:Hp) (U':AS) (H':Hp) (fs:List Addr):Prop:=∀b∈fs,H b=none /\ ¬U' b/\Mutb H' b
def VNE (h:Sh) (te:TE) (f:VX):Prop:=∀(U O:AS) (H:Hp) (σ:St) (ρ:PEnv) (Q:VK) (p:PV),SR U O H σ ρ->f ρ=some p->(∀a U' H' fs,Ext U H U' H' -> DRep U' H' h p (.ref a) fs->fs.Nodup->zrK H U' H' fs->Q (.ref a) H')->te σ H Q
def VN (i:Nat) (h:Sh) (t:TS) (f:VX):Prop:=∀(U O:AS) (H:Hp) (σ:St) (ρ:PEnv) (D:Ends) (p:PV),SR U O H σ ρ->f ρ=some p->(∀a U' H' fs,Ext U H U' H' -> DRep U' H' h p (.ref a) fs->fs.Nodup->zrK H U' H' fs->D.nx (σ.set i (some (.ref a))) H')->t D σ H
def dAll {α:Type}(g:Addr->Option α):Option α:=open Classical in if h:∃o,∀a,g a=some o then some (Classical.choose h) else none
theorem zmG {α:Type}{g:Addr->Option α}{o:α}(h:∀a,g a=some o):dAll g=some o:=by
 have hh:∃o,∀a,g a=some o:=⟨o,h⟩
 unfold dAll;rw [dif_pos hh];have:=Classical.choose_spec hh (0:Nat);rw [h (0:Nat)] at this;exact this.symm
theorem zh9 {α:Type}{g:Addr->Option α}{o:α}(h:dAll g=some o) (a:Addr):g a=some o:=by
 unfold dAll at h;split at h
 ·rename_i hh
  cases h;exact Classical.choose_spec hh a
 ·cases h
def zjZ (i:Nat) (f:VX) (G:DB):VF:=fun ρ=>if i < ρ.length then (f ρ).bind fun p=>dAll fun a=>G (ρ.set i (some (.adr a,.shr))) p else none
theorem zkw {U O U':AS}{H H':Hp}{σ:St}{ρ:PEnv}(s:SR U O H σ ρ) {fs:List Addr}(fr:zrK H U' H' fs):∀b∈fs,¬O b:=fun b hb=>s.noO (fr b hb).1
theorem zpz {i:Nat}{h:Sh}{tn t:TS}{f:VX}{G:DB}(hn:VN i h tn f) (hb:VDB i h t G):VS (tSeq tn t) (zjZ i f G):=by
 intro U O H σ ρ D o s e q;unfold zjZ at e;by_cases hl:i < ρ.length
 case neg=>rw [if_neg hl] at e;cases e
 rw [if_pos hl] at e;obtain ⟨p,hp,e⟩:=Za.mp e;refine hn U O H σ ρ _ p s hp fun a U' H' fs ex d nd fr=>?_;have s1:=(s.ext ex).setS (i:=i) (p:=.adr a) (v:=.ref a) (zgA.mpr rfl);refine hb U' (fun b=>O b\/b∈fs) H' _ _ p a D o ⟨O,fs,s1,set_same hl,d,nd,fun b z=>⟨(fr b z).2.1,zkw s fr b z,(fr b z).2.2⟩,fun _=>Iff.rfl⟩ (zh9 e a) (q.pre ?_);have tr:=ex.tr (O:=O);exact ⟨tr.fr,tr.mono,tr.new,fun b z=>z.elim .inl fun z=>.inr (fr b z).1,tr.dU,tr.dm⟩
theorem zsc {i:Nat}{h:Sh}{te:TE}{f:VX}(he:VNE h te f):VN i h (tAsg te (zh5 i)) f:=fun U O H σ ρ D p s e k=>he U O H σ ρ _ p s e fun a U' H' fs ex d nd fr=>k a U' H' fs ex d nd fr
theorem zfj {H:Hp}{b1:Addr}{u:HO}:∀c,H c≠none->upd H b1 u c≠none:=fun c hc=>by
 by_cases e:c=b1
 ·subst e;rw [zaf];intro z;cases z
 ·rw [zac e];exact hc
theorem Keeps.trans {U U1 U2:AS}{H H1 H2:Hp}(a:Keeps U H U1 H1) (b:Keeps U1 H1 U2 H2):Keeps U H U2 H2 :=
 ⟨fun c z=>b.mono c (a.mono c z),fun c xs u z=>b.lst c xs (a.mono c u) (a.lst c xs u z),fun c xs u z=>b.rd c xs (a.mono c u) (a.rd c xs u z),fun c xs u z=>b.dk c xs (a.mono c u) (a.dk c xs u z),fun c xs z=>b.tup c xs (a.tup c xs z)⟩
section
variable {X:Cx}{m ma mb mc:Md}{a b c e elt target iter:Expr}{es ifs:List Expr}{pos p p2 p3 ap:Pos}{f g:VX}{fa:VL}{k n i j:Nat}{x y:Str}{l:List Str}{h:Sh}{st:Stmt}{sts ss tt:List Stmt}{G G1 G2:DF}{B:DB}{F:VF}
structure QN (X:Cx) (st:Stmt) (i:Nat) (h:Sh) (f:VX):Prop where
 h:∃t,PS X st t/\VN i h t f
structure QD (X:Cx) (st:Stmt) (i:Nat) (h:Sh) (G:DF):Prop where
 h:∃t,PS X st t/\VD i h t G
structure QDs (X:Cx) (st:List Stmt) (i:Nat) (h:Sh) (G:DF):Prop where
 h:∃t,PSs X st t/\VD i h t G
structure QDL (X:Cx) (st:List Stmt) (i:Nat) (h:Sh) (G:DB):Prop where
 h:∃t,PSs X st t/\VDB i h t G
theorem qnew (hn:QN X st i h f) (hb:QDL X sts i h B):QB X (st::sts) (zjZ i f B):=by
 obtain ⟨_,n1,n2⟩:=hn.h;obtain ⟨_,b1,b2⟩:=hb.h;exact ⟨_,zcQ n1 b1,zpz n2 b2⟩
theorem qdlc (hn:QD X st i h G) (hb:QDL X sts i h B):QDL X (st::sts) i h (ziR G B):=by
 obtain ⟨_,n1,n2⟩:=hn.h;obtain ⟨_,b1,b2⟩:=hb.h;exact ⟨_,zcQ n1 b1,zry n2 b2⟩
theorem qdle (hb:QB X sts F):QDL X sts i h (dEnd i F):=by
 obtain ⟨_,b1,b2⟩:=hb.h;exact ⟨_,b1,zuS b2⟩
theorem ztv (hb:QS X st F):QD X st i h (zcL i F):=by
 obtain ⟨_,b1,b2⟩:=hb.h;exact ⟨_,b1,zpV b2⟩
theorem qds1 (hb:QD X st i h G):QDs X [st] i h G:=by
 obtain ⟨_,b1,b2⟩:=hb.h;exact ⟨_,zgB b1,b2⟩
theorem qdsc (hb:QD X st i h G) (hr:QDs X sts i h G2):QDs X (st::sts) i h (dSeq G G2):=by
 obtain ⟨_,b1,b2⟩:=hb.h;obtain ⟨_,r1,r2⟩:=hr.h;exact ⟨_,zcQ b1 r1,zsv b2 r2⟩
variable {P:Program}{w:World}{K:PySem.W.Frag}{mg:Str->Option Value}{base:Heap}
end
section
variable {X:Cx}{elt target iter:Expr}{ifs:List Expr}{pos p p2:Pos}{f:VX}{j:Nat}{y:Str}{scope:Scope}{N':List Str}{src:List (Option Nat)}
theorem zqu (hj:X.N[j]?=some y) (hy:X.env.scope.names.lookup y=some .local) (hN:X.N.Nodup) (q:QC X elt target iter ifs scope N' src f) (hc:X.calm=true) (hsw:swapsWith (.ListComp elt [⟨target,iter,ifs,0⟩] scope pos) (some (.Name y p)) p2.line X.env=pure true) (hs:∀x,foldedSetIterable iter X.env x=pure x):QS X (.Assign [.Name y p] (.ListComp elt [⟨target,iter,ifs,0⟩] scope pos) p2) (zai j f):=ztp hN q hj hy hc hsw hs
end
end L2
namespace HT
open PySem PyProof.Rows
end HT
namespace L2
open PySem PySem.Spec PyProof.Rows
theorem zv4 {X:Cx}{ma mb:Md}{a b:Expr}{p:Pos}{f g:VX}{k:Nat}(hr:Room k X.A) (ha:QE X ma a f) (hb:QE X mb b g) (hs:NoSl b):QE X .shr (.Subscript a b p) (zbQ f g):=by
 obtain ⟨_,a1,a2⟩:=ha.h;obtain ⟨_,b1,b2⟩:=hb.h;exact ⟨_,zqS (zd7 hr) a1 b1 hs,zpS a2 b2⟩
open PySem.SeqAt
end L2
namespace L2
open PySem PySem.Spec PyProof.Rows
end L2
namespace PySem
open PyProof.Rows PySem.W PySem.Spec
end PySem
namespace L2
open PySem PySem.Spec PyProof.Rows PySem.W
end L2
namespace HT
open PySem PySem.Spec PyProof.Rows
end HT
namespace L2
open PySem PySem.W PySem.Spec PyProof.Rows
def zfl (i:Nat) (tg:VTg) (body:DF):List PV->DF
 | [],ρ,p=>some (.nx ρ p)
 | x::xs,ρ,p=>match tg x ρ with
  | none=>none
  | some ρ1=>match ρ[i]?,ρ1[i]? with
   | some (some (.adr a,.shr)),some (some (.adr b,.shr))=>if a=b then (match body ρ1 p with
    | some (.nx ρ2 p2)=>zfl i tg body xs ρ2 p2
    | some (.rt q)=>some (.rt q)
    | none=>none) else none
   | _,_=>none
def dFor (i:Nat) (it:VL) (tg:VTg) (body:DF):DF:=fun ρ p=>(it ρ).bind fun xs=>zfl i tg body xs ρ p
section
variable {i:Nat}{h:Sh}
theorem zsw {wi:TI}{g:TG}{tb:TS}{it:VL}{tg:VTg}{body:DF}(hi:VI wi it) (hg:VG g tg) (hb:VD i h tb body):VD i h (tFor wi g tb) (dFor i it tg body):=by
 intro U P H σ ρ p a D o sd e q;obtain ⟨xs,hxs,e⟩:=Za.mp e;obtain ⟨O,fs,s,tok,d,nd,ds,hP⟩:=sd.h;refine hi U O H σ ρ _ xs s hxs fun J H1 U1 ex wk=>?_;have sd1:=sd.ext ex;have q1:zmY U1 P H1 i h a D o:=q.pre ex.tr;have dis1:∀b,U1 b -> ¬P b:=fun b hu hp=>by
  rcases (hP b).mp hp with z|z
  ·exact (s.ext ex).dis b hu z
  ·obtain ⟨O1,fs1,s1,_,_,_,ds1,hP1⟩:=sd1.h
   rcases (hP1 b).mp hp with z'|z'
   ·exact s1.dis b hu z'
   ·exact (ds1 b z').1 hu
 have dP1:∀b,P b->Mutb H1 b:=fun b hp=>by
  obtain ⟨O1,fs1,s1,_,_,_,ds1,hP1⟩:=sd1.h;rcases (hP1 b).mp hp with z|z
  ·exact s1.dO b z
  ·exact (ds1 b z).2.2
 refine ⟨fun k m σ' H'=>∃U' P' ρ' p',SD U' P' H' σ' ρ' i h p' a/\Tr U1 P H1 U' P' H' /\ k<=xs.length/\m=xs.length - k/\zfl i tg body (xs.drop k) ρ' p'=some o,⟨_,U1,P,ρ,p,sd1,.refl sd1.dU,Nat.zero_le _,rfl,by simpa using e⟩,?_⟩;rintro k m σ' H' ⟨U',P',ρ',p',s',tr,hi',rfl,e'⟩;have kp:Keeps U1 H1 U' H':=tr.keeps dis1 dP1;cases hx:xs[k]? with
 | none =>
  have hl:xs.length<=k:=List.getElem?_eq_none_iff.mp hx;have hii:k=xs.length:=by omega
  subst hii;rw [List.drop_length] at e';unfold zfl at e';cases e';exact .inl ⟨wk.stop U' H' kp,q1 U' P' H' σ' s' tr⟩
 | some x =>
  have hl:=(Zg.mp hx).1;obtain ⟨hgo,hy⟩:=wk.go k U' H' kp s'.dU x hx;rw [zcU hx] at e';refine .inr ⟨hgo,fun σ2 H2=>∃m',m' < xs.length - k /\ ∃U' P' ρ' p',SD U' P' H2 σ2 ρ' i h p' a/\Tr U1 P H1 U' P' H2/\k+1<=xs.length/\m'=xs.length - (k+1)/\zfl i tg body (xs.drop (k+1)) ρ' p'=some o,fun σ2 H2 h=>h,fun v H2 yl=>?_⟩;obtain ⟨U2,ex2,rp⟩:=hy v H2 yl;unfold zfl at e';cases z:tg x ρ' with
  | none=>rw [z] at e';cases e'
  | some ρ1 =>
   rw [z] at e';have sd2:=s'.ext ex2;obtain ⟨O2,fs2,s2,tok2,d2,nd2,ds2,hP2⟩:=sd2.h;refine hg U2 O2 H2 σ' ρ' ρ1 x v _ s2 rp z fun σ3 s3=>?_;have tr3:=tr.trans (ex2.tr (O:=P'));simp only [tok2] at e';split at e'
   case h_2=>cases e'
   rename_i a1 b1 ea eb;cases ea;by_cases hab:a=b1
   case neg=>rw [if_neg hab] at e';cases e'
   subst hab;rw [if_pos rfl] at e';have sd3:SD U2 P' H2 σ3 ρ1 i h p' a:=⟨O2,fs2,s3,eb,d2,nd2,ds2,hP2⟩
   cases zb:body ρ1 p' with
   | none=>simp only [zb] at e';cases e'
   | some ob =>
    simp only [zb] at e';refine hb U2 P' H2 σ3 ρ1 p' a _ ob sd3 zb ?_;cases ob with
    | nx ρ4 p4=>exact fun U4 O4 H4 σ4 s4 t4=>⟨_,by omega,U4,O4,ρ4,p4,s4,tr3.trans t4,hl,rfl,e'⟩
    | rt v=>cases e';exact q1.pre tr3
end
section
variable {X:Cx}{i j:Nat}{h:Sh}{m ma mb mc:Md}{a b e:Expr}{es:List Expr}{f f1 f2 g:VX}{p p2 p4 pa pb px ap pos:Pos}{x:Str}
theorem zv5 {s:List Stmt}{target iter:Expr}{G:DF}{it:VL}{tg:VTg}(hi:QI X target iter it) (hg:QG X target tg) (hb:QDs X s i h G) (hp:PassesOwn (model X.prog X.w) X.A X.env X.xe) (hc:X.calm=true) (hs:∀x,foldedSetIterable iter X.env x=pure x):QD X (.For target iter s [] pos) i h (dFor i it tg G):=by
 obtain ⟨_,c1,c2⟩:=hi.h;obtain ⟨_,a1,a2⟩:=hg.h;obtain ⟨_,b1,b2⟩:=hb.h;exact ⟨_,zlt hp hc c1 a1 b1 hs,zsw c2 a2 b2⟩
end
end L2
namespace L2
open PySem PySem.W PyProof.Rows
open PySem.Spec
section
variable {i j:Nat}{h:Sh}
def ziS (i j:Nat) (f:VX):DF:=fun ρ p=>if i=j then none else (f (vw i p ρ)).bind fun q=>if cf q then some (.nx (ρ.set j (some (q,.shr))) p) else none
theorem zpU {te:TE}{f:VX}(he:VE .shr te f):VD i h (tAsg te (zh5 j)) (ziS i j f):=by
 intro U P H σ ρ p a D o sd e q;unfold ziS at e;by_cases hij:i=j
 ·rw [if_pos hij] at e;cases e
 rw [if_neg hij] at e;obtain ⟨z,hz,e⟩:=Za.mp e;obtain ⟨hc,rfl⟩:=zaD e;refine he _ _ H σ _ _ z sd.view hz fun v H' U' ex r=>?_;obtain ⟨O,fs0,s,tok,d,nd0,ds,hP⟩:=sd.h;have ex0:Ext U H U H':=Ext.onlyU (U2:=U') s.dU ex.same;have s3:=(s.ext ex0).setS (i:=j) (p:=z) (v:=v) (Rep.cf (U:=U') z v hc r);refine q U P H' _ ⟨O,fs0,s3,?_,d.keeps ex0.keeps fun c _ o ho=>ex.same c o ho,nd0,fun c hc=>?_,hP⟩ (ex0.tr)
 ·rw [Zf1 (Ne.symm hij)];exact tok
 ·obtain ⟨d1,d2,u,d3,d4⟩:=ds c hc
  exact ⟨d1,d2,u,ex.same _ _ d3,d4⟩
end
section
variable {X:Cx}{m ma mb mc:Md}{a b c e:Expr}{es:List Expr}{pos p p2 p3 ap:Pos}{f g fk:VX}{fa:VL}{k n i j:Nat}{x y:Str}{h:Sh}
theorem zts (hN:X.N.Nodup) (ha:QE X .shr a f) (hj:X.N[j]?=some y) (hy:Loc X.env.scope y) (hs:swapsWith a (some (.Name y p)) pos.line X.env=pure false) (hf:X.fn y=true\/X.env.scope.names.lookup y=some .local):QD X (.Assign [.Name y p] a pos) i h (ziS i j f):=by
 obtain ⟨_,a1,a2⟩:=ha.h;exact ⟨_,zjm hN hj hy a1 hs hf,zpU a2⟩
end
end L2
namespace L2
open PySem PySem.Spec PyProof.Rows
section
variable {X:Cx}{pins:List (Addr×Obj)}{σ:St}{H:Hp}{s:Shared}{d:Addr}{kvs:List (Key×V)}{o:Obj}
theorem Inv.swap {u u':HO}(I:Inv X pins σ H s) (hd:H d=some u) (h0:∀xs,u≠.tup xs) (h1:∀x,u≠.own x) (h2:∀o v,X.H₀ d≠some (.frz o v)) (h3:∀ps,u≠.tbl ps) (h4:za4 X.prog X.w H s.heap d u'):Inv X pins σ (upd H d u') s:=by
 have ne:∀b,H b=none->b≠d:=fun b n z=>by subst z;rw [hd] at n;cases n
 have nt:∀b xs,H b=some (.tup xs)->b≠d:=fun b xs n z=>by subst z;rw [hd] at n;cases n;exact h0 _ rfl
 have no:∀b x,H b=some (.own x)->b≠d:=fun b x n z=>by subst z;rw [hd] at n;cases n;exact h1 _ rfl
 refine ⟨I.ok,I.os,I.bare,⟨I.base.keep,I.base.slot,fun b ob q n hx=>?_,I.base.there,fun b xs q=>?_,fun b ob v q=>?_,fun b ps q=>?_⟩,I.loc,I.cell,?_,fun x c e=>?_,fun p hp=>?_,fun b v q=>?_,I.len⟩
 ·rw [zac (ne b (I.base.free b ob q n hx))];exact I.base.free b ob q n hx
 ·have:=I.base.tups b xs q
  rw [zac (nt b xs this)];exact this
 ·have:=I.base.frzs b ob v q
  have hb:b≠d:=fun z=>by subst z;exact h2 _ _ q
  rw [zac hb];exact this
 ·obtain ⟨more,e⟩:=I.base.tbls b ps q
  have hb:b≠d:=fun z=>by subst z;rw [hd] at e;cases e;exact h3 _ rfl
  exact ⟨more,by rw [zac hb];exact e⟩
 ·rw [zac (ne _ I.free)];exact I.free
 ·rw [zac (ne _ (I.freeC x c e))];exact I.freeC x c e
 ·obtain ⟨p1,p2,p3⟩:=I.pin p hp
  exact ⟨p1,by rw [zac (ne _ p2)];exact p2,p3⟩
 ·by_cases hb:b=d
  ·subst hb
   rw [zaf] at q;cases q;exact h4.stay (fun _ _ _ e=>e) (fun c r=>by rw [zac (no c _ r)];exact r) fun c xs r=>by rw [zac (nt c xs r)];exact r
  ·rw [zac hb] at q
   exact (I.hok b v q).stay (fun _ _ _ e=>e) (fun c r=>by rw [zac (no c _ r)];exact r) fun c xs r=>by rw [zac (nt c xs r)];exact r
theorem Inv.notFrz (I:Inv X pins σ H s) (hd:H d=some (.dK kvs)):∀o v,X.H₀ d≠some (.frz o v):=fun o v z=>by
 have:=I.base.frzs d o v z;rw [hd] at this;cases this
theorem Inv.freezeU (I:Inv X pins σ H s) (hd:H d=some (.dK kvs)):∃o,Inv X pins σ (upd H d (.frz o (.dK kvs))) s:=by
 have h:=I.hok d _ hd;obtain ⟨_,_,vs,_,o,es,ep,ho,_⟩:=id h;exact ⟨o,I.swap hd (fun _ z=>nomatch z) (fun _ z=>nomatch z) (I.notFrz hd) (fun _ z=>nomatch z) ⟨ho,h⟩⟩
theorem Inv.melt (I:Inv X pins σ H s) (hd:H d=some (.frz o (.dK kvs))) (h2:∀o v,X.H₀ d≠some (.frz o v)):Inv X pins σ (upd H d (.dK kvs)) s:=by
 have h:=I.hok d _ hd;exact I.swap hd (fun _ z=>nomatch z) (fun _ z=>nomatch z) h2 (fun _ z=>nomatch z) h.2
end
section
variable {X:Cx}
def teU (i:Nat) (te:TE):TE:=fun σ H Q=>∃d kvs,σ[i]?=some (some (.ref d))/\((H d=some (.dK kvs) /\ ∀o,te σ (upd H d (.frz o (.dK kvs))) fun v H'=>H' d=some (.frz o (.dK kvs))/\Q v (upd H' d (.dK kvs)))\/((∃o,H d=some (.frz o (.dK kvs)))/\te σ H Q))
theorem zqQ {e:Expr}{te:TE}{i:Nat}(he:PE X e te):PE X e (teU i te):=by
 intro pins s σ H Q I h;obtain ⟨d,kvs,_,h|h⟩:=h
 ·obtain ⟨hd,h⟩:=h
  obtain ⟨o,I1⟩:=I.freezeU hd;refine thn (he pins s σ _ _ I1 (h o)) fun v s1 ⟨x,H1,I2,r1,q1,q2⟩=>?_;exact ⟨x,_,I2.melt q1 (I.notFrz hd),r1,q2⟩
 ·exact he pins s σ H Q I h.2
def tsU (i:Nat) (t:TS):TS:=fun D σ H=>∃d kvs,σ[i]?=some (some (.ref d))/\((H d=some (.dK kvs) /\ ∀o,t { nx:=fun σ' H'=>H' d=some (.frz o (.dK kvs))/\D.nx σ' (upd H' d (.dK kvs)),rt:=fun v H'=>H' d=some (.frz o (.dK kvs))/\D.rt v (upd H' d (.dK kvs)),bk:=fun σ' H'=>H' d=some (.frz o (.dK kvs))/\D.bk σ' (upd H' d (.dK kvs)),ct:=fun σ' H'=>H' d=some (.frz o (.dK kvs))/\D.ct σ' (upd H' d (.dK kvs)) } σ (upd H d (.frz o (.dK kvs))))\/((∃o,H d=some (.frz o (.dK kvs)))/\t D σ H))
theorem zqE {st:Stmt}{t:TS}{i:Nat}(hs:PS X st t):PS X st (tsU i t):=by
 intro pins s σ H D I h;obtain ⟨d,kvs,_,h|h⟩:=h
 ·obtain ⟨hd,h⟩:=h
  obtain ⟨o,I1⟩:=I.freezeU hd;refine thn (hs pins s σ _ _ I1 (h o)) fun f s1 q=>?_;cases f with
  | next=>obtain ⟨σ',H',I2,q1,q2⟩:=q;exact ⟨σ',_,I2.melt q1 (I.notFrz hd),q2⟩
  | brk=>obtain ⟨σ',H',I2,q1,q2⟩:=q;exact ⟨σ',_,I2.melt q1 (I.notFrz hd),q2⟩
  | cont=>obtain ⟨σ',H',I2,q1,q2⟩:=q;exact ⟨σ',_,I2.melt q1 (I.notFrz hd),q2⟩
  | ret u=>obtain ⟨v,σ',H',I2,r,q1,q2⟩:=q;exact ⟨v,σ',_,I2.melt q1 (I.notFrz hd),r,q2⟩
 ·exact hs pins s σ H D I h.2
end
open PySem.W
def kP:Key->PV
 | .inl i=>.int i
 | .inr x=>.str x
theorem zo7 {U:AS}{H:Hp}(k:Key):Rep U H (kP k) (kV k):=by
 cases k with
 | inl i=>exact zaT.mpr rfl
 | inr x=>exact za5.mpr rfl
structure WalkD (U0:AS) (H0:Hp) (d:Addr) (fz:HO) (J:It) (xs:List PV):Prop where
 go:∀(i:Nat) (U:AS) (H:Hp),Keeps U0 H0 U H->H d=some fz->(∀a,U a->H a≠none) -> ∀x,xs[i]?=some x->J.go i H /\ ∀v H',J.yld i H v H' -> ∃U',Ext U H U' H' /\ Rep U' H' x v
 stop:∀(U:AS) (H:Hp),Keeps U0 H0 U H->H d=some fz->J.stop xs.length H
def forJ (J:It) (g:TG) (tb:TS) (D:Ends) (σ:St) (H1:Hp):Prop:=∃W:Nat->Nat->St->Hp->Prop,(∃m,W 0 m σ H1) /\ ∀i m σ H,W i m σ H ->
 (J.stop i H/\D.nx σ H)\/(J.go i H /\ ∃N:St->Hp->Prop,(∀σ' H',N σ' H' -> ∃m',m' < m/\W (i+1) m' σ' H') /\ ∀x H',J.yld i H x H' -> g x σ H' fun σ2 H2=>tb { D with nx:=N,ct:=N,bk:=D.nx } σ2 H2)
theorem zjD {g:TG}{tb:TS}{tg:VTg}{body:VF}{J:It}{xs:List PV}{U O:AS}{H:Hp}{σ:St}{ρ:PEnv}{D:Ends}{o:Out}{d:Addr}{fz:HO}(hg:VG g tg) (hb:VS tb body) (s:SR U O H σ ρ) (ud:U d) (hd:H d=some fz) (wk:WalkD U H d fz J xs) (e:za2 tg body xs ρ=some o) (q:Post U O H D o):forJ J g tb D σ H:=by
 refine ⟨fun i m σ' H'=>∃U' O' ρ',SR U' O' H' σ' ρ' /\ Tr U O H U' O' H' /\ i<=xs.length/\m=xs.length - i/\za2 tg body (xs.drop i) ρ'=some o,⟨_,U,O,ρ,s,.refl s.dU,Nat.zero_le _,rfl,by simpa using e⟩,?_⟩;rintro i m σ' H' ⟨U',O',ρ',s',tr,hi',rfl,e'⟩;have kp:Keeps U H U' H':=tr.keeps s.dis s.dO;have hd':H' d=some fz:=tr.fr d _ hd (s.dis d ud);cases hx:xs[i]? with
 | none =>
  have hl:xs.length<=i:=List.getElem?_eq_none_iff.mp hx;have hii:i=xs.length:=by omega
  subst hii;rw [List.drop_length] at e';unfold za2 at e';cases e';exact .inl ⟨wk.stop U' H' kp hd',q U' O' H' σ' s' tr⟩
 | some x =>
  have hl:=(Zg.mp hx).1;obtain ⟨hgo,hy⟩:=wk.go i U' H' kp hd' s'.dU x hx;rw [zcU hx] at e';refine .inr ⟨hgo,fun σ2 H2=>∃m',m' < xs.length - i /\ ∃U' O' ρ',SR U' O' H2 σ2 ρ' /\ Tr U O H U' O' H2/\i+1<=xs.length/\m'=xs.length - (i+1)/\za2 tg body (xs.drop (i+1)) ρ'=some o,fun σ2 H2 h=>h,fun v H2 yl=>?_⟩;obtain ⟨U2,ex2,rp⟩:=hy v H2 yl;unfold za2 at e';cases z:tg x ρ' with
  | none=>rw [z] at e';cases e'
  | some ρ1 =>
   rw [z] at e';refine hg U2 O' H2 σ' ρ' ρ1 x v _ (s'.ext ex2) rp z fun σ3 s3=>?_;have tr3:=tr.trans (ex2.tr (O:=O'));cases zb:body ρ1 with
   | none=>simp only [zb] at e';cases e'
   | some ob =>
    simp only [zb] at e';refine hb U2 O' H2 σ3 ρ1 _ ob s3 zb ?_;cases ob with
    | nx ρ4=>exact fun U4 O4 H4 σ4 s4 t4=>⟨_,by omega,U4,O4,ρ4,s4,tr3.trans t4,hl,rfl,e'⟩
    | ct ρ4=>exact fun U4 O4 H4 σ4 s4 t4=>⟨_,by omega,U4,O4,ρ4,s4,tr3.trans t4,hl,rfl,e'⟩
    | bk ρ4=>cases e';exact q.pre tr3
    | rt p b=>cases e';exact q.pre tr3
def zxg (J:It) (src:List (Option Nat)) (g:TG) (tif:TT) (te:TE) (σ:St) (H1:Hp) (Q:VK):Prop:=∃W:Nat->Nat->List V->St->Hp->Prop,(∃m,W 0 m [] (zdW src σ) H1) /\
 zr1 J g tif te (fun ys H'=>∀D,H' D=none->Q (.ref D) (upd H' D (.lst ys))) W
theorem zib {src:List (Option Nat)}{g:TG}{tif:TT}{te:TE}{tg:VTg}{cond:VB}{elt:VX}{J:It}{xs zs:List PV}{U O:AS}{H:Hp}{σ:St}{ρ:PEnv}{Q:VK}{d:Addr}{fz:HO}(hg:VG g tg) (hc:VT tif cond) (he:VE .shr te elt) (s:SR U O H σ ρ) (hd:H d=some fz) (wk:WalkD U H d fz J xs) (hs:zaL xs.length=true) (e:za1 tg cond elt xs (zbV src ρ)=some zs)
  (k:∀v H' U',Ext U H U' H' -> Res .fr H U' H' (.lst zs) v->Q v H'):zxg J src g tif te σ H Q:=by
 have sz:∀n,n<=xs.length->n<=sizeLine:=fun n h=>Nat.le_trans h (zbg hs);refine ⟨fun i m ys τ H'=>∃U' ρ' ps,SR U' (fun _=>False) H' τ ρ' /\ Ext U H U' H' /\ i<=xs.length/\m=xs.length - i/\ys.length<=i/\Reps U' H' ps ys/\(za1 tg cond elt (xs.drop i) ρ').map (ps++·)=some zs,
  ⟨_,U,zbV src ρ,[],s.comp src,.refl s.dU,Nat.zero_le _,rfl,Nat.le_refl _,zam.mpr rfl,by simpa using e⟩,?_⟩
 rintro i m ys τ H' ⟨U',ρ',ps,s',ex',hi',rfl,hy,rp,e'⟩;have kp:=ex'.keeps;have hd':H' d=some fz:=ex'.same _ _ hd;cases hx:xs[i]? with
 | none =>
  have hl:xs.length<=i:=List.getElem?_eq_none_iff.mp hx;have hii:i=xs.length:=by omega
  subst hii;rw [List.drop_length] at e';unfold za1 at e';simp at e';subst e';refine .inl ⟨wk.stop U' H' kp hd',sz _ hy,fun D hD=>?_⟩;obtain ⟨e2,r2⟩:=zbr ex'.dU hD rp;exact k _ _ U' (ex'.trans e2) (Res.pre (U1:=U) ex'.same r2)
 | some x =>
  have hl:=(Zg.mp hx).1;obtain ⟨hgo,hyl⟩:=wk.go i U' H' kp hd' s'.dU x hx;rw [zcU hx] at e';refine .inr ⟨hgo,Nat.lt_of_le_of_lt hy (Nat.lt_of_lt_of_le hl (zbg hs)),fun v H2 yl=>?_⟩;obtain ⟨U2,ex2,rv⟩:=hyl v H2 yl;unfold za1 at e';cases z1:tg x ρ' with
  | none=>rw [z1] at e';cases e'
  | some ρ1 =>
   rw [z1] at e';refine hg U2 _ H2 τ ρ' ρ1 x v _ (s'.ext ex2) rv z1 fun τ3 s3=>?_;cases z2:cond ρ1 with
   | none=>simp only [z2] at e';cases e'
   | some b =>
    simp only [z2] at e';refine hc U2 _ H2 τ3 ρ1 _ b s3 z2 fun H4 U4 ex4=>?_;have ex24:=ex2.trans ex4;cases b with
    | false=>exact ⟨_,by omega,U4,ρ1,ps,s3.ext ex4,ex'.trans ex24,hl,rfl,by omega,Reps.keeps ex24.keeps _ _ rp,e'⟩
    | true =>
     cases z3:elt ρ1 with
     | none=>simp only [z3] at e';cases e'
     | some y =>
      simp only [z3] at e';refine he U4 _ H4 τ3 ρ1 _ y (s3.ext ex4) z3 fun w H5 U5 ex5 r5=>?_;refine ⟨_,by omega,U5,ρ1,ps++[y],(s3.ext ex4).ext ex5,(ex'.trans ex24).trans ex5,hl,rfl,by simp;omega,Reps.append (Reps.keeps (ex24.trans ex5).keeps _ _ rp) (Reps.one r5),?_⟩;rw [Option.map_map] at e';rw [<- e'];congr 1;funext l;simp
theorem ziy {U:AS}{H:Hp}:∀{ks:List (Key×PV)}{kvs:List (Key×V)}{i:Nat}{k:Key}{p:PV},RepK U H ks kvs->ks[i]?=some (k,p) -> ∃v,kvs[i]?=some (k,v)/\Rep U H p v
 | [],kvs,i,k,p,h,e=>by simp at e
 | (k0,p0)::ks,kvs,0,k,p,h,e=>by
  obtain ⟨v,r,rfl,h1,h2⟩:=zaM.mp h;simp at e;obtain ⟨rfl,rfl⟩:=e;exact ⟨v,rfl,h1⟩
 | (k0,p0)::ks,kvs,i+1,k,p,h,e=>by
  obtain ⟨v,r,rfl,h1,h2⟩:=zaM.mp h;obtain ⟨w,e1,e2⟩:=ziy (i:=i) h2 (by simpa using e);exact ⟨w,by simpa using e1,e2⟩
theorem zkF {U:AS}{H:Hp}{ks:List (Key×PV)}{kvs:List (Key×V)}{d:Addr}{o:Obj}(r:RepK U H ks kvs):WalkD U H d (.frz o (.dK kvs)) (Itk d o kvs) (ks.map fun k=>kP k.1):=by
 have hl:=r.length;refine ⟨fun i U' H' kp hd dU x hx=>?_,fun U' H' kp hd=>⟨by rw [Zd,hl],hd⟩⟩;rw [Zj] at hx;obtain ⟨⟨k,p⟩,hk,rfl⟩:=Zb.mp hx;have hi:=(Zg.mp hk).1;obtain ⟨v,e1,_⟩:=ziy r hk;refine ⟨⟨by omega,hd⟩,fun w H2 ⟨e2,k',v',e3,e4⟩=>?_⟩;subst e2 e4;rw [e1] at e3;cases e3;exact ⟨U',.refl dU,zo7 k⟩
theorem zjX {U:AS}{H:Hp}{ks:List (Key×PV)}{kvs:List (Key×V)}{d:Addr}{o:Obj}(r:RepK U H ks kvs):WalkD U H d (.frz o (.dK kvs)) (Iti d o kvs) (ks.map fun k=>PV.tup [kP k.1,k.2]):=by
 have hl:=r.length;refine ⟨fun i U' H' kp hd dU x hx=>?_,fun U' H' kp hd=>⟨by rw [Zd,hl],hd⟩⟩;rw [Zj] at hx;obtain ⟨⟨k,p⟩,hk,rfl⟩:=Zb.mp hx;have hi:=(Zg.mp hk).1;obtain ⟨v,e1,e2⟩:=ziy (RepK.keeps kp _ _ r) hk;refine ⟨⟨by omega,hd⟩,fun w H2 ⟨k',v',t,e3,e4,ht,e5⟩=>?_⟩;subst e4 e5;rw [e1] at e3;cases e3;have ex:Ext U' H' U' (upd H' t (.tup [kV k,v])):=.laid dU ht;exact ⟨U',ex,zaS.mpr ⟨t,[kV k,v],rfl,zaf,zah.mpr ⟨_,_,rfl,zo7 k,zah.mpr ⟨_,_,rfl,Rep.keeps ex.keeps _ _ e2,zam.mpr rfl⟩⟩⟩⟩
section
variable {U O U' O':AS}{H H':Hp}{σ:St}{ρ:PEnv}{d:Addr}{kvs:List (Key×V)}{o:Obj}
theorem zfa (hd:H d=some (.dK kvs)):Keeps U H U (upd H d (.frz o (.dK kvs))):=by
 refine ⟨fun _ h=>h,fun c xs u hc=>?_,fun c xs u hc=>?_,fun c xs u hc=>?_,fun c xs hc=>?_⟩
 ·rw [zac (show c≠d from fun z=>by subst z;rw [hd] at hc;cases xs<;>cases hc)];exact hc
 ·have hne:c≠d:=fun z=>by
   subst z;rcases hc with hc|⟨o',hc⟩<;>(rw [hd] at hc;cases hc)
  rcases hc with hc|⟨o',hc⟩
  ·exact .inl (by rw [zac hne];exact hc)
  ·exact .inr ⟨o',by rw [zac hne];exact hc⟩
 ·by_cases hne:c=d
  ·subst hne
   rcases hc with hc|⟨o',hc⟩
   ·rw [hd] at hc;cases hc
    exact .inr ⟨o,zaf⟩
   ·rw [hd] at hc;cases hc
  ·rcases hc with hc|⟨o',hc⟩
   ·exact .inl (by rw [zac hne];exact hc)
   ·exact .inr ⟨o',by rw [zac hne];exact hc⟩
 ·rw [zac (show c≠d from fun z=>by subst z;rw [hd] at hc;cases hc)];exact hc
theorem zcT (hd:H d=some (.frz o (.dK kvs))):Keeps U H U (upd H d (.dK kvs)):=by
 refine ⟨fun _ h=>h,fun c xs u hc=>?_,fun c xs u hc=>?_,fun c xs u hc=>?_,fun c xs hc=>?_⟩
 ·rw [zac (show c≠d from fun z=>by subst z;rw [hd] at hc;cases xs<;>cases hc)];exact hc
 ·have hne:c≠d:=fun z=>by
   subst z;rcases hc with hc|⟨o',hc⟩<;>(rw [hd] at hc;cases hc)
  rcases hc with hc|⟨o',hc⟩
  ·exact .inl (by rw [zac hne];exact hc)
  ·exact .inr ⟨o',by rw [zac hne];exact hc⟩
 ·by_cases hne:c=d
  ·subst hne
   rcases hc with hc|⟨o',hc⟩
   ·rw [hd] at hc;cases hc
   ·rw [hd] at hc;cases hc
    exact .inl zaf
  ·rcases hc with hc|⟨o',hc⟩
   ·exact .inl (by rw [zac hne];exact hc)
   ·exact .inr ⟨o',by rw [zac hne];exact hc⟩
 ·rw [zac (show c≠d from fun z=>by subst z;rw [hd] at hc;cases hc)];exact hc
theorem Bor.re {u:HO}{p:PV}{v:V}(k:Keeps U H U (upd H d u)) (hl:∀c:Cell,H d≠some c.ho) (hr:∀kvs,Rd H d (.dK kvs)->Rd (upd H d u) d (.dK kvs)) (hq:∀xs,¬Rd H d (.lst xs)) (h:Bor U H p v):Bor U (upd H d u) p v:=by
 have rk:∀{a:Addr}{w:List (Key×V)},Rd H a (.dK w)->Rd (upd H d u) a (.dK w):=fun {a w} r=>by
  by_cases e:a=d
  ·subst e;exact hr w r
  ·rcases r with r|⟨o',r⟩
   ·exact .inl (by rw [zac e];exact r)
   ·exact .inr ⟨o',by rw [zac e];exact r⟩
 have rl:∀{a:Addr}{w:List V},Rd H a (.lst w)->Rd (upd H d u) a (.lst w):=fun {a w} r=>by
  have e:a≠d:=fun z=>hq w (z ▸ r);rcases r with r|⟨o',r⟩
  ·exact .inl (by rw [zac e];exact r)
  ·exact .inr ⟨o',by rw [zac e];exact r⟩
 cases p with
 | lst ps=>obtain ⟨a,xs,e,r,q⟩:=h;exact ⟨a,xs,e,by rw [zac (show a≠d from fun z=>hl (.l xs) (z ▸ r))];exact r,Reps.keeps k _ _ q⟩
 | dtt ks=>obtain ⟨a,xs,e,r,q⟩:=h;exact ⟨a,xs,e,by rw [zac (show a≠d from fun z=>hl (.t xs) (z ▸ r))];exact r,RepT.keeps k _ _ q⟩
 | dct ks=>obtain ⟨a,xs,e,r,q⟩:=h;exact ⟨a,xs,e,rk r,RepK.keeps k _ _ q⟩
 | scr ns=>obtain ⟨a,e,r⟩:=h;exact ⟨a,e,rl r⟩
 | _=>exact Rep.keeps k _ _ h
theorem SR.recell {u:HO}(s:SR U O H σ ρ) (ud:U d) (hl:∀c:Cell,H d≠some c.ho) (k:Keeps U H U (upd H d u)) (hr:∀kvs,Rd H d (.dK kvs)->Rd (upd H d u) d (.dK kvs)) (hq:∀xs,¬Rd H d (.lst xs)):SR U O (upd H d u) σ ρ:=by
 have nod:∀a,O a->a≠d:=fun a oa z=>s.dis d ud (z ▸ oa);refine ⟨s.len,fun a h=>zfj a (s.dU a h),fun a h=>?_,s.dis,fun i p fl e=>?_,s.inj⟩
 ·obtain ⟨o,h1,h2⟩:=s.dO a h
  exact ⟨o,by rw [zac (nod a h)];exact h1,h2⟩
 ·obtain ⟨v,hv,ok⟩:=s.slot i p fl e
  refine ⟨v,hv,?_⟩;cases fl with
  | shr=>exact Rep.keeps k _ _ ok
  | own =>
   obtain ⟨a,e1,e2,e3⟩:=ok;exact ⟨a,e1,e2,e3.keeps k fun o' h'=>by rw [zac (nod a e2)];exact h'⟩
  | bor=>exact ⟨Bor.re k hl hr hq ok.1,ok.2⟩
theorem SR.frz (s:SR U O H σ ρ) (ud:U d) (hd:H d=some (.dK kvs)):SR U O (upd H d (.frz o (.dK kvs))) σ ρ:=by
 refine s.recell ud (fun xs z=>by rw [hd] at z;cases xs<;>cases z) (zfa hd) (fun v r=>?_) fun xs r=>?_
 ·rcases r with r|⟨o',r⟩
  ·rw [hd] at r;cases r;exact .inr ⟨o,zaf⟩
  ·rw [hd] at r;cases r
 ·rcases r with r|⟨o',r⟩<;>(rw [hd] at r;cases r)
theorem SR.melt (s:SR U O H σ ρ) (ud:U d) (hd:H d=some (.frz o (.dK kvs))):SR U O (upd H d (.dK kvs)) σ ρ:=by
 refine s.recell ud (fun xs z=>by rw [hd] at z;cases xs<;>cases z) (zcT hd) (fun v r=>?_) fun xs r=>?_
 ·rcases r with r|⟨o',r⟩
  ·rw [hd] at r;cases r
  ·rw [hd] at r;cases r;exact .inl zaf
 ·rcases r with r|⟨o',r⟩<;>(rw [hd] at r;cases r)
end
structure WkR (i:Nat) (wi:TI) (Jt:Addr->Obj->List (Key×V)->It) (xf:List (Key×PV)->List PV):Prop where
 wi:∀(σ:St) (H:Hp) (d:Addr) (o:Obj) (kvs:List (Key×V)) (R:It->Hp->Prop),σ[i]?=some (some (.ref d))->H d=some (.frz o (.dK kvs))->R (Jt d o kvs) H->wi σ H R
 wk:∀(U:AS) (H:Hp) (ks:List (Key×PV)) (kvs:List (Key×V)) (d:Addr) (o:Obj),RepK U H ks kvs->WalkD U H d (.frz o (.dK kvs)) (Jt d o kvs) (xf ks)
theorem zpo {i:Nat}:WkR i (zum (tVar i)) Itk (fun ks=>ks.map fun k=>kP k.1):=⟨fun σ H d o kvs R h1 h2 q=>⟨.ref d,h1,d,o,kvs,rfl,h2,q⟩,fun U H ks kvs d o r=>zkF r⟩
theorem zm0 {i:Nat}:WkR i (zpa (tVar i)) Iti (fun ks=>ks.map fun k=>PV.tup [kP k.1,k.2]):=⟨fun σ H d o kvs R h1 h2 q=>⟨.ref d,h1,d,o,kvs,rfl,h2,q⟩,fun U H ks kvs d o r=>zjX r⟩
def itD (xf:List (Key×PV)->List PV) (i:Nat):VL:=fun ρ=>match ρ[i]? with
 | some (some (.dct ks,.shr))=>some (xf ks)
 | _=>none
theorem zo9 {xf:List (Key×PV)->List PV}{i:Nat}{ρ:PEnv}{xs:List PV}(h:itD xf i ρ=some xs):∃ks,ρ[i]?=some (some (.dct ks,.shr))/\xs=xf ks:=by
 unfold itD at h;split at h
 ·rename_i ks e;cases h;exact ⟨ks,e,rfl⟩
 ·cases h
section
variable {i:Nat}{wi:TI}{Jt:Addr->Obj->List (Key×V)->It}{xf:List (Key×PV)->List PV}{g:TG}{tg:VTg}
theorem zm9 {src:List (Option Nat)}{tif:TT}{te:TE}{cond:VB}{elt:VX}(w:WkR i wi Jt xf) (hg:VG g tg) (hc:VT tif cond) (he:VE .shr te elt):VE .fr (teU i (zhf src wi g tif te)) (zap src (itD xf i) tg cond elt):=by
 intro U O H σ ρ Q z s e k;obtain ⟨xs,hxs,e⟩:=Za.mp e;by_cases hs:zaL xs.length=true
 case neg=>rw [if_neg hs] at e;cases e
 rw [if_pos hs] at e;obtain ⟨zs,ez,rfl⟩:=Zb.mp e;obtain ⟨ks,hks,rfl⟩:=zo9 hxs;obtain ⟨v,hv,ok⟩:=s.slot i _ _ hks;have ok':Rep U H (.dct ks) v:=ok;simp only [Rep] at ok';obtain ⟨d,kvs,rfl,ud,hd,rk⟩:=ok';refine ⟨d,kvs,hv,?_⟩;rcases hd with hd|⟨o,hd⟩
 ·refine .inl ⟨hd,fun o=>?_⟩
  have sf:=s.frz (o:=o) ud hd;refine w.wi σ _ d o kvs _ hv zaf (zib (d:=d) (Q:=fun v H'=>H' d=some (.frz o (.dK kvs))/\Q v (upd H' d (.dK kvs))) hg hc he sf zaf (w.wk U _ ks kvs d o (RepK.keeps (zfa hd) _ _ rk)) hs ez fun v H' U' ex r=>?_);have hd':H' d=some (.frz o (.dK kvs)):=ex.same _ _ zaf;refine ⟨hd',k v _ U' ⟨fun a ob ha=>?_,ex.mono,fun a ua=>?_,fun a ua=>zfj a (ex.dU a ua)⟩ ?_⟩
  ·by_cases hne:a=d
   ·subst hne;rw [hd] at ha;cases ha;exact zaf
   ·rw [zac hne];exact ex.same _ _ (by rw [zac hne];exact ha)
  ·rcases ex.new a ua with z|z
   ·exact .inl z
   ·by_cases hne:a=d
    ·subst hne;rw [zaf] at z;cases z
    ·rw [zac hne] at z;exact .inr z
  ·obtain ⟨b,eb,hb,nu,tp⟩:=r
   have hne:b≠d:=fun z=>by subst z;rw [zaf] at hb;cases hb
   refine ⟨b,eb,by rw [zac hne] at hb;exact hb,nu,tp.keeps (zcT hd') fun o' h'=>by rw [zac hne];exact h'⟩
 ·exact .inr ⟨⟨o,hd⟩,w.wi σ _ d o kvs _ hv hd (zib (d:=d) hg hc he s hd (w.wk U _ ks kvs d o rk) hs ez k)⟩
theorem zpB {tb:TS}{body:VF}(w:WkR i wi Jt xf) (hg:VG g tg) (hb:VS tb body):VS (tsU i (tFor wi g tb)) (vFor (itD xf i) tg body):=by
 intro U O H σ ρ D o s e q;obtain ⟨xs,hxs,e⟩:=Za.mp e;obtain ⟨ks,hks,rfl⟩:=zo9 hxs;obtain ⟨v,hv,ok⟩:=s.slot i _ _ hks;have ok':Rep U H (.dct ks) v:=ok;simp only [Rep] at ok';obtain ⟨d,kvs,rfl,ud,hd,rk⟩:=ok';refine ⟨d,kvs,hv,?_⟩;rcases hd with hd|⟨ob,hd⟩
 ·refine .inl ⟨hd,fun ob=>?_⟩
  have sf:=s.frz (o:=ob) ud hd;have tm:∀{U' O':AS}{H':Hp},Tr U O (upd H d (.frz ob (.dK kvs))) U' O' H' -> H' d=some (.frz ob (.dK kvs))/\Tr U O H U' O' (upd H' d (.dK kvs)):=fun {U' O' H'} t=>by
   have hd':=t.fr d _ zaf (s.dis d ud);refine ⟨hd',fun a w ha na=>?_,t.mono,fun a ua=>?_,fun a oa=>?_,fun a ua=>zfj a (t.dU a ua),fun a ha=>zfj a (t.dm a ?_)⟩
   ·by_cases hne:a=d
    ·subst hne;rw [hd] at ha;cases ha;exact zaf
    ·rw [zac hne];exact t.fr a w (by rw [zac hne];exact ha) na
   ·rcases t.new a ua with z|z|z
    ·exact .inl z
    ·exact .inr (.inl z)
    ·by_cases hne:a=d
     ·subst hne;rw [zaf] at z;cases z
     ·rw [zac hne] at z;exact .inr (.inr z)
   ·rcases t.own a oa with z|z
    ·exact .inl z
    ·by_cases hne:a=d
     ·subst hne;rw [zaf] at z;cases z
     ·rw [zac hne] at z;exact .inr z
   ·exact zfj a ha
  refine w.wi σ _ d ob kvs _ hv zaf (zjD (d:=d) (o:=o) hg hb sf ud zaf (w.wk U _ ks kvs d ob (RepK.keeps (zfa hd) _ _ rk)) e ?_);cases o with
  | nx ρ'=>exact fun U' O' H' σ' s' t=>⟨(tm t).1,q U' O' _ σ' (s'.melt (t.mono d ud) (tm t).1) (tm t).2⟩
  | bk ρ'=>exact fun U' O' H' σ' s' t=>⟨(tm t).1,q U' O' _ σ' (s'.melt (t.mono d ud) (tm t).1) (tm t).2⟩
  | ct ρ'=>exact fun U' O' H' σ' s' t=>⟨(tm t).1,q U' O' _ σ' (s'.melt (t.mono d ud) (tm t).1) (tm t).2⟩
  | rt p b =>
   intro U' O' H' v t ro;refine ⟨(tm t).1,q U' O' _ v (tm t).2 ?_⟩;have ud':=t.mono d ud;cases b with
   | false=>exact Rep.keeps (zcT (tm t).1) _ _ ro
   | true =>
    obtain ⟨a,ea,na,ha,tp⟩:=ro;have hne:a≠d:=fun z=>na (z ▸ ud');exact ⟨a,ea,na,ha.elim (fun z=>.inl (by rw [zac hne] at z;exact z)) .inr,tp.keeps (zcT (tm t).1) fun o' h'=>by rw [zac hne];exact h'⟩
 ·exact .inr ⟨⟨ob,hd⟩,w.wi σ _ d ob kvs _ hv hd (zjD (d:=d) (o:=o) hg hb s ud hd (w.wk U _ ks kvs d ob rk) e q)⟩
end
def zs4:List V->Hp->VK->Prop:=fun xs H Q=>∃a kvs,xs = [V.ref a]/\Rd H a (.dK kvs)/\Q (.int kvs.length) H
theorem zkC {X:Cx}:zbL X (.builtin "len") zs4:=by
 intro pins s σ H xs us Q I r h;obtain ⟨a,kvs,rfl,ha,q⟩:=h;obtain ⟨u,rfl,ru⟩:=vals1 r;cases ru;exact zxe I ha fun t s' I'=>⟨.int kvs.length,H,I',⟨t,rfl⟩,q⟩
def zkg:List PV->Option PV
 | [.dct ks]=>some (.int ks.length)
 | _=>none
theorem zqn:RLV .shr zs4 zkg:=by
 intro U H ps z vs Q d hb e k
 match ps,e with
 | [.dct ks],e =>
  cases e;obtain ⟨v,rfl,a,kvs,rfl,ha,rx⟩:=hb.one;refine ⟨a,kvs,rfl,ha,?_⟩;rw [rx.length];exact k _ H U (.refl d) (repI U H _)
theorem zu2 {X:Cx}:C2 X (.builtin "len") .shr zkg:=⟨_,zkC,zqn⟩
def kxs (ks:List (Key×PV)):List PV:=ks.map fun k=>kP k.1
def ixs (ks:List (Key×PV)):List PV:=ks.map fun k=>PV.tup [kP k.1,k.2]
section
variable {X:Cx}{elt target iter:Expr}{es ifs:List Expr}{pos p p2 apos cpos:Pos}{f:VX}{i n:Nat}{x:Str}
theorem zv0 {s:List Stmt}{F:VF}{tg:VTg}(q:PE X (.Name x p) (tVar i)) (hg:QG X target tg) (hb:QB X s F) (hp:PassesOwn (model X.prog X.w) X.A X.env X.xe) (hc:X.calm=true) (hs:∀x',foldedSetIterable (.Name x p) X.env x'=pure x'):QS X (.For target (.Name x p) s [] pos) (vFor (itD kxs i) tg F):=by
 obtain ⟨_,a1,a2⟩:=hg.h;obtain ⟨_,b1,b2⟩:=hb.h;exact ⟨_,zqE (i:=i) (zlt hp hc (zqJ q) a1 b1 hs),zpB zpo a2 b2⟩
theorem zoS {scope:Scope}{outer:List (Str×NameKind)}{N:List Str}{src:List (Option Nat)}{tg:VTg}{cond:VB}(cs:CSc X outer N) (hok:zfn scope outer N (.Tuple es n p) src=true) (q:PE X (.Name x p2) (tVar i))
  (hbase:attributeBase (.Name x p2) "items" X.env (eval (.Name x p2) X.env)=eval (.Name x p2) X.env) (hline:(apos.endLine==cpos.line)=true)
  (hg:∀C s H fp,(zav X scope (zck (.Tuple es n p) src N) C s H fp).N.Nodup->QG (zav X scope (zck (.Tuple es n p) src N) C s H fp) (.Tuple es n p) tg) (hif:∀C s H fp,QF (zav X scope (zck (.Tuple es n p) src N) C s H fp) ifs cond) (he:∀C s H fp,QE (zav X scope (zck (.Tuple es n p) src N) C s H fp) .shr elt f)
  (hc:X.calm=true) (hs:∀x',foldedSetIterable (.Call (.Attribute (.Name x p2) "items" apos) [] [] cpos) X.env x'=pure x') :
  QE X .fr (.ListComp elt [⟨.Tuple es n p,.Call (.Attribute (.Name x p2) "items" apos) [] [] cpos,ifs,0⟩] scope pos) (zap src (itD ixs i) tg cond f):=by
 obtain ⟨S,nd⟩:=zgc cs hok;obtain ⟨_,g1,g2⟩:=QG.all (Y:=fun (z:Addr×Shared×Hp×List Addr)=>zav X scope (zck (.Tuple es n p) src N) z.1 z.2.1 z.2.2.1 z.2.2.2) fun z=>hg _ _ _ _ nd;obtain ⟨_,f1,f2⟩:=QF.all (Y:=fun (z:Addr×Shared×Hp×List Addr)=>zav X scope (zck (.Tuple es n p) src N) z.1 z.2.1 z.2.2.1 z.2.2.2) fun z=>hif _ _ _ _;obtain ⟨_,e1,e2⟩:=QE.all (Y:=fun (z:Addr×Shared×Hp×List Addr)=>zav X scope (zck (.Tuple es n p) src N) z.1 z.2.1 z.2.2.1 z.2.2.2) fun z=>he _ _ _ _;exact ⟨_,zqQ (i:=i) (zlE S hc (znJ q hbase hline) (fun C s H fp=>g1 (C,s,H,fp)) (fun C s H fp=>f1 (C,s,H,fp)) (fun C s H fp=>e1 (C,s,H,fp)) hs),zm9 zm0 g2 f2 e2⟩
end
end L2
namespace HT
open PySem PyProof.Rows
end HT
namespace L2
open PySem PySem.W PySem.Spec PyProof.Rows
end L2
namespace PySem
open PyProof.Rows PySem.W PySem.Spec
section
variable {t:SetTable}{pl:List Nat}{ha:Nat->Int}{h:Int}(hpl:t.place=pl.toArray) (hd:t.dummies = #[]) (hp:pl.Pairwise (· < ·)) (hne:∀i,ha i≠h)
include hpl hd hp hne
end
open PySem.Calls
end PySem
namespace L2
open PySem PySem.Spec PyProof.Rows PySem.W
end L2
namespace PySem
open PyProof.Rows PySem.W PySem.Spec
end PySem
namespace L2
open PySem PySem.Spec PyProof.Rows PySem.W
class HC where c:Addr
def zgU:List Str->List PV->Str->Option PV
 | n::ns,p::ps,f=>if f==n then some p else zgU ns ps f
 | _,_,_=>none
def pFld (C:Addr) (f:Str):PV->Option PV
 | .obj C' nm ps=>if C'=C then zgU nm ps f else none
 | _=>none
theorem zpb {U:AS}{H:Hp}{f:Str}:∀{nm:List Str}{ps:List PV}{xs:List V}{p:PV},Reps U H ps xs->zgU nm ps f=some p -> ∃v,(nm.zip xs).lookup f=some v/\Rep U H p v
 | [],ps,xs,p,r,e=>by simp [zgU] at e
 | n::ns,[],xs,p,r,e=>by simp [zgU] at e
 | n::ns,q::ps,xs,p,r,e=>by
  obtain ⟨x,r',rfl,h1,h2⟩:=zah.mp r;unfold zgU at e;rw [List.zip_cons_cons,List.lookup_cons];cases z:f==n with
  | true=>rw [z,if_pos rfl] at e;cases e;exact ⟨x,rfl,h1⟩
  | false=>rw [z,if_neg Zl] at e;exact zpb h2 e
theorem zkD {f:Str}:∀{nm:List Str}{xs:List V},nm.contains f=false->(nm.zip xs).lookup f=none
 | [],xs,_=>by simp
 | n::ns,[],_=>by simp
 | n::ns,x::xs,h=>by
  rw [List.contains_cons,Bool.or_eq_false_iff] at h;rw [List.zip_cons_cons,List.lookup_cons,h.1];exact zkD h.2
theorem zss {K:PySem.W.Frag}{C:Addr}{f:Str}{m:Md}{ta:TE}{fe:VX}(c:Cls K C) (n:zcp K C f) (h:VE m ta fe):VE .shr (tFld K ta f) (x1 (pFld C f) fe):=by
 intro U O H σ ρ Q z s e k;obtain ⟨p,hp,e⟩:=Za.mp e;refine h.bor U O H σ ρ _ p s hp fun v H1 U1 ex1 r1=>?_;cases p with
 | obj C' nm ps =>
  have e:(if C'=C then zgU nm ps f else none)=some z:=e;by_cases hC:C'=C
  case neg=>rw [if_neg hC] at e;cases e
  rw [if_pos hC] at e;subst hC;obtain ⟨a,dx,xs,rfl,ua,ha,hl,rx⟩:=zeL.mp (show Rep U1 H1 (.obj C' nm ps) v from r1);obtain ⟨w,hw,rw'⟩:=zpb (nm:=nm) (f:=f) (p:=z) rx (by simpa [pFld] using e);exact ⟨a,C',dx,_,w,rfl,ha,c,n,hw,k w H1 U1 ex1 rw'⟩
 | _=>cases e
def isC (C:Addr) (m:Str):List PV->Bool
 | .obj C' nm _::_=>decide (C'=C)&&!(nm.contains m)
 | _=>false
def onC (C:Addr) (m:Str) (f:List PV->Option PV):List PV->Option PV:=fun ps=>if isC C m ps then f ps else none
theorem zep {C:Addr}{m:Str}{f:List PV->Option PV}{ps:List PV}{p:PV}(h:onC C m f ps=some p):isC C m ps=true/\f ps=some p:=by
 unfold onC at h;cases b:isC C m ps with
 | true=>rw [b,if_pos rfl] at h;exact ⟨rfl,h⟩
 | false=>rw [b,if_neg Zl] at h;cases h
theorem zp7 {C:Addr}{m:Str}{fr:Bool}{f:List PV->Option PV}:∀vs H Q E,spV fr (onC C m f) vs H Q E->spV fr f vs H Q E:=fun vs H Q E ⟨U,ps,p,d,r,e,k⟩=>⟨U,ps,p,d,r,(zep e).2,k⟩
theorem zjt {C:Addr}{m:Str}{sp:Sp}{ma:Md}{ta:TE}{t:TA}{fo:VX}{fa:VL}{E:XK}(ho:VE ma ta fo) (ha:VA false t fa) {U O:AS}{H:Hp}{σ:St}{ρ:PEnv}{Q:VK}{ps:List PV}(s:SR U O H σ ρ) (e:zab fo fa ρ=some ps) (hc:isC C m ps=true)
  (k:∀vs H1 U1,Ext U H U1 H1->Reps U1 H1 ps vs->sp vs H1 Q E):ziu C m sp [] E ta t σ H Q:=by
 obtain ⟨p,hp,e⟩:=Za.mp e;obtain ⟨qs,hq,e⟩:=Za.mp e;cases e;refine ho.bor U O H σ ρ _ p s hp fun v H1 U1 ex1 r1=>?_;cases p with
 | obj C' nm xs =>
  simp only [isC,Zc1,decide_eq_true_eq,Bool.not_eq_true'] at hc;obtain ⟨rfl,hn⟩:=hc;have r1:Rep U1 H1 (.obj C' nm xs) v:=r1;obtain ⟨a,dx,ys,rfl,ua,ea,hl,rx⟩:=zeL.mp r1;refine ⟨a,dx,_,rfl,ea,zkD hn,ha U1 O H1 σ ρ _ qs (s.ext ex1) hq fun vs H2 U2 ex2 r2=>?_⟩;rw [List.append_nil];exact k _ H2 U2 (ex1.trans ex2) (zah.mpr ⟨_,_,rfl,Rep.keeps ex2.keeps _ _ r1,r2⟩)
 | _=>cases hc
theorem zm6 {C:Addr}{m:Str}{f:List PV->Option PV}{ma:Md}{ta:TE}{t:TA}{fo:VX}{fa:VL}{E:XK}(hf:∀ps p,f ps=some p->isC C m ps=true) (ho:VE ma ta fo) (ha:VA false t fa):VE .shr (ziu C m (spV false f) [] E ta t) (xL f (zab fo fa)):=by
 intro U O H σ ρ Q z s e k;obtain ⟨ps,hp,e⟩:=Za.mp e;exact zjt ho ha s hp (hf _ _ e) fun vs H1 U1 ex1 r1=>⟨U1,ps,z,ex1.dU,r1,e,fun v H2 U2 ex2 r2=>k v H2 U2 (ex1.trans ex2) r2⟩
theorem zi4 {C:Addr}{m:Str}{f:List PV->Option PV}{ma:Md}{ta:TE}{t:TA}{fo:VX}{fa:VL}{E:XK}(hf:∀ps p,f ps=some p->isC C m ps=true) (ho:VE ma ta fo) (ha:VA false t fa):VE .fr (ziu C m (spV true f) [] E ta t) (xL f (zab fo fa)):=by
 intro U O H σ ρ Q z s e k;obtain ⟨ps,hp,e⟩:=Za.mp e;exact zjt ho ha s hp (hf _ _ e) fun vs H1 U1 ex1 r1=>⟨U1,ps,z,ex1.dU,r1,e,fun v H2 U2 ex2 r2=>k v H2 U2 (ex1.trans ex2) (Res.pre (m:=.fr) (U1:=U1) ex1.same r2)⟩
structure DfM (K:PySem.W.Frag) (C:Addr) (m qual:Str) (st:Stmt) (ps:List Str):Prop where
 h:∃a d,Meth K C m a/\Fun K m qual st a d/\Binds K d ps []
 c:Cls K C
structure CM (P:Program) (w:World) (K:PySem.W.Frag) (mg:Str->Option Value) (base:Heap) (CX:CXT) (C:Addr) (m:Str) (k:Nat) (sp:Sp):Prop where
 h:∃a d ps,FnOk P w K mg base CX k a d ps sp/\Meth K C m a/\Binds K d ps []
 c:Cls K C
section
variable {X:Cx}{m ma mb mc:Md}{a b c e o elt target iter:Expr}{es ifs:List Expr}{pos p p2 ap:Pos}{f g h:VX}{fo:VX}{fa fb:VL}{k n i j:Nat}{x y:Str}{l:List Str}{C:Addr}{pl:Sem Bool}
theorem qfld (c:Cls X.K C) (n:zcp X.K C y) (h:QE X ma o fo) (hb:attributeBase o y X.env (eval o X.env)=eval o X.env:=by rfl):QE X .shr (.Attribute o y pos) (x1 (pFld C y) fo):=by
 obtain ⟨_,a1,a2⟩:=h.h;exact ⟨_,zo1 a1 hb,zss c n a2⟩
theorem zlk {f:List PV->Option PV}(F:CM X.prog X.w X.K X.mg X.base CX0 C y k (spV true (onC C y f))) (hr:Room j X.A) (hk:k<=j) (ho:QE X ma o fo) (ha:QA X false (e::es) fa) (hst:starEach (e::es) X.env=(false,eval e X.env)::starEach es X.env:=by rfl) (hpl:(backTo pos (starEach es X.env)).any (·.1)=false:=by rfl)
  (ht:eval (.Call (.Attribute o y ap) (e::es) [] pos) X.env=(do
   let ov <- eval o X.env
   standAt ap.atName
   let (f,first) <- holding [ov] (getMethod ov y pl)
   callWith pos f first (backTo pos (starEach (e::es) X.env)) (backToKw pos (keywordEach [] X.env))):=by rfl) :
  QE X .fr (.Call (.Attribute o y ap) (e::es) [] pos) (xL (onC C y f) (zab fo fa)):=by
 obtain ⟨_,_,_,F1,F2,F3⟩:=F.h;obtain ⟨_,a1,a2⟩:=ha.h;obtain ⟨_,o1,o2⟩:=ho.h;exact ⟨_,zlC o1 F.c F2 F1 (hr.mono hk) F3 .nil ziE a1 hst hpl ht,zi4 (fun _ _ h=>(zep h).1) o2 a2⟩
theorem zlj {f:List PV->Option PV}(F:CM X.prog X.w X.K X.mg X.base CX0 C y k (spV false (onC C y f))) (hr:Room j X.A) (hk:k<=j) (ho:QE X ma o fo)
  (ht:eval (.Call (.Attribute o y ap) [] [] pos) X.env=(do
   let ov <- eval o X.env
   standAt ap.atName
   let (f,first) <- holding [ov] (getMethod ov y pl)
   callWith pos f first (backTo pos (starEach [] X.env)) (backToKw pos (keywordEach [] X.env))):=by rfl) :
  QE X .shr (.Call (.Attribute o y ap) [] [] pos) (xL (onC C y f) (zab fo lNil)):=by
 obtain ⟨_,_,_,F1,F2,F3⟩:=F.h;obtain ⟨_,o1,o2⟩:=ho.h;exact ⟨_,zjo o1 F.c F2 F1 (hr.mono hk) F3 .nil ziE ht,zm6 (fun _ _ h=>(zep h).1) o2 zkP⟩
theorem ziB {f:List PV->Option PV}(F:CM X.prog X.w X.K X.mg X.base CX0 C y k (spV true (onC C y f))) (hr:Room j X.A) (hk:k<=j) (ho:QE X ma o fo)
  (ht:eval (.Call (.Attribute o y ap) [] [] pos) X.env=(do
   let ov <- eval o X.env
   standAt ap.atName
   let (f,first) <- holding [ov] (getMethod ov y pl)
   callWith pos f first (backTo pos (starEach [] X.env)) (backToKw pos (keywordEach [] X.env))):=by rfl) :
  QE X .fr (.Call (.Attribute o y ap) [] [] pos) (xL (onC C y f) (zab fo lNil)):=by
 obtain ⟨_,_,_,F1,F2,F3⟩:=F.h;obtain ⟨_,o1,o2⟩:=ho.h;exact ⟨_,zjo o1 F.c F2 F1 (hr.mono hk) F3 .nil ziE ht,zi4 (fun _ _ h=>(zep h).1) o2 zkP⟩
variable {P:Program}{w:World}{K:PySem.W.Frag}{mg:Str->Option Value}{base:Heap}{F:VF}{G:VR}{cl:Nat->Addr}
theorem okM {st:Stmt}{N ps:List Str}{fr:Bool}{qual:Str}(D:DfM K C x qual st ps) (S:FnScope N ps (zad st))
  (hb:∀(a:Addr) (cdv:Value) (A:Around) (outer:List Env) (s:Shared) (H:Hp) (E:XK),Room k (cxOf CX0 P w K mg base N qual (zad st) a cdv A outer s H E).nox.A->CSc (cxOf CX0 P w K mg base N qual (zad st) a cdv A outer s H E).nox (zad st).names N->(cxOf CX0 P w K mg base N qual (zad st) a cdv A outer s H E).nox.N.Nodup ->
   QB (cxOf CX0 P w K mg base N qual (zad st) a cdv A outer s H E).nox (za0 st) F):CM P w K mg base CX0 C x (k+1) (spV fr (onC C x (fnM ps.length N.length fr F))):=by
 obtain ⟨a,d,h1,h2,h3⟩:=D.h;refine ⟨⟨a,d,ps,FnOk.imp ?_ zp7,h1,h3⟩,D.c⟩;refine h2.ok S (ziw rfl) fun cdv A outer s H vs Q E hr h=>?_;obtain ⟨_,q1,q2⟩:=(hb a cdv A outer s H E hr ⟨fun _=>rfl,rfl⟩ S.nd).h;exact ⟨_,q1,fnV q2 h⟩
end
theorem SR.trF {U O U':AS}{H H':Hp}{σ:St}{ρ:PEnv}{fs fs':List Addr}(s:SR U O H σ ρ) (n:nb ρ=true) (tr:Tr U (fun b=>b∈fs) H U' (fun b=>b∈fs') H') (hf:∀b∈fs,¬U b /\ ¬O b/\Mutb H b):SR U' O H' σ ρ:=by
 have k:Keeps U H U' H':=tr.keeps (fun a u z=>(hf a z).1 u) fun a z=>(hf a z).2.2;have cell:∀a,O a -> ∀o,H a=some o->H' a=some o:=fun a oa o e=>tr.fr a o e fun z=>(hf a z).2.1 oa;refine ⟨s.len,tr.dU,fun a oa=>?_,fun a u oa=>?_,fun j q fl e=>?_,s.inj⟩
 ·obtain ⟨o,h1,h2⟩:=s.dO a oa
  exact ⟨o,cell a oa o h1,h2⟩
 ·rcases tr.new a u with z|z|z
  ·exact s.dis a z oa
  ·exact (hf a z).2.1 oa
  ·exact (s.dO a oa).dom z
 ·obtain ⟨v,hv,ok⟩:=s.slot j q fl e
  refine ⟨v,hv,?_⟩;cases fl with
  | shr=>exact Rep.keeps k _ _ ok
  | own=>obtain ⟨a,e1,e2,e3⟩:=ok;exact ⟨a,e1,e2,e3.keeps k fun o h'=>cell a e2 o h'⟩
  | bor=>exact absurd e (ziH n)
def spM (h:Sh) (f:PV->List PV->Option (PV×PV)):Sp:=fun vs H Q _=>∃U a fs p ws ps q p',vs=.ref a::ws/\(∀b,U b->H b≠none)/\DRep U H h p (.ref a) fs/\fs.Nodup/\(∀b∈fs,¬U b/\Mutb H b)/\Reps U H ps ws/\f p ps=some (q,p') /\
 ∀v U' H' fs',Tr U (fun b=>b∈fs) H U' (fun b=>b∈fs') H' -> DRep U' H' h p' (.ref a) fs' -> fs'.Nodup->(∀b∈fs',¬U' b/\Mutb H' b)->Rep U' H' q v->Q v H'
def zh7 (k n:Nat) (G:DF) (f:VX):PV->List PV->Option (PV×PV):=fun p ps=>if ps.length+1=k then dAll (fun a=>match G (zdU n (.adr a::ps)) p with
 | some (.nx ρ' p')=>(f (vw 0 p' ρ')).bind fun q=>if cf q then some (q,p') else none
 | _=>none) else none
theorem zp8 {h:Sh}{k n:Nat}{G:DF}{f:VX}{ps:List Str}(hk:ps.length=k):∀vs H Q E,spM h (zh7 k n G f) vs H Q E->vs.length=ps.length:=by
 rintro vs H Q E ⟨U,a,fs,p,ws,qs,q,p',rfl,d,_,_,_,r,e,_⟩;unfold zh7 at e;split at e
 ·rename_i h;rw [Zq,r.length,h,hk]
 ·cases e
section
variable {i:Nat}{C:Addr}{nm:List Str}{hs:Nat->Sh}{m:Str}{E:XK}{t:TA}{fa:VL}{f:PV->List PV->Option (PV×PV)}
def zed (f:PV->List PV->Option (PV×PV)) (fa:VL):DF:=fun ρ p=>if nb ρ then (fa ρ).bind fun ps=>(f p ps).map fun qp=>.nx ρ qp.2 else none
theorem zxi {Q:VK}{U P:AS}{H:Hp}{σ:St}{ρ:PEnv}{p:PV}{a:Addr}{ps:List PV}{q p':PV}(hm:nm.contains m=false) (ha:VA false t fa) (sd:SD U P H σ ρ i (.o C nm hs) p a) (hn:nb ρ=true) (hps:fa ρ=some ps) (hf:f p ps=some (q,p'))
  (k:∀v U' P' H',SD U' P' H' σ ρ i (.o C nm hs) p' a->Tr U P H U' P' H' -> Rep U' H' q v->Q v H'):ziu C m (spM (.o C nm hs) f) [] E (tVar i) t σ H Q:=by
 have sg:=sd.sig;obtain ⟨O,fs,s,tk,d,nd,ds,hP⟩:=sd.h;obtain ⟨a',dx,xs,qs,g,ea,rfl,ec,hl,di,rfl⟩:=id d;cases ea;refine ⟨.ref a,sg,a,dx,_,rfl,ec,zkD hm,ha U O H σ ρ _ ps s hps fun vs H1 U1 ex1 r1=>?_⟩;rw [List.append_nil];have sd1:=sd.ext ex1;have s1:=s.ext ex1;have ds1:∀b∈a::g,¬U1 b /\ ¬O b/\Mutb H1 b:=fun b hb=>by
  obtain ⟨d1,d2,o,d3,d4⟩:=ds b hb;refine ⟨fun z=>?_,d2,o,ex1.same _ _ d3,d4⟩;rcases ex1.new b z with z|z
  ·exact d1 z
  ·rw [d3] at z;cases z
 refine ⟨U1,a,a::g,_,vs,ps,q,p',rfl,s1.dU,d.keeps ex1.keeps fun b _ o ho=>ex1.same b o ho,nd,fun b hb=>⟨(ds1 b hb).1,(ds1 b hb).2.2⟩,r1,hf,fun v U' H' fs' tr d' nd' ds' rv=>?_⟩;have s':=s1.trF hn tr ds1;have nO:∀b∈fs',¬O b:=fun b hb z=>by
  rcases tr.own b hb with w|w
  ·exact (ds1 b w).2.1 z
  ·exact s1.noO w z
 refine k v U' (fun b=>O b\/b∈fs') H' ⟨O,fs',s',tk,d',nd',fun b hb=>⟨(ds' b hb).1,nO b hb,(ds' b hb).2⟩,fun _=>Iff.rfl⟩ ?_ rv;have trx:=ex1.tr (O:=P);refine trx.trans ⟨fun b o hb n=>tr.fr b o hb fun z=>n ((hP b).mpr (.inr z)),tr.mono,fun b z=>(tr.new b z).elim .inl fun z=>z.elim (fun z=>.inr (.inl ((hP b).mpr (.inr z)))) fun z=>.inr (.inr z),fun b z=>z.elim (fun z=>.inl ((hP b).mpr (.inl z))) fun z=>(tr.own b z).elim (fun z=>.inl ((hP b).mpr (.inr z))) .inr,tr.dU,tr.dm⟩
theorem znf (hm:nm.contains m=false) (ha:VA false t fa):VD i (.o C nm hs) (zhd (ziu C m (spM (.o C nm hs) f) [] E (tVar i) t)) (zed f fa):=by
 intro U P H σ ρ p a D o sd e q;unfold zed at e;by_cases hn:nb ρ=true
 case neg=>rw [if_neg hn] at e;cases e
 rw [if_pos hn] at e;obtain ⟨ps,hps,e⟩:=Za.mp e;obtain ⟨⟨v0,p'⟩,hf,e⟩:=Zb.mp e;cases e;exact zxi hm ha sd hn hps hf fun v U' P' H' sd' tr rv=>q U' P' H' σ sd' tr
end
def zmq:List Str->Str->Option Nat
 | [],_=>none
 | n::ns,f=>if f==n then some 0 else (zmq ns f).map (· + 1)
theorem zjE {f:Str}:∀{nm:List Str}{n:Nat}{xs:List V}{x:V},zmq nm f=some n->xs[n]?=some x->(nm.zip xs).lookup f=some x
 | [],n,xs,x,e,_=>by cases e
 | y::ns,n,[],x,e,h=>by simp at h
 | y::ns,n,z::xs,x,e,h=>by
  unfold zmq at e;rw [List.zip_cons_cons,List.lookup_cons];cases q:f==y with
  | true =>
   rw [q,if_pos rfl] at e;cases e;simp at h;rw [h]
  | false =>
   rw [q,if_neg Zl] at e;obtain ⟨k,hk,rfl⟩:=Zb.mp e;exact zjE hk (by simpa using h)
def zfN (n:Nat) (f:VX):DF:=fun ρ p=>if nb ρ then (f ρ).bind fun q=>match p with
 | .obj C nm ps=>(match ps[n]? with
  | some (.lst qs)=>if zaL qs.length then some (.nx ρ (.obj C nm (ps.set n (.lst (qs++[q]))))) else none
  | _=>none)
 | _=>none else none
section
variable {i n:Nat}{C:Addr}{nm:List Str}{hs:Nat->Sh}{y:Str}{Kf K:PySem.W.Frag}{te:TE}{f:VX}
theorem zpW (hn:zmq nm y=some n) (hsh:hs n=.l .s) (c:Cls K C) (na:zcp K C y) (he:VE .shr te f):VD i (.o C nm hs) (zhd (tBM Kf "list" ziA (tFld K (tVar i) y) (zhe te tNil))) (zfN n f):=by
 intro U P H σ ρ p a D o s e q;have sg:=s.sig;obtain ⟨O,fs,sr,tok,d,nd,ds,hP⟩:=s.h;unfold zfN at e;by_cases hnb:nb ρ=true
 case neg=>rw [if_neg hnb] at e;cases e
 rw [if_pos hnb] at e;obtain ⟨w,hy,e⟩:=Za.mp e;obtain ⟨ps,rfl⟩:∃ps,p=.obj C nm ps:=by
  obtain ⟨_,_,_,ps,_,_,e,_⟩:=d;exact ⟨ps,e⟩
 dsimp only at e;split at e
 case h_2=>cases e
 rename_i qs hq;obtain ⟨hsm,rfl⟩:=zaD e;obtain ⟨dx,xs,x,f1,g,f2,hcell,hf1,hln,hxl,hx,dc,rfl,back⟩:=d.childO rfl hq;rw [hsh] at dc;obtain ⟨b1,ys,qs',g',rfl,eq,hb1,di,rfl⟩:=dc;cases eq;refine ⟨.ref a,sg,a,C,dx,_,.ref b1,rfl,hcell,c,na,zjE hn hx,.inl ⟨rfl,ys,SqL.of hb1⟩,he U O H σ ρ _ w sr hy fun w2 H2 U2 ex2 r2=>?_⟩;have s2:=sr.ext ex2;have hb2:=ex2.same _ _ hb1;have mem:b1∈f1++(b1::g')++f2:=by simp
 have dd:∀c∈f1++(b1::g')++f2,¬U2 c /\ ¬O c/\Mutb H2 c:=fun c hc=>by
  obtain ⟨d1,d2,o,d3,d4⟩:=ds c hc;refine ⟨fun z=>?_,d2,o,ex2.same _ _ d3,d4⟩;rcases ex2.new c z with z|z
  ·exact d1 z
  ·rw [d3] at z;cases z
 obtain ⟨s3,k3⟩:=s2.side (o:=.lst (ys++[w2])) hnb (dd b1 mem).1 (dd b1 mem).2.1 (dd b1 mem).2.2 (fun _ z=>nomatch z);refine ⟨b1,ys,w2,rfl,rfl,hb2,by rw [di.length];exact zeo hsm,?_⟩;have di2:zaI (fun _=>DRep U2 (upd H2 b1 (.lst (ys++[w2]))) .s) 0 (qs++[w]) (ys++[w2]) (g'++[]):=by
  refine zaI.snoc (zaI.imp (fun m p x f r z=>?_) di) ⟨Rep.keeps k3 _ _ r2,rfl⟩;exact ⟨Rep.keeps k3 _ _ (Rep.keeps ex2.keeps _ _ r.1),r.2⟩
 rw [List.append_nil] at di2;have newD:=back U2 (upd H2 b1 (.lst (ys++[w2]))) (.lst (qs++[w])) (b1::g') (ex2.keeps.trans k3) (fun c hc o ho=>by
  rw [zac (zlQ nd (g:=b1::g') (by simp) c hc)];exact ex2.same _ _ ho) (by rw [hsh];exact ⟨b1,ys++[w2],qs++[w],g',rfl,rfl,zaf,di2,rfl⟩)
 have mutb:∀c,Mutb H2 c->Mutb (upd H2 b1 (.lst (ys++[w2]))) c:=fun c m=>by
  by_cases e:c=b1
  ·subst e;exact ⟨_,zaf,fun _ z=>nomatch z⟩
  ·obtain ⟨o,m1,m2⟩:=m
   exact ⟨o,by rw [zac e];exact m1,m2⟩
 have tr3:Tr U2 P H2 U2 P (upd H2 b1 (.lst (ys++[w2]))):=by
  refine ⟨fun c o hc n=>?_,fun _ h=>h,fun _ h=>.inl h,fun _ h=>.inl h,s3.dU,fun c hc=>?_⟩
  ·rw [zac (show c≠b1 from fun z=>n ((hP c).mpr (.inr (by rw [z];exact mem))))];exact hc
  ·by_cases e:c=b1
   ·subst e;rw [zaf];intro z;cases z
   ·rw [zac e];exact hc
 exact q U2 P _ σ ⟨O,f1++(b1::g')++f2,s3,tok,newD,nd,fun c hc=>⟨(dd c hc).1,(dd c hc).2.1,mutb c (dd c hc).2.2⟩,hP⟩ (ex2.tr.trans tr3)
end
def hNm:List Str:=["elders","trees"]
def hSh (C:Addr):Sh:=.o C hNm fun _=>.l .s
def hist (C:Addr) (web trees:List PV):PV:=.obj C hNm [.lst web,.lst trees]
def spI (C:Addr):Sp:=fun vs H Q _=>∃x dx,vs = [.ref x]/\H x=some (.ins C dx []) /\ ∀e t H',H e=none->H t=none->e≠t->H' x=some (.ins C dx [("elders",.ref e),("trees",.ref t)])->H' e=some (.lst [])->H' t=some (.lst [])->(∀b o,H b=some o->b≠x->H' b=some o)->Q .non H'
theorem zm4 {C:Addr}{E:XK}:VNE (hSh C) (zsI C (spI C) [] E tNil) (fun _=>some (hist C [] [])):=by
 intro U O H σ ρ Q p s e k;cases e;intro x dx hx hdx ne;have u1:∀b o,H b=some o->upd (upd H dx (.own x)) x (.ins C dx []) b=some o/\b≠x:=fun b o hb=>by
  have n1:b≠x:=zaw hb hx;have n2:b≠dx:=zaw hb hdx;exact ⟨by rw [zac n1,zac n2];exact hb,n1⟩
 have back:∀b,upd (upd H dx (.own x)) x (.ins C dx []) b=none->H b=none/\b≠x:=fun b hb=>by
  have n1:b≠x:=fun z=>by rw [z,zaf] at hb;cases hb
  have n2:b≠dx:=fun z=>by rw [zac n1,z,zaf] at hb;cases hb
  rw [zac n1,zac n2] at hb;exact ⟨hb,n1⟩
 refine ⟨x,dx,rfl,zaf,fun e t H' he ht hne h1 h2 h3 hk=>⟨rfl,?_⟩⟩;obtain ⟨he0,hex⟩:=back e he;obtain ⟨ht0,htx⟩:=back t ht;have same:Same H H':=fun b o hb=>hk b o (u1 b o hb).1 (u1 b o hb).2;have ex:Ext U H U H':=Ext.onlyU (U2:=U) s.dU same;refine k x U H' [x,e,t] ex ?_ ?_ ?_
 ·refine ⟨x,dx,[.ref e,.ref t],[.lst [],.lst []],[e,t],rfl,rfl,h1,rfl,?_,rfl⟩
  exact ⟨.ref e,[.ref t],[e],[t],rfl,⟨e,[],[],[],rfl,rfl,h2,⟨rfl,rfl⟩,rfl⟩,⟨.ref t,[],[t],[],rfl,⟨t,[],[],[],rfl,rfl,h3,⟨rfl,rfl⟩,rfl⟩,⟨rfl,rfl⟩,rfl⟩,rfl⟩
 ·simp [hex.symm,htx.symm,hne]
 ·intro b hb
  simp only [Zk,List.not_mem_nil,or_false] at hb;rcases hb with rfl|rfl|rfl
  ·exact ⟨hx,nU s.dU hx,_,h1,fun _ z=>nomatch z⟩
  ·exact ⟨he0,nU s.dU he0,_,h2,fun _ z=>nomatch z⟩
  ·exact ⟨ht0,nU s.dU ht0,_,h3,fun _ z=>nomatch z⟩
def VMr (i:Nat) (h:Sh) (t:TS) (G:DF) (f:VX):Prop:=∀(U P:AS) (H:Hp) (σ:St) (ρ:PEnv) (p:PV) (a:Addr) (D:Ends) (ρ':PEnv) (p' q:PV),SD U P H σ ρ i h p a->G ρ p=some (.nx ρ' p')->f (vw i p' ρ')=some q->cf q=true ->
 (∀U' P' H' v σ' ρ'',SD U' P' H' σ' ρ'' i h p' a->Tr U P H U' P' H' -> Rep U' H' q v->D.rt v H')->t D σ H
section
variable {i:Nat}{h:Sh}{t u:TS}{te:TE}{G G1 G2:DF}{f:VX}
theorem zpH (he:VE .shr te f):VMr i h (tRet te) zoj f:=by
 intro U P H σ ρ p a D ρ' p' q s e hq hc k;cases e;refine he _ _ H σ _ _ q s.view hq fun v H2 U2 ex r2=>?_;have ex0:=Ext.onlyU (U2:=U2) s.dU ex.same;exact k U P H2 v σ ρ (s.ext ex0) ex0.tr (Rep.cf (U:=U2) q v hc r2)
theorem zpG (h1:VD i h t G1) (h2:VMr i h u G2 f):VMr i h (tSeq t u) (dSeq G1 G2) f:=by
 intro U P H σ ρ p a D ρ' p' q s e hq hc k;unfold dSeq at e;cases z:G1 ρ p with
 | none=>rw [z] at e;cases e
 | some o1 =>
  rw [z] at e;cases o1 with
  | rt v=>cases e
  | nx ρ1 p1 =>
   refine h1 U P H σ ρ p a { D with nx:=u D } _ s z fun U1 P1 H1 σ1 s1 r1=>?_;exact h2 U1 P1 H1 σ1 ρ1 p1 a D ρ' p' q s1 e hq hc fun U' P' H' v σ' ρ'' s' tr r=>k U' P' H' v σ' ρ'' s' (r1.trans tr) r
theorem zwK {N:List Str}{k:Nat}{vs:List V}{H:Hp}{Q:VK}{E:XK}(hG:VMr 0 h t G f) (hsp:spM h (zh7 k N.length G f) vs H Q E):t { nx:=fun _ H'=>Q .non H',rt:=Q } (start N vs) H:=by
 obtain ⟨U,a,fs,p,ws,ps,q,p',rfl,d,dr,nd,ds,r,e,kk⟩:=hsp;unfold zh7 at e;split at e
 case isFalse=>cases e
 have s:=SR.init (N:=N) d (zah.mpr ⟨.ref a,ws,rfl,zgA.mpr rfl,r⟩);have sd:SD U (fun b=>b∈fs) H (start N (.ref a::ws)) (zdU N.length (.adr a::ps)) 0 h p a:=⟨fun _=>False,fs,s,rfl,dr,nd,fun b hb=>⟨(ds b hb).1,fun z=>z,(ds b hb).2⟩,fun b=>by simp⟩
 have e:=zh9 e a;cases z:G (zdU N.length (.adr a::ps)) p with
 | none=>rw [z] at e;cases e
 | some o =>
  rw [z] at e;cases o with
  | rt q=>cases e
  | nx ρ1 p1 =>
   obtain ⟨q1,hq,e⟩:=Za.mp e;obtain ⟨hc,e⟩:=zaD e;cases e;refine hG U _ H _ _ p a _ _ _ q sd z hq hc fun U1 P1 H1 v σ1 ρ2 s1 tr1 r1=>?_;obtain ⟨O2,fs2,s2,tk,d2,nd2,ds2,hP⟩:=s1.h;exact kk v U1 H1 fs2 ⟨tr1.fr,tr1.mono,tr1.new,fun b z=>tr1.own b ((hP b).mpr (.inr z)),tr1.dU,tr1.dm⟩ d2 nd2 (fun b hb=>⟨(ds2 b hb).1,(ds2 b hb).2.2⟩) r1
end
structure QMr (X:Cx) (st:List Stmt) (i:Nat) (h:Sh) (G:DF) (f:VX):Prop where
 h:∃t,PSs X st t/\VMr i h t G f
structure DfI (K:PySem.W.Frag) (C:Addr) (st:Stmt):Prop where
 h:∃f fd,Mk K C f/\Fun K "__init__" "History.__init__" st f fd/\Binds K fd ["self"] []
 c:Cls K C
 e:zcp K C "elders"
 t:zcp K C "trees"
structure CMk (P:Program) (w:World) (K:PySem.W.Frag) (mg:Str->Option Value) (base:Heap) (C:Addr) (x:Str) (k:Nat):Prop where
 h:∃f fd,Mk K C f/\FnOk P w K mg base CX0 k f fd ["self"] (spI C)/\Binds K fd ["self"] []
 m:mg x=some (.ref C)
section
variable {X:Cx}{m ma mb mc:Md}{a b c e o elt target iter:Expr}{es ifs:List Expr}{pos p p1 p2 p3 ap:Pos}{f g h:VX}{fo:VX}{fa fb:VL}{k n i j:Nat}{x y z:Str}{l:List Str}{C:Addr}{pl:Sem Bool}{sh:Sh}{st:Stmt}{sts:List Stmt}{G G1 G2:DF}
theorem qmr1 (ha:QE X .shr a f):QMr X [.Return (some a) p] i sh zoj f:=by
 obtain ⟨_,a1,a2⟩:=ha.h;exact ⟨_,zgB (zjn a1),zpH a2⟩
theorem qmrc (h1:QD X st i sh G1) (h2:QMr X sts i sh G2 f):QMr X (st::sts) i sh (dSeq G1 G2) f:=by
 obtain ⟨_,a1,a2⟩:=h1.h;obtain ⟨_,b1,b2⟩:=h2.h;exact ⟨_,zcQ a1 b1,zpG a2 b2⟩
theorem ztq (M:CMk X.prog X.w X.K X.mg X.base C x k) (hr:Room j X.A) (hk:k+1<=j) (hN:X.N.Nodup) (hi:X.N[i]?=some y) (hx:Loc X.env.scope y) (hs:swapsWith (.Call (.Name x p) [] [] pos) (some (.Name y p2)) p3.line X.env=pure false) (hf:X.fn y=true\/X.env.scope.names.lookup y=some .local) (hg:Gl X x:=by rfl) (hdb:(x==("__debug__" : Str))=false:=by decide) :
  QN X (.Assign [.Name y p2] (.Call (.Name x p) [] [] pos) p3) i (hSh C) (fun _=>some (hist C [] [])):=by
 obtain ⟨_,_,m1,m2,m3⟩:=M.h;exact ⟨_,zjm hN hi hx (znM m1 m2 (hr.mono hk) hg M.m m3 .nil ziE hdb) hs hf,zsc zm4⟩
theorem zqw {f:PV->List PV->Option (PV×PV)}(F:CM X.prog X.w X.K X.mg X.base CX0 C y k (spM (hSh C) f)) (hr:Room j X.A) (hk:k<=j) (q:PE X (.Name x p) (tVar i)) (ha:QA X false (e::es) fa) (hm:hNm.contains y=false) (hst:starEach (e::es) X.env=(false,eval e X.env)::starEach es X.env) (hpl:(backTo pos (starEach es X.env)).any (·.1)=false)
  (hsw:swapsWith (.Call (.Attribute (.Name x p) y ap) (e::es) [] pos) none p3.line X.env=pure false)
  (ht:eval (.Call (.Attribute (.Name x p) y ap) (e::es) [] pos) X.env=(do
   let ov <- eval (.Name x p) X.env
   standAt ap.atName
   let (f,first) <- holding [ov] (getMethod ov y pl)
   callWith pos f first (backTo pos (starEach (e::es) X.env)) (backToKw pos (keywordEach [] X.env))):=by rfl) :
  QD X (.Expr (.Call (.Attribute (.Name x p) y ap) (e::es) [] pos) p3) i (hSh C) (zed f fa):=by
 obtain ⟨_,_,_,F1,F2,F3⟩:=F.h;obtain ⟨_,a1,a2⟩:=ha.h;exact ⟨_,zgC (zlC q F.c F2 F1 (hr.mono hk) F3 .nil ziE a1 hst hpl ht) hsw,znf hm a2⟩
theorem ztw (c:Cls X.K C) (na:zcp X.K C y) (q:PE X (.Name x p) (tVar i)) (ha:QE X .shr a f) (hn:zmq hNm y=some n)
  (hb1:attributeBase (.Name x p) y X.env (eval (.Name x p) X.env)=eval (.Name x p) X.env)
  (hbase:attributeBase (.Attribute (.Name x p) y p1) "append" X.env (eval (.Attribute (.Name x p) y p1) X.env)=eval (.Attribute (.Name x p) y p1) X.env)
  (hfew:((backTo p2 (starEach [a] X.env)).all (fun x=>!x.1)&&(backToKw p2 (keywordEach [] X.env)).all (fun x=>x.1.isSome)&&decide ([a].length + ([]:List Keyword).length + (if ([]:List Keyword).isEmpty then 0 else 1) < 30))=true)
  (hline:(ap.endLine==p2.line)=true) (hs:starEach [a] X.env=(false,eval a X.env)::starEach [] X.env) (hplain:(backTo p2 (starEach [] X.env)).any (·.1)=false) (hsw:swapsWith (.Call (.Attribute (.Attribute (.Name x p) y p1) "append" ap) [a] [] p2) none pos.line X.env=pure false) :
  QD X (.Expr (.Call (.Attribute (.Attribute (.Name x p) y p1) "append" ap) [a] [] p2) pos) i (hSh C) (zfN n f):=by
 obtain ⟨_,a1,a2⟩:=ha.h;exact ⟨_,zgC (zo2 rfl PySem.F.plainAttrs_list PySem.F.slot_list_append PySem.F.type_list_append zhV (zo1 q hb1) (zda a1 zd6 hs) hbase hfew hline hs hplain) hsw,zpW hn rfl c na a2⟩
variable {P:Program}{w:World}{K:PySem.W.Frag}{mg:Str->Option Value}{base:Heap}
theorem okMM {N ps:List Str}{qual:Str}(D:DfM K C x qual st ps) (S:FnScope N ps (zad st))
  (hb:∀(a:Addr) (cdv:Value) (A:Around) (outer:List Env) (s:Shared) (H:Hp) (E:XK),Room k (cxOf CX0 P w K mg base N qual (zad st) a cdv A outer s H E).nox.A->CSc (cxOf CX0 P w K mg base N qual (zad st) a cdv A outer s H E).nox (zad st).names N->(cxOf CX0 P w K mg base N qual (zad st) a cdv A outer s H E).nox.N.Nodup ->
   QMr (cxOf CX0 P w K mg base N qual (zad st) a cdv A outer s H E).nox (za0 st) 0 sh G f):CM P w K mg base CX0 C x (k+1) (spM sh (zh7 ps.length N.length G f)):=by
 obtain ⟨a,d,h1,h2,h3⟩:=D.h;refine ⟨⟨a,d,ps,?_,h1,h3⟩,D.c⟩;refine h2.ok S (zp8 rfl) fun cdv A outer s H vs Q E hr h=>?_;obtain ⟨_,q1,q2⟩:=(hb a cdv A outer s H E hr ⟨fun _=>rfl,rfl⟩ S.nd).h;exact ⟨_,q1,zwK q2 h⟩
end
theorem zt3 {P:Program}{w:World}{K:PySem.W.Frag}{mg:Str->Option Value}{base:Heap}{C:Addr}{st:Stmt}{p1 p2 p3 p4 p5 p6 p7 p8:Pos}(D:DfI K C st) (S:FnScope ["self"] ["self"] (zad st))
  (hst:za0 st = [.Assign [.Attribute (.Name "self" p1) "elders" p2] (.List [] p3) p4,.Assign [.Attribute (.Name "self" p5) "trees" p6] (.List [] p7) p8])
  (hs1:∀a cdv A outer s H E,swapsWith (.List [] p3) (some (.Attribute (.Name "self" p1) "elders" p2)) p4.line (cxOf CX0 P w K mg base ["self"] "History.__init__" (zad st) a cdv A outer s H E).env=pure false)
  (hs2:∀a cdv A outer s H E,swapsWith (.List [] p7) (some (.Attribute (.Name "self" p5) "trees" p6)) p8.line (cxOf CX0 P w K mg base ["self"] "History.__init__" (zad st) a cdv A outer s H E).env=pure false) (hm:mg "History" = some (.ref C))
  (hv:Vis (zad st) "self"):CMk P w K mg base C "History" 1:=by
 obtain ⟨f,fd,hM,hF,hB⟩:=D.h;refine ⟨⟨f,fd,hM,?_,hB⟩,hm⟩;refine hF.ok S (fun vs H Q E h=>?_) (fun cdv A outer s H vs Q E hr h=>?_)
 ·obtain ⟨x,dx,rfl,_⟩:=h
  rfl
 ·obtain ⟨x,dx,rfl,hx,k⟩:=h
  rw [hst];refine ⟨_,zcQ (zoV (zlB (i:=0) rfl hv) (zlD zd6) (hs1 f cdv A outer s H E)) (zgB (zoV (zlB (i:=0) rfl hv) (zlD zd6) (hs2 f cdv A outer s H E))),?_⟩;refine ⟨by show 0<=sizeLine;exact Nat.zero_le _,fun e he=>?_⟩;have nxe:x≠e:=zaw hx he;refine ⟨_,rfl,x,C,dx,[],rfl,(by rw [zac nxe];exact hx),D.c,D.e,(by show 0 < 1000;decide),?_⟩;refine ⟨by show 0<=sizeLine;exact Nat.zero_le _,fun t ht=>?_⟩;have ntx:x≠t:=fun z=>by rw [<- z,zaf] at ht;cases ht
  have nte:e≠t:=fun z=>by rw [<- z,zac nxe.symm,zaf] at ht;cases ht
  have ht0:H t=none:=by rw [zac ntx.symm,zac nte.symm] at ht;exact ht
  refine ⟨_,rfl,x,C,dx,_,rfl,(by rw [zac ntx,zaf]),D.c,D.t,(by show 1 < 1000;decide),?_⟩;refine k e t _ he ht0 nte (Eq.trans zaf (congrArg (fun l=>some (HO.ins C dx l)) ?_)) ?_ ?_ fun b o hb nb=>?_
  ·show (if ("elders" : Str) = "trees" then _ else (("elders" : Str),V.ref e)::[(("trees" : Str),V.ref t)])=_
   rw [if_neg (by decide +kernel)]
  ·rw [zac nxe.symm,zac nte,zac nxe.symm,zaf]
  ·rw [zac ntx.symm,zaf]
  ·rw [zac nb,zac (zaw hb ht0),zac nb,zac (zaw hb he)];exact hb
end L2
namespace HT
open PySem PyProof.Rows
end HT
namespace L2
open PySem PySem.W PySem.Spec PyProof.Rows
end L2
namespace PySem
open PyProof.Rows PySem.W PySem.Spec
end PySem
namespace L2
open PySem PySem.Spec PyProof.Rows PySem.W
def zhL:List PV->Option PV
 | [.int i,.int j]=>some (.int (if j < i then j else i))
 | _=>none
theorem zqj:RLV .shr (fun xs H Q=>∃i j,xs = [V.int i,V.int j]/\Q (.int (if j < i then j else i)) H) zhL:=by
 intro U H ps z vs Q d hb e k
 match ps,e with
 | [.int i,.int j],e =>
  cases e;obtain ⟨v,w,rfl,h1,h2⟩:=hb.two;rw [zaG (U:=U) (H:=H) h1,zaG (U:=U) (H:=H) h2];exact ⟨i,j,rfl,k _ H U (.refl d) (repI U H _)⟩
theorem zuY {X:Cx}(hc:X.calm=true):C2 X (.builtin "min") .shr zhL:=⟨_,zmM hc,zqj⟩
def zf9 (j:Nat) (G:DF):DF:=fun ρ p=>match ρ[j]? with
 | some (some (q,.own))=>G (ρ.set j (some (q,.shr))) p
 | some (some (q,.shr))=>G ρ p
 | _=>none
theorem zne {i j:Nat}{h:Sh}{t:TS}{G:DF}(hij:i≠j) (hg:VD i h t G):VD i h t (zf9 j G):=by
 intro U P H σ ρ p a D o sd e q;unfold zf9 at e;split at e
 ·rename_i w hw
  obtain ⟨O,fs,s,tk,d,nd,ds,hP⟩:=sd.h;obtain ⟨b,s1,t1⟩:=s.share hw;obtain ⟨v,hv,c,rfl,oc,tp⟩:=s.slot j w .own hw;have hb:b=c:=by
   have z:(fun x=>U x\/x=b) c:=by
    obtain ⟨v2,hv2,ok⟩:=s1.slot j w .shr (set_same (by have:=(Zg.mp hw).1;exact this));rw [hv] at hv2;cases hv2;cases w with
    | lst ps=>obtain ⟨a2,xs,e2,u2,_⟩:=zcd.mp ok;cases e2;exact u2
    | dct ks=>obtain ⟨a2,xs,e2,u2,_⟩:=zgz.mp ok;cases e2;exact u2
    | dtt ks=>obtain ⟨a2,xs,e2,u2,_⟩:=zgy.mp ok;cases e2;exact u2
    | _=>exact tp.elim
   rcases z with z|z
   ·exact absurd oc (s.dis c z)
   ·exact z.symm
  subst hb;have nf:∀x∈fs,x≠b:=fun x hx z=>(ds x hx).2.1 (z ▸ oc);have k:Keeps U H (fun x=>U x\/x=b) H:=Keeps.up fun _ z=>.inl z;refine hg _ (fun x=>(O x/\x≠b)\/x∈fs) H σ _ p a D o ⟨_,fs,s1,by rw [zbF (Ne.symm hij)];exact tk,d.keeps k fun _ _ _ z=>z,nd,fun x hx=>⟨fun z=>z.elim (ds x hx).1 (nf x hx),fun z=>(ds x hx).2.1 z.1,(ds x hx).2.2⟩,fun _=>Iff.rfl⟩ e (q.pre ?_);exact ⟨fun _ _ z _=>z,fun _ z=>.inl z,fun x z=>z.elim .inl fun z=>.inr (.inl ((hP x).mpr (.inl (z ▸ oc)))),fun x z=>.inl ((hP x).mpr (z.elim (fun z=>.inl z.1) .inr)),s1.dU,fun _ z=>z⟩
 ·exact hg U P H σ ρ p a D o sd e q
 ·cases e
theorem zqv {X:Cx}{st:Stmt}{i j:Nat}{h:Sh}{G:DF}(hg:QD X st i h G) (hij:i≠j):QD X st i h (zf9 j G):=by
 obtain ⟨_,a1,a2⟩:=hg.h;exact ⟨_,a1,zne hij a2⟩
end L2
namespace PySem
open PyProof.Rows PySem.W PySem.Spec
end PySem
namespace L2
open PySem PySem.Spec PyProof.Rows PySem.W
end L2
namespace PySem
open PySem.Spec
section
variable {prog:Program}{w:World}{A:Around}{E:Value->Shared->Prop}{s:Shared}
theorem zdK {Q:Int->Shared->Prop}(h:Q 0xFCA86420 { s with toks:=s.toks+1 }) :
  wpAny (model prog w) A (pyHash .none) Q E s:=by
 unfold pyHash;have hv:[Value.none].any Value.onHeap=false:=rfl;refine wpAny_bind ?_;rw [cRoomFor,if_neg (by rw [hv];exact Zl)];refine wpAny_pure ?_;refine wpAny_bind (wpAny_specialOf (typeIs_none s) F.slot_NoneType_hash.lookup ?_);show wpAny _ _ (if (some (Value.builtin "NoneType.__hash__")==some Value.none)=true then _ else _) Q E s;rw [if_neg (by rw [beq_builtin_none];exact Zl)];refine wpAny_bind (wpAny_specialOf (typeIs_none s) F.slot_NoneType_hash.lookup ?_);show wpAny _ _ (callSpecialIfBoundUnlessNone? .none "__hash__" _ >>= _) Q E s;refine wpAny_bind (wpAny_callSpecialIfBoundUnlessNone?_slot (typeIs_none s) F.slot_NoneType_hash
  (wpAny_call_entry F.slot_NoneType_hash (typeIs_none s) F.entry_NoneType_hash
   (show wpAny _ _ (do ret (<- mkInt 0xFCA86420)) _ _ s from wpAny_ret_mkInt ?_) (F.args_NoneType_hash_1 _)))
 exact wpAny_pure h
end
section
variable {prog:Program}{w:World}{K:Type} [DecidableEq K] {knd:HeapKind prog w K}{A:Around}{E:Value->Shared->Prop}{s:Shared}
theorem zca {stored:List Value}{Q:Bool->Shared->Prop}
  (hst:∀v∈stored,∃k' b,v=.ref b/\knd.is s.heap k' b) (h:Q false s):wpAny (model prog w) A (tableMayTell .none stored) Q E s:=by
 unfold tableMayTell;split
 ·exact wpAny_pure h
 ·refine wpAny_bind (wpAny_pure ?_)
  simp only [Bool.not_true,Bool.false_eq_true,if_false];refine wpAny_bind ?_;refine wpAny_forIn_list _ (fun rest r s'=>s'=s/\r=(none,()) /\ ∀v∈rest,∃k' b,v=.ref b/\knd.is s.heap k' b) _ ?_ ?_ _ _ ⟨rfl,rfl,hst⟩
  ·rintro x rest r s' ⟨rfl,rfl,hr⟩
   obtain ⟨k',b,rfl,hb⟩:=hr x Zf;refine wpAny_bind (knd.quiet hb ?_);simp only [Bool.not_true,Bool.false_eq_true,if_false];exact wpAny_pure ⟨rfl,rfl,fun v hv=>hr v (Ze _ hv)⟩
  ·rintro r s' ⟨rfl,rfl,_⟩
   exact wpAny_pure h
theorem zc8 {d:Addr}{o:Obj} {es ep}{xs:List (K×Addr×Value)}{h0:Int}{Q:Option Nat->Shared->Prop}(hu:A.units < cLine)
  (ho:s.heap.get? d=some o) (hd:o.data=.dict es ep) (he:es.toList=xs.map (entryOfKey knd)) (his:∀x∈xs,knd.is s.heap x.1 x.2.1) (ht:∀x∈xs,∃items,s.heap.IsTuple x.2.1 items)
  (hnone:Q none s) :
  wpAny (model prog w) A (dictFind d .none h0) Q E s:=by
 have hmem:∀e∈es,∃x∈xs,e=entryOfKey knd x:=by
  intro e hin;have:e∈xs.map (entryOfKey knd):=he ▸ Array.mem_toList_iff.mpr hin;obtain ⟨x,hx,rfl⟩:=Zs.mp this;exact ⟨x,hx,rfl⟩
 have hst:∀v∈(placesWithHash es.size (fun i=>es[i]?.map (·.hash)) h0).filterMap (fun i=>es[i]?.map (·.key)),∃k' b,v=.ref b/\knd.is s.heap k' b:=by
  intro v hv;obtain ⟨i,_,hi⟩:=List.mem_filterMap.mp hv;cases hei:es[i]? with
  | none=>rw [hei] at hi;cases hi
  | some e =>
   rw [hei] at hi;obtain rfl:e.key=v:=by simpa using hi
   obtain ⟨x,hx,rfl⟩:=hmem e (Array.mem_of_getElem? hei);exact ⟨x.1,x.2.1,rfl,his x hx⟩
 have hpl:(placesWithHash es.size (fun i=>es[i]?.map (·.hash)) h0).filterMap (fun i=>es[i]?.map (·.key)) = []->placesWithHash es.size (fun i=>es[i]?.map (·.hash)) h0 = []:=by
  intro hz;rw [List.eq_nil_iff_forall_not_mem];intro i hi;have hi2:i < es.size:=by
   have:=hi;unfold placesWithHash at this;rw [Zh1,Zt] at this;exact this.1
  have:es[i]?.map (·.key)=some es[i].key:=by rw [Array.getElem?_eq_getElem hi2];rfl
  have hm:es[i].key∈(placesWithHash es.size (fun i=>es[i]?.map (·.hash)) h0).filterMap (fun i=>es[i]?.map (·.key)):=List.mem_filterMap.mpr ⟨i,hi,this⟩;rw [hz] at hm;exact nomatch hm
 unfold dictFind
 try with_reducible refine wpAny_holding ?_
 refine wpAny_bind (wpAny_dictEntries ho hd ?_);dsimp only;by_cases hz:(placesWithHash es.size (fun i=>es[i]?.map (·.hash)) h0).filterMap (fun i=>es[i]?.map (·.key)) = []
 ·rw [hz,if_pos (by rfl),hpl hz]
  unfold dictWalkPlain;refine wpAny_bind ?_;exact wpAny_pure (wpAny_pure hnone)
 ·have hall:¬((Value.none::(placesWithHash es.size (fun i=>es[i]?.map (·.hash)) h0).filterMap (fun i=>es[i]?.map (·.key))).all carriedByValue)=true:=by
   intro hc;rw [Zp1] at hc;obtain ⟨v,hv⟩:=List.exists_mem_of_ne_nil _ hz;obtain ⟨k',b,rfl,_⟩:=hst v hv;have:=hc _ (Ze _ hv);cases this
  have hone:¬(((placesWithHash es.size (fun i=>es[i]?.map (·.hash)) h0).filterMap (fun i=>es[i]?.map (·.key))) == [Value.none])=true:=by
   intro hc;rw [beq_iff_eq] at hc;obtain ⟨k',b,e,_⟩:=hst .none (by rw [hc];exact Zo1.mpr rfl);cases e
  rw [if_neg hall,if_neg hone];refine wpAny_bind (zca hst ?_);rw [if_neg (by simp)];refine wpAny_bind ?_;refine wpAny_forIn_list _ (fun rest b s'=>s'=s/\b=(none,none)) _ ?_ ?_ _ _ ⟨rfl,rfl⟩
  ·rintro i rest b s' ⟨rfl,rfl⟩
   cases hei:es[i]? with
   | none=>exact wpAny_pure ⟨rfl,rfl⟩
   | some e =>
    obtain ⟨x,hx,rfl⟩:=hmem e (Array.mem_of_getElem? hei);obtain ⟨items,hit⟩:=ht x hx;dsimp only;by_cases hh:((entryOfKey knd x).hash==h0)=true
    ·rw [if_pos hh]
     refine wpAny_bind (wpAny_dictEpoch ho hd (wpAny_bind (SeqAt.EqAt.tuple_none hit hu prog w E _ (wpAny_bind (wpAny_dictEpoch ho hd ?_)))));show wpAny _ _ (if (ep != ep)=true then _ else _) _ E _;rw [if_neg (by simp)];simp only [Bool.false_eq_true,if_false];refine wpAny_bind (wpAny_rule ?_)
     first|rw [if_neg (by simp)]|skip
     first
      | exact wpAny_pure ⟨rfl,rfl⟩
      | exact wpAny_bind (wpAny_pure (wpAny_pure ⟨rfl,rfl⟩))
    ·rw [if_neg hh]
     exact wpAny_pure ⟨rfl,rfl⟩
  ·rintro b s' ⟨rfl,rfl⟩
   exact wpAny_pure hnone
end
section
variable {prog:Program}{w:World}{K:Type} [DecidableEq K] {knd:HeapKind prog w K}{A:Around}{E:Value->Shared->Prop}{s:Shared}{d:Addr}{xs:List (K×Addr×Value)}
theorem zdk {Q:Option Value->Shared->Prop}(hu:A.units < cLine) (hm:s.heap.DictOfH knd d xs) (ht:∀x∈xs,∃items,s.heap.IsTuple x.2.1 items)
  (h:Q none { s with toks:=s.toks+1 }):wpAny (model prog w) A (dictGet d .none) Q E s:=by
 obtain ⟨o,es,ep,ho,_,hd,he,his,hn⟩:=hm;unfold dictGet
 try with_reducible refine wpAny_holding ?_
 refine wpAny_bind (zdK (wpAny_bind (zc8 (knd:=knd) (s:={ s with toks:=s.toks+1 }) hu ho hd he his ht ?_)));exact wpAny_pure h
theorem zgf {Q:Value->Shared->Prop}(hu:A.in1.units < cLine) (hd:(d==sysModules)=false) (hm:s.heap.DictOfH knd d xs) (ht:∀x∈xs,∃items,s.heap.IsTuple x.2.1 items)
  (h:Q (.bool false) { s with toks:=s.toks+1 }):wpAny (model prog w) A (compareOp .In .none (.ref d)) Q E s:=by
 show wpAny _ _ (do return .bool (<- contains (.ref d) .none)) Q E s;refine wpAny_bind ?_;unfold contains
 try with_reducible refine wpAny_holding ?_
 refine wpAny_bind (wpAny_specialOf hm.typeIs slot_dict_contains.lookup ?_);show wpAny _ _ (if (some (Value.builtin "dict.__contains__")==some Value.none)=true then _ else _) _ E s;rw [if_neg (by rw [beq_builtin_none];exact Zl)];refine wpAny_bind (wpAny_callSpecialUnlessNone?_slot (name:=Str.ofString "__contains__") hm.typeIs slot_dict_contains
  (wpAny_call_entry slot_dict_contains hm.typeIs entry_dict_contains ?_ (args_dict_contains _ _)))
 show wpAny _ _ (dictGet d .none >>= _) _ _ s;refine wpAny_bind (zdk hu hm ht ?_);show wpAny _ _ (Builtin.Dict.pendingKey? d .none >>= _) _ _ _;exact wpAny_bind (wpAny_pendingKey_other hd (wpAny_pure ⟨_,rfl,wpAny_truthy_bool (wpAny_pure h)⟩))
end
end PySem
namespace L2
open PySem PySem.Spec
def zma:List PV->Option (List Key)
 | []=>some []
 | p::ps=>(keyP p).bind fun k=>(zma ps).map fun r=>k::r
def znj:PV->Option (List Key)
 | .tup ps=>zma ps
 | _=>none
theorem zjy {U:AS}{H:Hp}:∀{ps:List PV}{vs:List V}{ks:List Key},Reps U H ps vs->zma ps=some ks->vs=ks.map kV
 | [],vs,ks,h,e=>by cases e;rw [zam.mp h];rfl
 | p::ps,vs,ks,h,e=>by
  obtain ⟨v,r,rfl,h1,h2⟩:=zah.mp h;obtain ⟨k,hk,e⟩:=Za.mp e;obtain ⟨r',hr,rfl⟩:=Zb.mp e;have e1:v=kV k:=by
   cases p<;>simp only [keyP] at hk<;>first|cases hk|skip
   ·exact zaT.mp h1
   ·exact za5.mp h1
  rw [e1,zjy h2 hr];rfl
theorem zgl {U:AS}{H:Hp}{p:PV}{v:V}{k:List Key}(h:Bor U H p v) (hk:znj p=some k):∃b,v=.ref b/\H b=some (.tup (k.map kV)):=by
 cases p with
 | tup ps =>
  obtain ⟨b,xs,rfl,hb,hr⟩:=zaS.mp (show Rep U H (.tup ps) v from h);rw [zjy hr hk] at hb;exact ⟨b,rfl,hb⟩
 | _=>cases hk
def valT:List (List Key×PV)->List Key->Option PV
 | [],_=>none
 | (k,p)::ks,x=>if k=x then some p else valT ks x
theorem zjY (k:List Key) (v:V) (r:List (List Key×V)) (x:List Key):valV ((k,v)::r) x=if k=x then some v else valV r x:=by
 unfold valV;rw [List.find?_cons];by_cases h:k=x
 ·simp [h]
 ·simp [h]
theorem RepT.val {U:AS}{H:Hp}:∀{ks:List (List Key×PV)}{kvs:List (List Key×V)},RepT U H ks kvs -> ∀x,(valT ks x=none/\valV kvs x=none) \/ ∃p v,valT ks x=some p/\valV kvs x=some v/\Rep U H p v
 | [],kvs,h,x=>by rw [zbR.mp h];exact .inl ⟨rfl,rfl⟩
 | (k,p)::ks,kvs,h,x=>by
  obtain ⟨v,r,rfl,h1,h2⟩:=za6.mp h;rw [zjY];show ((if k=x then some p else valT ks x)=none/\_) \/ ∃p' v',(if k=x then some p else valT ks x)=some p' /\ _;by_cases hx:k=x
  ·simp only [hx,if_true]
   exact .inr ⟨p,v,rfl,rfl,h1⟩
  ·simp only [hx,if_false]
   exact RepT.val h2 x
def putT (ks:List (List Key×PV)) (k:List Key) (v:PV):List (List Key×PV):=if (ks.any fun kv=>decide (kv.1=k))=true then ks.map (fun kv=>if kv.1=k then (kv.1,v) else kv) else ks++[(k,v)]
section
variable {U:AS}{H:Hp}
theorem RepT.length:∀{ks:List (List Key×PV)}{xs:List (List Key×V)},RepT U H ks xs->xs.length=ks.length
 | [],xs,h=>by rw [zbR.mp h];rfl
 | k::ks,xs,h=>by
  obtain ⟨v,r,rfl,_,h2⟩:=za6.mp h;simp [RepT.length h2]
theorem RepT.any (k:List Key):∀{ks:List (List Key×PV)}{xs:List (List Key×V)},RepT U H ks xs->(xs.any fun kv=>decide (kv.1=k))=ks.any fun kv=>decide (kv.1=k)
 | [],xs,h=>by rw [zbR.mp h];rfl
 | kp::ks,xs,h=>by
  obtain ⟨v,r,rfl,_,h2⟩:=za6.mp h;rw [List.any_cons,List.any_cons,RepT.any k h2]
theorem RepT.repl (k:List Key) {p:PV}{v:V}(hp:Rep U H p v):∀{ks:List (List Key×PV)}{xs:List (List Key×V)},RepT U H ks xs->RepT U H (ks.map fun kv=>if kv.1=k then (kv.1,p) else kv) (xs.map fun kv=>if kv.1=k then (kv.1,v) else kv)
 | [],xs,h=>by rw [zbR.mp h];exact zbR.mpr rfl
 | kp::ks,xs,h=>by
  obtain ⟨u,r,rfl,h1,h2⟩:=za6.mp h;rw [Zh,Zh];by_cases e:kp.1=k
  ·simp only [e,if_true]
   exact za6.mpr ⟨v,_,rfl,hp,RepT.repl k hp h2⟩
  ·simp only [e,if_false]
   exact za6.mpr ⟨u,_,rfl,h1,RepT.repl k hp h2⟩
theorem RepT.snoc (k:List Key) {p:PV}{v:V}(hp:Rep U H p v):∀{ks:List (List Key×PV)}{xs:List (List Key×V)},RepT U H ks xs->RepT U H (ks++[(k,p)]) (xs++[(k,v)])
 | [],xs,h=>by rw [zbR.mp h];exact za6.mpr ⟨v,[],rfl,hp,zbR.mpr rfl⟩
 | kp::ks,xs,h=>by
  obtain ⟨u,r,rfl,h1,h2⟩:=za6.mp h;exact za6.mpr ⟨u,_,rfl,h1,RepT.snoc k hp h2⟩
theorem RepT.put (k:List Key) {p:PV}{v:V}(hp:Rep U H p v) {ks:List (List Key×PV)}{xs:List (List Key×V)}(h:RepT U H ks xs):RepT U H (putT ks k p) (putK xs k v):=by
 unfold putT putK;rw [h.any k];split
 ·exact h.repl k hp
 ·exact h.snoc k hp
end
theorem zxf {X:Cx}{pins:List (Addr×Obj)}{σ:St}{H:Hp}{s:Shared}{a:Addr}{A:Around}{E:Value->Shared->Prop}{kvs:List (List Key×V)}{Q:Value->Shared->Prop}(hu:A.units+1 < cLine) (I:Inv X pins σ H s) (e:H a=some (.dT kvs)) (h:∀s',Inv X pins σ H s' -> Q (.bool false) s') :
  wpAny (model X.prog X.w) A (compareOp .In .none (.ref a)) Q E s:=by
 obtain ⟨z,hd,xs,rel,dd⟩:=zoh I.hok e;obtain ⟨o,es,ep,ho,hc,hdd,he,his,hn⟩:=dd;refine zgf (knd:=tupleKind (zaE X.prog X.w)) (show A.in1.units < cLine from tupleKind_room_in1 (knd:=zaE X.prog X.w) hu) hd ⟨o,es,ep,ho,hc,hdd,he,his,hn⟩ (fun x hx=>?_) (h _ (I.tok _));obtain ⟨o',its,n,h1,h2,h3,_⟩:=his x hx;exact ⟨its,o',h1,h2,n,h3⟩
def zxL (H:Hp) (a:Addr) (y:V) (r:Option V):Prop:=DGet H a y r \/ ∃kvs,H a=some (.dT kvs)/\y=.non/\r=none
def zsK (ty td:TE):TE:=fun σ H Q=>ty σ H fun y H1=>td σ H1 fun x H2=>∃a o,x=.ref a/\zxL H2 a y o/\Q (.bl o.isSome) H2
theorem zqV {X:Cx}{i o:Expr}{td ty:TE}(hu:X.A.units+1 < cLine) (hi:PE X i ty) (ho:PE X o td):PC X .In i o (zsK ty td):=by
 intro pins s σ H Q I h;refine thn (hi pins s σ H _ I h) fun iv s1 ⟨y,H1,I1,ry,q1⟩=>thn (ho pins s1 σ H1 _ I1 q1) fun u s2 ⟨x,H2,I2,rx,a,ov,ex,g,q2⟩=>?_;subst ex;obtain rfl:u=Value.ref a:=rx;rcases g with g|⟨kvs,e,rfl,rfl⟩
 ·exact d_in hu I2 g ry fun s3 I3=>⟨.bl ov.isSome,H2,I3,rfl,q2⟩
 ·obtain rfl:iv=Value.none:=ry
  exact zxf hu I2 e fun s3 I3=>⟨.bl false,H2,I3,rfl,q2⟩
def pInT:PV->PV->Option PV
 | .non,.dtt _=>some (.bl false)
 | .tup ps,.dtt ks=>(zma ps).map fun k=>.bl (valT ks k).isSome
 | _,_=>none
def zg8 (f g:VX):VX:=x2 pInT f g
theorem zpR {m m':Md}{td ty:TE}{f g:VX}(h:VE m ty f) (hg:VE m' td g):VE .shr (zsK ty td) (zg8 f g):=by
 intro U O H σ ρ Q z s e k;obtain ⟨q,hq,e⟩:=Za.mp e;obtain ⟨p,hp,e⟩:=Za.mp e;refine h.bor U O H σ ρ _ q s hq fun w H1 U1 ex1 r1=>hg.bor U1 O H1 σ ρ _ p (s.ext ex1) hp fun v H2 U2 ex2 r2=>?_;cases p with
 | dtt ks =>
  obtain ⟨a,kvs,rfl,ha,rk⟩:=r2;cases q with
  | non =>
   cases e;have hw:w=.non:=zbB.mp (show Rep U1 H1 .non w from r1);subst hw;exact ⟨a,none,rfl,.inr ⟨kvs,ha,rfl,rfl⟩,k _ H2 U2 (ex1.trans ex2) (repB U2 H2 _)⟩
  | tup ps =>
   obtain ⟨x,hx,rfl⟩:=Zb.mp e;obtain ⟨b,rfl,hb⟩:=zgl (p:=.tup ps) r1 hx;have hb2:=ex2.same _ _ hb;rcases rk.val x with ⟨n1,n2⟩|⟨p,u,e1,e2,ru⟩
   ·refine ⟨a,none,rfl,.inl (.inr ⟨kvs,x,b,.inl ha,rfl,hb2,n2.symm⟩),k _ H2 U2 (ex1.trans ex2) ?_⟩
    rw [n1];exact repB U2 H2 _
   ·refine ⟨a,some u,rfl,.inl (.inr ⟨kvs,x,b,.inl ha,rfl,hb2,e2.symm⟩),k _ H2 U2 (ex1.trans ex2) ?_⟩
    rw [e1];exact repB U2 H2 _
  | _=>cases e
 | _=>cases q<;>cases e
def zeu (i:Nat) (fk fv:VX):VF:=fun ρ=>(fv ρ).bind fun q=>(fk ρ).bind fun y=>(znj y).bind fun k=>wr i (fun p=>match p with
 | .dtt ks=>if zaL ks.length then some (.dtt (putT ks k q)) else none
 | _=>none) ρ
theorem zm3 {m:Md}{i:Nat}{ty tv:TE}{fk fv:VX}(hk:VE m ty fk) (hv:VE .shr tv fv):VS (zqh (tVar i) ty tv) (zeu i fk fv):=by
 intro U O H σ ρ D o s e q;obtain ⟨z,hz,e⟩:=Za.mp e;obtain ⟨y,hy,e⟩:=Za.mp e;obtain ⟨k,hk',e⟩:=Za.mp e;obtain ⟨p,p',hp,hg,rfl⟩:=zes e;obtain ⟨v,hv',a,rfl,oa,tp⟩:=s.slot i p .own hp;cases p with
 | dtt ks =>
  obtain ⟨hs,rfl⟩:=zaD hg;refine hv U O H σ ρ _ z s hz fun u H1 U1 ex1 r1=>⟨.ref a,hv',?_⟩
  have s1:=s.ext ex1;refine hk.bor U1 O H1 σ ρ _ y s1 hy fun x H2 U2 ex2 r2=>?_;have s2:=s1.ext ex2;obtain ⟨b,rfl,hb⟩:=zgl r2 hk';obtain ⟨kvs,hx,rx⟩:=tp;have hx2:=ex2.same _ _ (ex1.same _ _ hx);have rx2:=RepT.keeps (ex1.trans ex2).keeps _ _ rx;have k0:=zdD (u':=.dT (putK kvs k u)) s2 oa hx2 (fun _ z=>nomatch z);obtain ⟨s3,t3,_⟩:=s2.write (p':=.dtt (putT ks k z)) (u:=.dT (putK kvs k u)) hp hv' (fun _ z=>nomatch z) ⟨_,zaf,RepT.put k (Rep.keeps k0 _ _ (Rep.keeps ex2.keeps _ _ r1)) (RepT.keeps k0 _ _ rx2)⟩;exact ⟨a,_,rfl,.t hx2 hb (by rw [rx.length];exact zeo hs),q U2 O _ σ s3 ((ex1.trans ex2).tr.trans t3)⟩
 | _=>cases hg
end L2
namespace PySem
open PySem.Spec
section
variable {prog:Program}{w:World}{K:Type} [DecidableEq K] {knd:HeapKind prog w K}{A:Around}{E:Value->Shared->Prop}{s:Shared}{env:Env}
theorem zft {k v:Expr}{pos:Pos}{Q:Value->Shared->Prop}(hu:knd.room A)
  (h:wpAny (model prog w) A (eval k env) (fun kv s₁=>wpAny (model prog w) A (eval v env) (fun vv s₂=>∃a kk,kv=.ref a/\knd.is s₂.heap kk a/\s₂.heap.DictOfH knd s.heap.objs.size [] /\
   ∀h',h'.DictOfH knd s.heap.objs.size (storedH [] kk a vv)->Heap.SameBut s.heap.objs.size s₂.heap h' -> Q (.ref s.heap.objs.size) { s₂ with heap:=h',toks:=s₂.toks+knd.draws kk }) E s₁) E
   { s with heap:=s.heap.push { cls:=.type "dict",data:=.dict #[] } }) :
  wpAny (model prog w) A (eval (.Dict [some k] [v] pos) env) Q E s:=by
 have hn:=pairTrees_length [some k] [v] env pos rfl rfl;rw [arm_eval_Dict,zip_pairTrees [some k] [v] env pos rfl rfl,dictDisplay_pairs _ (by intro he;rw [he] at hn;cases hn) (by rw [hn];exact Nat.lt_of_sub_pos (by simp))];refine wpAny_bind (wpAny_standAt (wpAny_bind ?_));unfold subDict;refine wpAny_bind (wpAny_alloc ?_);refine wpAny_bind (wpAny_holding ?_);rw [if_pos (by rw [hn];simp)];refine wpAny_bind (pairTrees_cons_walk (wpAny_mono h (fun kv s₁ h₁=>wpAny_mono h₁ (fun vv s₂ h₂=>pairTrees_nil_walk ?_) fun _ _ e=>e) fun _ _ e=>e));obtain ⟨a,kk,rfl,hk,hm,hQ⟩:=h₂;refine wpAny_holding ?_;refine wpAny_bind ?_;rw [List.forIn_cons];refine wpAny_bind (wpAny_bind (wpAny_dictSet_heap hu hk hm (fun h' a b=>wpAny_pure ?_) (by simp)));show wpAny _ _ (forIn [] _ _) _ _ _;rw [List.forIn_nil];exact wpAny_pure (wpAny_pure (wpAny_pure (wpAny_pure (hQ h' a b))))
end
end PySem
namespace L2
open PySem PySem.Spec
def zoG (tk tv:TE):TE:=fun σ H Q=>∀p,H p=none->tk σ (upd H p (.dT [])) fun x H1=>tv σ H1 fun y H2=>H2 p=some (.dT []) /\ ∃b k,x=.ref b/\H2 b=some (.tup (k.map kV))/\Q (.ref p) (upd H2 p (.dT [(k,y)]))
theorem znO {X:Cx}{pos:Pos}{a b:Expr}{tk tv:TE}(hu:X.A.units < cLine) (hk:PE X a tk) (hv:PE X b tv):PE X (.Dict [some a] [b] pos) (zoG tk tv):=by
 intro pins s σ H Q I q;have hn:=I.hok.fresh (Nat.le_refl s.heap.objs.size);have I1:=I.laid (a:=s.heap.objs.size) (o:=.dT []) (h':=s.heap.push { cls:=.type "dict",data:=.dict #[] }) (t':=s.toks) (fun _ _ q=>Heap.get?_push_of_some _ q) (Nat.le_refl _) (zoi s.heap I.big);refine zft (knd:=tupleKind (zaE X.prog X.w)) hu (thn (hk pins _ σ _ _ I1 (q _ hn)) fun kv s1 ⟨x,H1,I2,rx,q1⟩=>thn (hv pins s1 σ H1 _ I2 q1) fun vv s2 ⟨y,H2,I3,ry,e,b,k,ex,eb,q2⟩=>?_);subst ex;obtain rfl:kv=Value.ref b:=rx;obtain ⟨z,hd,xs,rel,dd⟩:=zoh I3.hok e;have rel0:=rel;cases rel;refine ⟨b,k,rfl,zf2 I3.hok eb,dd,fun h' dd' hs=>⟨.ref s.heap.objs.size,_,?_,rfl,q2⟩⟩;obtain ⟨q',es,ep,hq,h2,h3,h4,_,h5⟩:=dd';refine zgZ I3 (by rw [e];exact True.intro) hs ⟨q',hq⟩ ⟨by rw [sizeLine_eq];simp,hd,_,(KT.put rel0 k eb ry).keeps fun c ys ec=>?_,q',es,ep,hq,h2,h3,h4,h5⟩;rw [zac (zkn ec e (fun z=>nomatch z))];exact ec
def zi2 (fk fv:VX):VX:=fun ρ=>(fk ρ).bind fun y=>(fv ρ).bind fun q=>(znj y).map fun k=>.dtt [(k,q)]
theorem zm7 {m:Md}{tk tv:TE}{fk fv:VX}(hk:VE m tk fk) (hv:VE .shr tv fv):VE .fr (zoG tk tv) (zi2 fk fv):=by
 intro U O H σ ρ Q z s e k;obtain ⟨y,hy,e⟩:=Za.mp e;obtain ⟨q,hq,e⟩:=Za.mp e;obtain ⟨x,hx,rfl⟩:=Zb.mp e;intro p hp;have ex0:Ext U H U (upd H p (.dT [])):=.laid s.dU hp;have s0:=s.ext ex0;refine hk.bor U O _ σ ρ _ y s0 hy fun v H1 U1 ex1 r1=>hv U1 O H1 σ ρ _ q (s0.ext ex1) hq fun u H2 U2 ex2 r2=>?_;obtain ⟨b,rfl,hb⟩:=zgl r1 hx;have hb2:=ex2.same _ _ hb;have e02:=ex0.trans (ex1.trans ex2);have hp2:H2 p=some (.dT []):=ex2.same _ _ (ex1.same _ _ zaf);have hpU:¬U2 p:=fun h=>by
  rcases ex2.new p h with h|h
  ·rcases ex1.new p h with h|h
   ·exact s.dU p h hp
   ·rw [zaf] at h;cases h
  ·rw [ex1.same _ _ zaf] at h;cases h
 have hne:∀b,U2 b->b≠p:=fun b hb z=>hpU (z ▸ hb);have ex3:Ext U H U2 (upd H2 p (.dT [(x,u)])):=by
  refine ⟨fun b o hb=>?_,e02.mono,e02.new,fun b hb=>?_⟩
  ·rw [zac (zaw hb hp)];exact e02.same b o hb
  ·rw [zac (hne b hb)];exact e02.dU b hb
 have kp:Keeps U2 H2 U2 (upd H2 p (.dT [(x,u)])):=by
  refine ⟨fun _ h=>h,fun b ys ub hb=>?_,fun b ys ub hb=>?_,fun b ys ub hb=>?_,fun b ys hb=>?_⟩
  ·rw [zac (hne b ub)];exact hb
  ·rcases hb with hb|⟨oo,hb⟩
   ·exact .inl (by rw [zac (hne b ub)];exact hb)
   ·exact .inr ⟨oo,by rw [zac (hne b ub)];exact hb⟩
  ·rcases hb with hb|⟨oo,hb⟩
   ·exact .inl (by rw [zac (hne b ub)];exact hb)
   ·exact .inr ⟨oo,by rw [zac (hne b ub)];exact hb⟩
  ·rw [zac (zkn hb hp2 (fun z=>nomatch z))];exact hb
 exact ⟨hp2,b,x,rfl,hb2,k _ _ U2 ex3 ⟨p,rfl,hp,hpU,_,zaf,za6.mpr ⟨u,[],rfl,Rep.keeps kp _ _ r2,zbR.mpr rfl⟩⟩⟩
section
variable {X:Cx}{k:Nat}{a b:Expr}{p ap pos:Pos}{f g:VX}{ma mb m:Md}{x:Str}{i:Nat}
theorem zoQ (hr:Room k X.A) (ha:QE X ma a f) (hb:QE X .shr b g):QE X .fr (.Dict [some a] [b] p) (zi2 f g):=by
 obtain ⟨_,a1,a2⟩:=ha.h;obtain ⟨_,b1,b2⟩:=hb.h;exact ⟨_,znO (by have:=zd7 hr;omega) a1 b1,zm7 a2 b2⟩
theorem ztn (hr:Room k X.A) (ha:QE X ma a f) (hb:QE X mb b g) (hm:behindInMarks .In b=false):QT X (.Compare a [.In] [b] p) (bOf (zg8 f g)):=by
 obtain ⟨_,a1,a2⟩:=ha.h;obtain ⟨_,b1,b2⟩:=hb.h;exact ⟨_,zhC (zqV (zd7 hr) a1 b1) hm,zet (zpR a2 b2)⟩
theorem ztt (hr:Room k X.A) (q:PE X (.Name x p) (tVar i)) (hk:QE X m b g) (ha:QE X .shr a f) (hs:swapsWith a (some (.Subscript (.Name x p) b ap)) pos.line X.env=pure false:=by rfl):QS X (.Assign [.Subscript (.Name x p) b ap] a pos) (zeu i g f):=by
 obtain ⟨_,a1,a2⟩:=ha.h;obtain ⟨_,b1,b2⟩:=hk.h;exact ⟨_,zlu (zd7 hr) q b1 a1 hs,zm3 b2 a2⟩
end
end L2
namespace PySem
open PySem.Spec
def Heap.DictX (h:Heap) (d:Addr) (es:Array DictEntry) (ep:Nat):Prop:=∃o,h.get? d=some o/\o.ExactDict/\o.data=.dict es ep
section
variable {prog:Program}{w:World}{A:Around}{E:Value->Shared->Prop}{s:Shared}{d:Addr}{es:Array DictEntry}{ep:Nat}
theorem Heap.DictX.typeIs (hm:s.heap.DictX d es ep):s.TypeIs (.ref d) "dict":=let ⟨o,ho,hc,_⟩:=hm;⟨o,ho,hc.1⟩
theorem Heap.DictX.lt_size {h:Heap}(hm:h.DictX d es ep):d < h.objs.size:=let ⟨_,ho,_⟩:=hm;Heap.lt_size ho
theorem Heap.DictX.at' {h h':Heap}(x:h.DictX d es ep) (e:∀o,h.get? d=some o->h'.get? d=some o):h'.DictX d es ep:=let ⟨o,ho,r⟩:=x;⟨o,e _ ho,r⟩
theorem zhB {Q:Value->Shared->Prop}(hd:(d==sysModules)=false) (hm:s.heap.DictX d es ep)
  (hQ:Q (.ref s.heap.objs.size) { s with heap:=s.heap.push { cls:=.type "dict_keyiterator",data:=.fields #[.ref d,.int 0 0,.int es.size 0,.int ep 0] } }) :
  wpAny (model prog w) A (pyIter (.ref d)) Q E s:=by
 have hT:=hm.typeIs;obtain ⟨o,ho,hc,hdat⟩:=id hm;refine wpAny_pyIter_slot hT F.slot_dict_iter (wpAny_call_entry F.slot_dict_iter hT F.entry_dict_iter ?_ (F.args_dict_iter_1 _));unfold Builtin.«dict.__iter__»;refine wpAny_bind ?_;unfold Builtin.Dict.dictSlotNone;refine wpAny_bind (wpAny_notOrdered_dict hT ?_);show wpAny _ _ (pure (Value.ref d)) _ _ s;refine wpAny_pure ?_;show wpAny _ _ (Builtin.Dict.showsAll d >>= _) _ _ s;unfold Builtin.Dict.showsAll;rw [if_neg (by rw [hd];exact Zl)];refine wpAny_bind (wpAny_pure ?_);refine wpAny_bind (wpAny_dictEntries ho hdat ?_);refine wpAny_bind (wpAny_dictEpoch ho hdat ?_);refine wpAny_bind (wpAny_newObj_type (wpAny_pure ⟨_,rfl,"dict_keyiterator",_,⟨_,Heap.get?_push_size _ rfl,rfl⟩,F.slot_dict_keyiterator_next.lookup,?_⟩));simpa [rawInt] using hQ
theorem zhA {it:Addr}{i:Nat}{Q:Option Value->Shared->Prop}(hit:s.heap.IsKeyIter it d i es.size ep)
  (hm:s.heap.DictX d es ep) (hlt':i < es.size)
  (hQ:∀h',h'.IsKeyIter it d (i+1) es.size ep->Heap.SameBut it s.heap h' -> Q (some es[i].key) { s with heap:=h' }) :
  wpAny (model prog w) A (pyNext (.ref it)) Q E s:=by
 obtain ⟨o,ho,hc,hd⟩:=id hit;obtain ⟨od,hod,hcd,hdd⟩:=id hm;unfold pyNext;refine wpAny_bind (wpAny_attempt (wpAny_callSpecial?_slot (name:=Str.ofString "__next__") hit.typeIs F.slot_dict_keyiterator_next
  (wpAny_call_entry F.slot_dict_keyiterator_next hit.typeIs F.entry_dict_keyiterator_next ?_ (F.args_dict_keyiterator_next_1 _))))
 refine wpAny_bind (wpAny_pure ?_);refine wpAny_bind ?_;refine wpAny_bind ?_
 first|refine wpAny_bind (wpAny_typeNameOfWhole_keyiter hit.typeIs (wpAny_pure ?_))|refine wpAny_bind (wpAny_typeNameOf_keyiter hit.typeIs (wpAny_pure ?_))
 refine wpAny_bind (wpAny_fieldsOf ho hd ?_);have hown:Builtin.Dict_items.ownsTuple "dict_keyiterator" = false:=by decide
 simp only [hown,Bool.false_eq_true,if_false];show wpAny _ _ (if (Value.ref d==Value.none)=true then _ else _) _ _ s;rw [if_neg (show ¬((Value.ref d==Value.none)=true) from Zl)];refine wpAny_bind (wpAny_pure ?_);refine wpAny_bind (wpAny_dictEntries hod hdd ?_);rw [if_neg (by simp)];refine wpAny_bind (wpAny_pure ?_);refine wpAny_bind (wpAny_dictEpoch hod hdd ?_);rw [if_neg (by simp)];refine wpAny_pure ?_;simp only [show ¬((i:Int) < 0) from by omega,if_false,Zv,Array.getElem?_eq_getElem hlt'];refine wpAny_bind ?_
 first|refine wpAny_bind (wpAny_typeNameOfWhole_keyiter hit.typeIs (wpAny_pure ?_))|refine wpAny_bind (wpAny_typeNameOf_keyiter hit.typeIs (wpAny_pure ?_))
 refine wpAny_bind (wpAny_isOneOf_keyiter hit.typeIs ?_);show wpAny _ _ (setField (.ref it) 1 (rawInt ((i:Int) + 1)) >>= _) _ _ s;refine wpAny_bind (wpAny_setField ho hd (by simp) ?_);have hit':(s.heap.update it (Obj.mapFields (·.setIfInBounds 1 (rawInt ((i:Int) + 1))))).IsKeyIter it d (i+1) es.size ep :=
  ⟨_,Heap.get?_update_self _ ho (Obj.isFreed_of_fields (Obj.data_mapFields hd _)),(Obj.cls_mapFields ..).trans hc,by rw [Obj.data_mapFields hd];simp [rawInt]⟩
 refine wpAny_bind (wpAny_holding ?_);refine wpAny_bind (wpAny_isOneOf_keyiter (s:={ s with heap:=s.heap.update it (Obj.mapFields (·.setIfInBounds 1 (rawInt ((i:Int) + 1)))) }) hit'.typeIs ?_);show wpAny _ _ (pure es[i].key) _ _ _;exact wpAny_pure (wpAny_pure ⟨_,rfl,wpAny_pure (hQ _ hit' (Heap.SameBut.update ..))⟩)
theorem ziC {it:Addr}{i:Nat}{Q:Option Value->Shared->Prop}(hh:A.handled=none) (hit:s.heap.IsKeyIter it d i es.size ep)
  (hm:s.heap.DictX d es ep) (hge:es.size<=i)
  (hQ:∀h',Heap.ExtBut it s.heap h' -> Q none { s with heap:=h' }):wpAny (model prog w) A (pyNext (.ref it)) Q E s:=by
 obtain ⟨o,ho,hc,hd⟩:=id hit;obtain ⟨od,hod,hcd,hdd⟩:=id hm;unfold pyNext;refine wpAny_bind (wpAny_attempt (wpAny_callSpecial?_slot (name:=Str.ofString "__next__") hit.typeIs F.slot_dict_keyiterator_next
  (wpAny_call_entry F.slot_dict_keyiterator_next hit.typeIs F.entry_dict_keyiterator_next ?_ (F.args_dict_keyiterator_next_1 _))))
 refine wpAny_bind (wpAny_pure ?_);refine wpAny_bind ?_;refine wpAny_bind ?_
 first|refine wpAny_bind (wpAny_typeNameOfWhole_keyiter hit.typeIs (wpAny_pure ?_))|refine wpAny_bind (wpAny_typeNameOf_keyiter hit.typeIs (wpAny_pure ?_))
 refine wpAny_bind (wpAny_fieldsOf ho hd ?_);have hown:Builtin.Dict_items.ownsTuple "dict_keyiterator" = false:=by decide
 simp only [hown,Bool.false_eq_true,if_false];show wpAny _ _ (if (Value.ref d==Value.none)=true then _ else _) _ _ s;rw [if_neg (show ¬((Value.ref d==Value.none)=true) from Zl)];refine wpAny_bind (wpAny_pure ?_);refine wpAny_bind (wpAny_dictEntries hod hdd ?_);rw [if_neg (by simp)];refine wpAny_bind (wpAny_pure ?_);refine wpAny_bind (wpAny_dictEpoch hod hdd ?_);rw [if_neg (by simp)];refine wpAny_pure ?_;simp only [show ¬((i:Int) < 0) from by omega,if_false,Zv,Array.getElem?_eq_none hge];refine wpAny_bind ?_
 first|refine wpAny_bind (wpAny_typeNameOfWhole_keyiter hit.typeIs (wpAny_pure ?_))|refine wpAny_bind (wpAny_typeNameOf_keyiter hit.typeIs (wpAny_pure ?_))
 show wpAny _ _ (setField (.ref it) 0 .none >>= _) _ _ s;refine wpAny_bind (wpAny_setField ho hd (by simp) ?_);show wpAny _ _ (newExc (.type "StopIteration") [] >>= _) _ _ _;refine wpAny_bind ?_;simp only [newExc,newTuple];refine wpAny_bind (wpAny_newObj_type ?_ (by size_fits));refine wpAny_bind (m:=firstArgMember _ _) (wpAny_of_eq (a:=Value.none) (by first|rfl|(simp only [firstArgMember];rfl)) ?_);refine wpAny_newObj_type ?_ (by size_fits);simp only [raiseNew];refine wpAny_bind (wpAny_handled ?_);rw [show A.in1.handled=none from hh];refine wpAny_bind (wpAny_pure (wpAny_throw ?_));refine wpAny_bind (wpAny_isInstance (T:="StopIteration") (b:=true) ⟨_,Heap.get?_push_size _ rfl,rfl⟩ isSubtype_stop ?_);exact wpAny_pure (hQ _ (((Heap.SameBut.update ..).extBut.push _).push _))
theorem zr5 (hh:A.handled=none) (I d:Addr) (hne:d≠I) (es:Array DictEntry) (ep:Nat) :
  Walks prog w A I [I,d] [I] es.size (fun i v=>∃e,es[i]?=some e/\e.key=v) (fun i h=>h.IsKeyIter I d i es.size ep/\h.DictX d es ep) where
 sub:=fun b hb=>by simp at hb;simp [hb]
 frame:=fun _ _ _ st hk=>⟨st.1.at fun o e=>hk I (by simp) o e,st.2.at' fun o e=>hk d (by simp) o e⟩
 item:=fun i s Q E hi st hQ=>by
  refine zhA st.1 st.2 hi fun h' hit' hs'=>?_;exact hQ es[i].key h' s.toks ⟨es[i],Array.getElem?_eq_getElem hi,rfl⟩ ⟨hit',st.2.at' fun o e=>hs'.extBut d o hne e⟩ fun b o hb e=>hs'.extBut b o (fun h=>hb (by simp [h])) e
 done:=fun s Q E st hQ=>ziC hh st.1 st.2 (Nat.le_refl _) fun h' he'=>hQ h' s.toks fun b o hb e=>he' b o (fun h=>hb (by simp [h])) e
 self:=fun _ _ _ _ st hQ=>wpAny_pyIter_keyiter st.1 hQ
open PySem.W in
theorem zmd (lo:(d==sysModules)=false):KdlSrc prog w "dict" d d es.size (fun i v=>∃e,es[i]?=some e/\e.key=v) (fun h=>h.DictX d es ep) where
 type:=fun _ hm=>hm.typeIs
 there:=fun _ hm=>⟨hm.lt_size,hm.lt_size⟩
 keep:=fun _ _ hm hk=>hm.at' fun o e=>hk d (.inl rfl) o e
 notList:=by decide
 notTuple:=by decide
 hint:=fun _ _ _ _ hm hq=>kdl_hint_dict hm.typeIs hq
 iter:=fun _ _ hh hm=>⟨_,_,(fun _ _ hq=>zhB lo hm hq),zr5 hh _ d (Nat.ne_of_lt hm.lt_size) es ep,⟨⟨_,Heap.get?_push_size _ rfl,rfl,rfl⟩,hm.at' fun o e=>Heap.get?_push_of_some _ e⟩⟩
end
end PySem
namespace L2
open PySem PySem.Spec PyProof.Rows PySem.W
section
variable {prog:Program}{w:World}{A:Around}{E:Value->Shared->Prop}{s:Shared}{a:Addr}{vs:List Value}
theorem zfJ {κ:SortKind}{n:Nat}{lt:Nat->Nat->Bool}{P:PySem.Fin->Shared->Prop}(ho:s.heap.get? a=some (seqObj "list" vs.toArray n)) (h64:vs.length < 64)
  (hkind:2<=vs.length -> ∀Q:SortKind->Shared->Prop,Q κ { s with heap:=h3of s.heap a vs }->wpAny (model prog w) A (keyKind' vs.toArray) Q E { s with heap:=h3of s.heap a vs })
  (hlt:∀i j,i < vs.length->j < vs.length -> ∀C:Bool->Shared->Prop,C (lt i j) { s with heap:=h3of s.heap a vs }->wpAny (model prog w) A (keyLt' κ (vs.getD i Value.none) (vs.getD j Value.none)) C (fun _ _=>False) { s with heap:=h3of s.heap a vs })
  (h:P (.done (.ret .none)) { s with heap:=sortedHeap s.heap a vs (List.toArray ((zew lt vs.length).map fun i=>vs.getD i Value.none)) }) :
  wpAny (model prog w) A (Builtin.«list.sort» ⟨[.ref a],[]⟩) P E s:=by
 have ha:a < s.heap.objs.size:=Heap.lt_size ho;obtain ⟨e1,ho1⟩:∃e1,(s.heap.update a (Obj.mapSeq fun _=>(#[]:Array Value))).get? a=some (seqObj "list" #[] e1):=⟨_,get?_update_seq ho fun _=>#[]⟩
 have ho6:(h3of s.heap a vs).get? a=some (seqObj "list" #[] e1):=Heap.get?_push_of_some _ (Heap.get?_push_of_some _ ho1);rw [list_sort_plain];refine wpAny_bind (listItems_at ho rfl ?_);refine wpAny_bind (listUpdate_at ho rfl ?_ (by rw [Zm,sizeLine_eq];omega) (Nat.zero_le _));refine wpAny_bind (seqEpoch_at ho1 rfl ?_);refine wpAny_bind (wpAny_newTuple ?_ (by show vs.length<=_;rw [sizeLine_eq];omega));refine wpAny_bind (wpAny_newList ?_ (Nat.zero_le _));refine wpAny_holding ?_;show wpAny (model prog w) A _ P E { s with heap:=h3of s.heap a vs };dsimp only;by_cases h2:vs.length < 2
 ·have hn2:vs.toArray.size < 2:=by rw [Zm];omega
  rw [if_pos hn2,if_pos hn2];refine wpAny_bind (wpAny_pure ?_);rw [StateT.run_pure];refine wpAny_bind (wpAny_pure ?_);dsimp only;have hout:(vs.toArray.zip vs.toArray).map (·.2)=List.toArray ((List.range vs.length).toArray.toList.map fun i=>vs.getD i Value.none):=by
   apply Array.toList_inj.mp;rw [Array.toList_map]
   match vs,h2 with
   | [],_=>simp
   | [v],_=>simp
  refine wpAny_bind (seqEpoch_at ho6 rfl ?_);refine wpAny_bind (listUpdate_at ho6 rfl ?_ (hsz2:=by rw [Array.size_map];show (pairsOf vs).size<=_;rw [pairsOf_size,sizeLine_eq];omega));simp only [bne_self_eq_false,Bool.false_eq_true,if_false];have q:=h;have hix:zew lt vs.length=(List.range vs.length).toArray.toList:=by unfold zew;rw [if_pos h2]
  rw [hix,<- hout] at q;exact wpAny_pure q
 ·have h2:2<=vs.length:=by omega
  have hn2:¬vs.toArray.size < 2:=by rw [Zm];omega
  rw [if_neg hn2,if_neg hn2];refine wpAny_bind (hkind h2 _ ?_);have est:SortSt.mk' κ (vs.toArray.zip vs.toArray) #[] 7 none=kas_st κ (pairsOf vs) (List.toArray (List.range vs.length)):=by
   have e:=kas_range (pairsOf vs);rw [pairsOf_size] at e;show SortSt.mk' κ (pairsOf vs) #[] 7 none=SortSt.mk' κ ((List.toArray (List.range vs.length)).map (kas_item (pairsOf vs))) #[] 7 none;rw [e]
  have ask:(kas_sort vs.length).kasWp (kas_cmp prog w A κ (pairsOf vs)) (fun p s'=>p.toList=zew lt vs.length/\s' = { s with heap:=h3of s.heap a vs }) { s with heap:=h3of s.heap a vs }:=by
   rw [<- kas_ask_eq];have ok:=zjW (n:=vs.length) (by omega);refine zcl.wp (lt:=lt) (J:=fun s'=>s' = { s with heap:=h3of s.heap a vs }) (fun i j hi hj C s' hs' k=>?_) ok rfl fun s' hs'=>⟨by unfold zew;rw [if_neg (by omega)],hs'⟩
   subst hs';exact hlt i j hi hj C (k _ rfl)
  have run:=kas_runs (E:=E) (Q:=fun _ st' s'=>∃p:Array Nat,p.size=vs.length/\arrOf st'=p.map (kas_item (pairsOf vs))/\failedOf st'=none/\p.toList=zew lt vs.length/\s' = { s with heap:=h3of s.heap a vs })
   h2 h64 (fun p' st' s' a1 a2 a3 a4=>⟨p',a1,a2,a3,a4.1,a4.2⟩) ask
  rw [<- est] at run;refine wpAny_bind (wpAny_mono run ?_ fun _ _ e=>e);rintro ⟨⟨⟩,st'⟩ s' ⟨p,hp,har,hf,pr,rfl⟩;dsimp only;have hout:(arrOf st').map (·.2)=List.toArray (p.toList.map fun i=>vs.getD i Value.none):=by
   apply Array.toList_inj.mp;rw [har,Array.map_map,Array.toList_map];exact Ze1 fun i _=>by show (kas_item (pairsOf vs) i).2=_;rw [kas_item_eq]
  have hsz:(List.toArray (p.toList.map fun i=>vs.getD i Value.none)).size=vs.length:=by rw [Zm,Zd,Array.length_toList,hp]
  rw [hout];refine wpAny_bind (seqEpoch_at ho6 rfl ?_);refine wpAny_bind (listUpdate_at ho6 rfl ?_ (Nat.zero_le _) (Nat.le_trans (Nat.le_of_eq hsz) (by rw [sizeLine_eq];omega)));rw [hf];simp only [bne_self_eq_false,Bool.false_eq_true,if_false];rw [pr];exact wpAny_pure h
end
theorem zjA {prog:Program}{w:World}{A:Around}{fin:Bool}{Q:Bool->Shared->Prop}{s:Shared}:∀{ns ms:List Int}{us vs:List Value}(i:Nat),IntsAre us ns->IntsAre vs ms->fin=decide (ns.length < ms.length)->Q (HT.lexLt ns ms) s->KatLex prog w A true fin Q (us.zip vs) i s
 | [],[],_,_,i,.nil,.nil,hf,h=>by subst hf;exact kat_nil h
 | [],m::ms,_,_,i,.nil,.cons _ _ _,hf,h=>by subst hf;exact kat_nil (by simpa [HT.lexLt] using h)
 | n::ns,[],_,_,i,.cons _ _ _,.nil,hf,h=>by subst hf;exact kat_nil (by simpa [HT.lexLt] using h)
 | n::ns,m::ms,_,_,i,.cons _ t hu,.cons _ t' hv,hf,h=>by
  rw [List.zip_cons_cons];refine kat_cons (wpAny_eqBool_int ?_);refine kat_go (fun he=>kat_yes ?_) (fun he=>kat_no ?_)
  ·have:n=m:=by simpa using he
   subst this;exact zjA (i+1) hu hv (by rw [hf];simp) (by simpa [HT.lexLt] using h)
  ·have hne:n≠m:=by simpa using he
   have h':Q (decide (n < m)) s:=by simpa [HT.lexLt,hne] using h
   cases hb:(true&&i==0) with
   | true=>exact kat_lt_int h'
   | false=>exact kat_one _ _ (lt_int h')
section
variable {X:Cx}{H:Hp}
theorem zp0 {a b:Addr}{ns ms:List Int}(ha:H a=some (.tup (ns.map V.int))) (hb:H b=some (.tup (ms.map V.int))) {pins:List (Addr×Obj)}{σ:St}{s:Shared}(I:Inv X pins σ H s) {A:Around}{prog:Program}{w:World}{E:Value->Shared->Prop}{Q:Bool->Shared->Prop}(h:Q (HT.lexLt ns ms) s) :
  wpAny (model prog w) A (keyLt' (tuples' true) (.ref a) (.ref b)) Q E s:=by
 obtain ⟨_,its,rx,ox,ho,hc,n1,hd⟩:=(show za4 X.prog X.w H s.heap a (.tup (ns.map V.int)) from I.hok a _ ha)
 obtain ⟨_,jts,ry,oy,ho2,hc2,n2,hd2⟩:=(show za4 X.prog X.w H s.heap b (.tup (ms.map V.int)) from I.hok b _ hb)
 have lx:=rx.length;have ly:=ry.length;rw [Zd] at lx ly;exact kat_lt ho hd ho2 hd2 (zjA 0 (intsAre_of rx) (intsAre_of ry) (by simp [<- lx,<- ly]) h)
end
theorem zfW {α β:Type}{P:α->β->Prop}:∀{xs:List α}{ys:List β},Paired P xs ys -> ∀{j:Nat}{x:α},xs[j]?=some x -> ∃y,ys[j]?=some y/\P x y
 | _,_,.nil,j,x,h=>by simp at h
 | _,_,.cons h t,0,x,e=>by cases e;exact ⟨_,rfl,h⟩
 | _,_,.cons h t,j+1,x,e=>zfW t (j:=j) e
theorem zf4 {X:Cx}{H:Hp}{pins:List (Addr×Obj)}{σ:St}{s:Shared}(I:Inv X pins σ H s):∀(cs:List Addr),(∀c∈cs,∃n:List Int,n≠[]/\H c=some (.tup (n.map V.int))) -> ∃fs,KatTups s.heap (cs.map Value.ref) fs/\fs.length=cs.length /\ ∀f∈fs,∃z t,f=Value.int z t
 | [],_=>⟨[],KatTups.nil,rfl,by simp⟩
 | c::cs,h=>by
  obtain ⟨fs,h1,h2,h3⟩:=zf4 I cs fun x hx=>h x (Ze _ hx);obtain ⟨n,hn,hc⟩:=h c Zf;obtain ⟨_,its,rx,ox,ho,hcl,n1,hd⟩:=(show za4 X.prog X.w H s.heap c (.tup (n.map V.int)) from I.hok c _ hc)
  cases n with
  | nil=>exact absurd rfl hn
  | cons z n =>
   rw [Zh] at rx;cases rx with
   | @cons _ u _ us r t =>
    obtain ⟨tk,rfl⟩:∃tk,u=Value.int z tk:=r;refine ⟨Value.int z tk::fs,KatTups.cons ho hcl hd rfl h1,by simp [h2],fun f hf=>?_⟩;rcases Zk.mp hf with rfl|hf
    ·exact ⟨z,tk,rfl⟩
    ·exact h3 f hf
def zoO:List V->Hp->VK->Prop:=fun xs H Q=>∃(a:Addr) (kvs:List (List Key×V)) (nss:List (List Int)),xs = [.ref a]/\H a=some (.dT kvs)/\kvs.map (·.1)=nss.map (fun n=>n.map Sum.inl)/\nss.length < 64/\(∀n∈nss,n≠[]) /\
 ∀cs:List Addr,cs.length=nss.length->(∀(j:Nat) (c:Addr) (n:List Int),cs[j]?=some c->nss[j]?=some n->H c=some (.tup (n.map V.int))) ->
 ∀l,H l=none->Q (.ref l) (upd H l (.lst ((zew (fun i j=>HT.lexLt (nss.getD i []) (nss.getD j [])) nss.length).map fun i=>(cs.map V.ref).getD i .non)))
theorem zg3 {X:Cx}(hc:X.calm=true) (hu:X.A.units+5 < cLine):zbL X (.builtin "sorted") zoO:=by
 intro pins s σ H xs us Q I r h;obtain ⟨a,kvs,nss,rfl,ha,hk,h64,hne,q⟩:=h;obtain ⟨u,rfl,rx⟩:=vals1 r;cases rx;obtain ⟨z,hd,ts,rel,o,es,ep,ho,hex,hdat,he,his,hnd⟩:=zoh I.hok ha;have hlen:ts.length=nss.length:=by
  have e1:=Paired.length rel;have e2:=congrArg List.length hk;simp only [Zd] at e2;omega
 have hes:es.size=nss.length:=by
  have:=congrArg List.length he;simp only [Array.length_toList,Zd] at this;omega
 have keyAt:∀(j:Nat) (t:List Key×Addr×Value) (n:List Int),ts[j]?=some t->nss[j]?=some n->H t.2.1=some (.tup (n.map V.int)):=fun j t n ht hn=>by
  have hj:j < kvs.length:=by
   have:=(Zg.mp ht).1;rw [Paired.length rel];exact this
  obtain ⟨t',ht',hp⟩:=zfW rel (Zc hj);rw [ht] at ht';cases ht';have e1:(kvs.map (·.1))[j]?=some kvs[j].1:=by rw [Zj,Zc hj];rfl
  rw [hk,Zj,hn] at e1;have e2:kvs[j].1=n.map Sum.inl:=(Option.some.inj e1).symm;have:=hp.2.1;rw [e2,Zi] at this;exact this
 refine Calls.call_function_entry kind_sorted plain_sorted entry_sorted (args_sorted1 _) ?_;unfold Builtin.«sorted»;refine wpAny_bind (m:=checkCount "sorted" 1 1 _) (wpAny_pure ?_);refine wpAny_bind (kdu_collect (A:=X.A.in1) (zmd (es:=es) (ep:=ep) hd) (I.ok.hd hc) ⟨o,ho,hex,hdat⟩ (by rw [hes,sizeLine_eq];omega) fun h' tk acc hkk hacc=>?_);have hl:acc.toList.length=nss.length:=by rw [Array.length_toList,hacc.1,hes]
 have I1:Inv X pins σ H { s with heap:=h',toks:=tk }:=I.kept (t':=tk) hkk;refine wpAny_bind (wpAny_newList ?_ (by rw [hl,sizeLine_eq];omega));have accAt:acc.toList=(ts.map (·.2.1)).map Value.ref:=by
  refine List.ext_getElem (by rw [hl,Zd,Zd,hlen]) fun j h1 h2=>?_;obtain ⟨e,he1,he2⟩:=hacc.2 j acc.toList[j] (by rw [<- Array.getElem?_toList];exact Zc h1);have ht:j < ts.length:=by rw [Zd,Zd] at h2;exact h2
  have:es.toList[j]?=some e:=by rw [Array.getElem?_toList];exact he1
  rw [he,Zj,Zc ht] at this;cases this;rw [<- he2];simp [entryOfKey]
 generalize hits:acc.toList=its at hl accAt;have hoL:(h'.push (seqObj "list" its.toArray 0)).get? h'.objs.size=some (seqObj "list" its.toArray 0):=Heap.get?_push_size _ rfl;have k3:∀b ob,h'.get? b=some ob->(h3of (h'.push (seqObj "list" its.toArray 0)) h'.objs.size its).get? b=some ob:=fun b ob hb=>by
  have hb':=Heap.lt_size hb;refine Heap.get?_push_of_some _ (Heap.get?_push_of_some _ ?_);rw [Heap.get?_update_ne _ _ _ _ (Nat.ne_of_lt hb')];exact Heap.get?_push_of_some _ hb
 have I3:Inv X pins σ H { s with heap:=h3of (h'.push (seqObj "list" its.toArray 0)) h'.objs.size its,toks:=tk }:=I1.kept (t':=tk) k3;have row:∀i,i < its.length -> ∃(c:Addr) (n:List Int),its.getD i Value.none=Value.ref c/\nss.getD i []=n/\H c=some (.tup (n.map V.int)):=fun i hi=>by
  have ht:i < ts.length:=by omega
  have hn:i < nss.length:=by omega
  refine ⟨ts[i].2.1,nss[i],?_,?_,keyAt i _ _ (Zc ht) (Zc hn)⟩
  ·rw [accAt,Zy,Zj,Zj,Zc ht];rfl
  ·rw [Zy,Zc hn];rfl
 refine wpAny_bind (wpAny_holding (wpAny_call_entry slot_list_sort ⟨_,hoL,rfl⟩ entry_list_sort (zfJ (κ:=tuples' true) (lt:=fun i j=>HT.lexLt (nss.getD i []) (nss.getD j [])) hoL (by omega) (fun h2 Q' hQ'=>?_) (fun i j hi hj C k=>?_) ⟨_,rfl,?_⟩) (args_list_sort _)))
 ·obtain ⟨fs,f1,f2,f3⟩:=zf4 I3 (ts.map (·.2.1)) (fun c hc=>by
   obtain ⟨t,ht,rfl⟩:=Zs.mp hc;obtain ⟨j,hj,rfl⟩:=List.getElem_of_mem ht;have hn:j < nss.length:=by omega
   exact ⟨nss[j],hne _ (Zz hn),keyAt j _ _ (Zc hj) (Zc hn)⟩)
  rw [<- accAt] at f1;rw [Zd] at f2;refine kat_kind (T:=.type "int") f1 (by omega) (fun v hv=>?_) rfl hQ';obtain ⟨z,t,rfl⟩:=f3 v hv;exact .now
 ·obtain ⟨c,n,e2,e3,hc⟩:=row i hi
  obtain ⟨d,m,f2,f3,hd⟩:=row j hj;rw [e2,f2];simp only [e3,f3] at k;exact zp0 hc hd I3 k
 ·refine wpAny_pure ⟨_,rfl,?_⟩
  have q':=q (ts.map (·.2.1)) (by rw [Zd,hlen]) (fun j c n hj hn=>by
   rw [Zj] at hj;obtain ⟨t,ht,rfl⟩:=Zb.mp hj;exact keyAt j t n ht hn)
  have pr':=zcO (fun i j=>HT.lexLt (nss.getD i []) (nss.getD j [])) nss.length;rw [hl];generalize zew (fun i j=>HT.lexLt (nss.getD i []) (nss.getD j [])) nss.length=p at pr' q' ⊢;have hp:∀i∈p,i < nss.length:=fun i hi=>Zt.mp (pr'.mem_iff.mp hi);have rv:Vals ((ts.map (·.2.1)).map V.ref) its:=by
   rw [accAt];generalize ts.map (·.2.1)=cs
   induction cs with
   | nil=>exact .nil
   | cons c cs ih=>exact .cons rfl ih
  generalize hout:List.toArray (p.map fun i=>its.getD i Value.none)=out;obtain ⟨e,he⟩:=sortedHeap_at (out:=out) hoL;have kp:∀b o,h'.get? b=some o->(sortedHeap (h'.push (seqObj "list" its.toArray 0)) h'.objs.size its out).get? b=some o:=fun b o hb=>by
   have hb':=Heap.lt_size hb;rw [sortedHeap_old (Nat.ne_of_lt hb') (by rw [size_push'];exact Nat.lt_succ_of_lt hb')];exact Heap.get?_push_of_some _ hb
  refine ⟨.ref h'.objs.size,_,I1.laid (t':=tk) kp (Nat.le_refl _) (show za4 X.prog X.w _ _ _ (.lst (p.map fun i=>((ts.map (·.2.1)).map V.ref).getD i .non)) from ⟨?_,out.toList,e,?_,by simpa using he⟩),rfl,q' _ (I1.hok.fresh (Nat.le_refl _))⟩
  ·rw [Zd,pr'.length_eq,Zu,sizeLine_eq];omega
  ·rw [<- hout];exact zhb rv _ (fun i hi=>by rw [Zd,Zd,hlen];exact hp i hi)
end L2
namespace L2
open PySem
def ze9:List Key->Option (List Int)
 | []=>some []
 | .inl i::r=>(ze9 r).map (i::·)
 | .inr _::_=>none
theorem zf3:∀{k:List Key}{n:List Int},ze9 k=some n->k=n.map Sum.inl
 | [],n,h=>by cases h;rfl
 | .inl i::r,n,h=>by
  obtain ⟨m,hm,rfl⟩:=Zb.mp h;rw [Zh,zf3 hm]
 | .inr _::_,n,h=>nomatch h
def zdC:List (List Key×PV)->Option (List (List Int))
 | []=>some []
 | (k,_)::r=>(ze9 k).bind fun n=>(zdC r).map (n::·)
theorem ze7:∀{ks:List (List Key×PV)}{ns:List (List Int)},zdC ks=some ns->ks.map (·.1)=ns.map fun n=>n.map Sum.inl
 | [],ns,h=>by cases h;rfl
 | (k,v)::ks,ns,h=>by
  obtain ⟨n,hn,h⟩:=Za.mp h;obtain ⟨m,hm,rfl⟩:=Zb.mp h;rw [Zh,Zh,ze7 hm,<- zf3 hn]
def zp1 (n:List Int):PV:=.tup (n.map PV.int)
def zhJ:List PV->Option PV
 | [.dtt ks]=>(zdC ks).bind fun ns=>if (decide (ns.length < 64)&&ns.all fun n=>!n.isEmpty)=true then some (.lst ((zp5 ns).map fun i=>(ns.map zp1).getD i .non)) else none
 | _=>none
theorem RepT.keys {U:AS}{H:Hp}:∀{ks:List (List Key×PV)}{xs:List (List Key×V)},RepT U H ks xs->xs.map (·.1)=ks.map (·.1)
 | [],xs,h=>by rw [zbR.mp h];rfl
 | kp::ks,xs,h=>by
  obtain ⟨v,r,rfl,_,h2⟩:=za6.mp h;rw [Zh,Zh,RepT.keys h2]
theorem zhx {U:AS}{H:Hp}:∀n:List Int,Reps U H (n.map PV.int) (n.map V.int)
 | []=>zam.mpr rfl
 | i::n=>zah.mpr ⟨_,_,rfl,zaT.mpr rfl,zhx n⟩
theorem zhw {U:AS}{H:Hp}:∀(ns:List (List Int)) (cs:List Addr),cs.length=ns.length->(∀(j:Nat) (c:Addr) (n:List Int),cs[j]?=some c->ns[j]?=some n->H c=some (.tup (n.map V.int)))->Reps U H (ns.map zp1) (cs.map V.ref)
 | [],[],_,_=>zam.mpr rfl
 | [],_::_,h,_=>nomatch h
 | _::_,[],h,_=>nomatch h
 | n::ns,c::cs,h,k=>zah.mpr ⟨_,_,rfl,zaS.mpr ⟨c,_,rfl,k 0 c n rfl rfl,zhx n⟩,zhw ns cs (by simpa using h) fun j d m hd hm=>k (j+1) d m hd hm⟩
theorem znu:RLV .fr zoO zhJ:=by
 intro U H ps z vs Q d hb e k
 match ps,e with
 | [.dtt ks],e =>
  obtain ⟨ns,hns,e⟩:=Za.mp e;obtain ⟨h,rfl⟩:=zaD e;rw [Zc1] at h;have h64:=of_decide_eq_true h.1;obtain ⟨v,rfl,a,xs,rfl,ha,rx⟩:=hb.one;refine ⟨a,xs,ns,rfl,ha,by rw [rx.keys,ze7 hns],h64,fun n hn=>?_,fun cs hcs hc l hl=>?_⟩
  ·have:=Zp1.mp h.2 n hn
   intro z;subst z;cases this
  ·obtain ⟨e2,r2⟩:=zbr d hl ((zhw (U:=U) ns cs hcs hc).pick (zp5 ns) fun i hi=>by
    have:=Zt.mp ((zcO _ _).mem_iff.mp hi);rw [Zd];exact this)
   exact k _ _ U e2 r2
theorem zrG {X:Cx}{k:Nat}(hc:X.calm=true) (hr:Room k X.A):C2 X (.builtin "sorted") .fr zhJ:=⟨_,zg3 hc (by have:=zuo hr;omega),znu⟩
end L2
local macro_rules | `(tactic| tm_at "qO") => `(tactic| first | with_reducible apply L2.zwB | with_reducible apply L2.zws | with_reducible apply L2.zwv | with_reducible apply L2.zwz | with_reducible apply L2.zww | with_reducible apply L2.zwA | with_reducible apply L2.zwt )
local macro_rules | `(tactic| tm_at "qOC") => `(tactic| first | with_reducible apply L2.o_eq | with_reducible apply L2.o_ne | with_reducible apply L2.o_lt | with_reducible apply L2.o_le | with_reducible apply L2.o_gt | with_reducible apply L2.o_ge | with_reducible apply L2.znU | with_reducible apply L2.zlO | with_reducible apply L2.zhS | with_reducible apply L2.zwy | with_reducible apply L2.zwu | with_reducible apply L2.zwx )
local macro_rules | `(tactic| tm_at "qC") => `(tactic| first | with_reducible apply L2.zu2 | with_reducible apply L2.zuY | with_reducible apply L2.zxj | with_reducible apply L2.zu1 | with_reducible apply L2.zxl | with_reducible apply L2.zu0 | with_reducible apply L2.zuZ | with_reducible apply L2.zxk | with_reducible apply L2.zuX | with_reducible apply L2.zrE | with_reducible apply L2.zrF | with_reducible apply L2.zrG | with_reducible apply L2.zu3 )
local macro_rules | `(tactic| tm_at "qX") => `(tactic| first | with_reducible apply L2.zr2 | with_reducible apply L2.zvv )
local macro_rules | `(tactic| tm_at "q") => `(tactic| first | ((intros; with_reducible show L2.QN _ _ _ _ _); (first | (apply L2.ztq; assumption) ) <;> tm_at "q") | ((intros; with_reducible show L2.QMr _ _ _ _ _ _); (first | apply L2.qmr1 | apply L2.qmrc) <;> tm_at "q") | ((intros; with_reducible show L2.QD _ _ _ _ _); (first | apply L2.zqv | (apply L2.zqw; assumption) | (apply L2.ztw; assumption; assumption) | apply L2.zts | apply L2.zv5 | apply L2.ztv) <;> tm_at "q") | ((intros; with_reducible show L2.QDs _ _ _ _ _); (first | apply L2.qds1 | apply L2.qdsc) <;> tm_at "q") | ((intros; with_reducible show L2.QDL _ _ _ _ _); (first | apply L2.qdlc | apply L2.qdle) <;> tm_at "q") | ((intros; with_reducible show L2.QE _ _ _ _); (first | exact L2.qint | exact L2.qstr | apply L2.qvS | apply L2.qv | (apply L2.qop; tm_at "qO") | (apply L2.qix; tm_at "qX") | (apply L2.qcmp; tm_at "qOC") | (apply L2.qcS; assumption) | (apply L2.qcF; assumption) | exact L2.qbl | exact L2.qnon | apply L2.qlst | apply L2.qtup | (apply L2.zlk; assumption) | (apply L2.zlj; assumption) | (apply L2.ziB; assumption) | (apply L2.qfld; assumption; assumption) | (apply L2.qb; assumption; tm_at "qC") | (apply L2.qbT; assumption; tm_at "qC") | (apply L2.zoS; assumption; tm_at "qk") | (apply L2.ztx; apply L2.qc; assumption; tm_at "qk") | apply L2.qsl | (apply L2.zvZ; assumption) | apply L2.qneg | apply L2.qand | apply L2.qone | apply L2.zty | apply L2.qrev | apply L2.zv4 | apply L2.qdin | apply L2.zoQ | apply L2.zoR | exact L2.ztu | (apply L2.QE.sh; exact L2.ztu) | (apply L2.QE.sh; first | (apply L2.zlk; assumption) | (apply L2.ziB; assumption) | apply L2.qlst | (apply L2.qcF; assumption) | (apply L2.zoS; assumption; tm_at "qk") | (apply L2.ztx; apply L2.qc; assumption; tm_at "qk") | apply L2.zoQ | apply L2.zoR | apply L2.qss | apply L2.qsl | (apply L2.qop; tm_at "qO") | (apply L2.zlk; assumption) | (apply L2.zlj; assumption) | (apply L2.ziB; assumption) | (apply L2.qfld; assumption; assumption) | (apply L2.qb; assumption; tm_at "qC") | (apply L2.qbT; assumption; tm_at "qC") | apply L2.qrev)) <;> tm_at "q") | ((intros; with_reducible show L2.QA _ _ _ _); (first | exact L2.qa0 | apply L2.qaS | apply L2.qaB | apply L2.qks ) <;> tm_at "q") | ((intros; with_reducible show L2.PE _ _ _); (first | apply L2.pv) <;> tm_at "q") | ((intros; with_reducible show L2.QS _ _ _); (first | apply L2.qif | apply L2.zvV | apply L2.zvX | apply L2.zvW | exact L2.ztr | apply L2.zto | (apply L2.zqu; exact rfl; exact rfl; assumption; apply L2.qc; assumption; tm_at "qk") | apply L2.zvS | apply L2.zvT | apply L2.zv0 | apply L2.qfor | apply L2.qapp | apply L2.zv1 | apply L2.zvY | apply L2.ztt | apply L2.zv3 | apply L2.qunp | apply L2.zv2) <;> tm_at "q") | ((intros; with_reducible show L2.QB _ _ _); (first | exact L2.qb0 | apply L2.qb1 | apply L2.qnew | apply L2.qbc) <;> tm_at "q") | ((intros; with_reducible show L2.QT _ _ _); (first | (apply L2.zvR; tm_at "qOC") | apply L2.ztn | apply L2.zvQ | apply L2.znz | apply L2.zvO | apply L2.zvP | apply L2.ztm | (apply L2.qtw; first | apply L2.qwor | apply L2.ztl) | apply L2.qtv) <;> tm_at "q") | ((intros; with_reducible show L2.QW _ _ _); (first | apply L2.qwor | apply L2.ztl | apply L2.zvN | apply L2.ztk) <;> tm_at "q") | ((intros; with_reducible show L2.QF _ _ _); (first | exact L2.qf0 | apply L2.qf1) <;> tm_at "q") | ((intros; with_reducible show L2.QI _ _ _ _); (first | apply L2.qil | apply L2.qit | apply L2.qir1 | apply L2.qir2 | apply L2.qir3 | apply L2.qie | apply L2.qis) <;> tm_at "q") | ((intros; with_reducible show L2.QG _ _ _); (first | apply L2.qgn | apply L2.qgt) <;> tm_at "q") | ((intros; with_reducible show L2.QGs _ _ _); (first | exact L2.qgs0 | apply L2.qgs1) <;> tm_at "q") | ((intros; with_reducible show L2.QO _ _ _); (first | exact L2.qo0 | apply L2.qo1) <;> tm_at "q") | ((with_reducible show (_ == _) = false); decide) | ((with_reducible show List.contains _ _ = true); decide +kernel) | ((with_reducible show L2.zfn _ _ _ _ _ = true); decide +kernel) | ((with_reducible show PySem.bootBuiltins _ = _); decide +kernel) | ((with_reducible show L2.OC _ _ _ _); (tm_at "qOC") <;> tm_at "q") | exact rfl | exact fun _ => rfl | assumption | exact Or.inl rfl | exact Or.inr rfl | exact Or.inr (Or.inl rfl) | exact Or.inr (Or.inr rfl) | decide | exact PySem.PassesOwn.never | exact fun _ _ z => z | exact fun _ _ => rfl | exact ⟨_, fun _ => ⟨rfl, by decide⟩⟩ | omega | decide +kernel | with_unfolding_all rfl | (apply Or.inl; tm_at "q") | exact fun a b => L2.zhF rfl a b | exact fun h => L2.zoX (L2.pv _) h L2.set_list | exact fun h hm => L2.zlx rfl hm h | exact fun h1 h2 => L2.zoX h1 h2 L2.set_list | exact fun _ _ _ _ => rfl | (trace_state; fail))
local macro_rules | `(tactic| tm_at "qk") => `(tactic| decide +kernel)
local macro_rules | `(tactic| tm_at "qsc") => `(tactic| exact ⟨rfl, rfl, rfl, by decide +kernel, rfl, by decide +kernel, by decide +kernel⟩)
local macro_rules | `(tactic| tm_at "qD") => `(tactic| (intros; tm_at "q"))
local macro_rules | `(tactic| tm_at "evd") => `(tactic| (first | omega | (simp only [Zd, Zp, Zq, List.length_nil, List.length_replicate, Zu, Zq1, List.length_drop, List.length_reverse] at *; omega)))
local macro_rules | `(tactic| tm_at "ev") => `(tactic| simp (discharger := tm_at "evd") only [L2.zxu, L2.zow, L2.zov, L2.zoy, L2.zox, L2.E_if, L2.zvo, L2.zvp, L2.zxB, L2.zrS, L2.zrT, L2.zxK, L2.zrZ, L2.zr0, L2.E_or, L2.zvk, L2.zvl, L2.E_x1, L2.zxr, L2.E_x2, L2.zxq, L2.E_xL, L2.zxp, L2.E_lc, L2.zxA, L2.E_ln, L2.E_c, L2.zxs, L2.zrL, L2.zvc, L2.zop, L2.zxH, L2.zrW, L2.zxz, L2.zrR, L2.E_xB, L2.zvb, L2.zvd, L2.zxw, L2.zrP, L2.zvj, L2.zoz, L2.zvh, L2.zvi, L2.zrN, L2.zvg, L2.zos, L2.zoq, L2.zou, L2.zor, L2.zot, L2.zvq, L2.zoA, L2.zvf, L2.zxG, L2.zxF, L2.zxJ, L2.zrY, L2.zxE, L2.zrV, L2.zxI, L2.zrX, L2.zxt, L2.zrM, L2.zxy, L2.E_gN, L2.E_gT, L2.zxC, L2.E_gA, L2.zxx, L2.zrQ, L2.E_sl, L2.zve, L2.E_oN, L2.E_oS, L2.zvm, L2.zxD, L2.zrU, L2.E_ch, L2.zvs, L2.zvr, L2.zvt, L2.E_bm, L2.zvu, L2.E_mx, L2.zvn, L2.zxv, L2.zrO, L2.zxc, L2.zwM, L2.zwP, L2.zw8, L2.zw7, L2.zw9, L2.zwO, L2.zwN, L2.e_le, L2.e_lt, L2.e_gt, L2.e_ge, L2.zuz, L2.zw6, L2.zw5, L2.zpf, L2.zuB, L2.zuC, L2.zuD, L2.zw3, L2.zw1, L2.zux, L2.zrt, L2.zw4, L2.zuI, L2.zuJ, L2.zw0, L2.zwZ, L2.zwY, L2.zwX, L2.zwU, L2.zwT, L2.zwS, L2.zwR, L2.zwV, L2.zxa, L2.zwQ, L2.zuy, L2.zw2, L2.e_ms, L2.zwW, L2.zuH, L2.zuF, L2.zuG, L2.zpg, L2.zuA, L2.e_sm, L2.zxb, L2.zrv, decide_true, decide_false, Zh, List.map_nil, List.cons_append, List.nil_append, Zq, List.length_nil, Nat.reduceAdd, Nat.reduceSub, List.getElem?_cons_zero, List.getElem?_cons_succ, List.set_cons_zero, List.set_cons_succ, if_true, if_false, Bool.false_eq_true, Bool.not_true, Bool.not_false, Bool.and_false, Bool.and_true, Bool.true_and, Bool.false_and])
namespace K57
open PySem L2
variable [HC]
def top (i:Nat):Stmt:=PySem.Challenge.pw_pasthall_k57_whole_whence_by_edits.main.body.getD i (.Pass ⟨0,0,0,0⟩)
abbrev zeG:Stmt:=top 47
abbrev zdr:Stmt:=top 48
abbrev zdq:Stmt:=top 52
abbrev zcY:Stmt:=top 53
abbrev zcw:Stmt:=top 51
abbrev zcv:Stmt:=top 54
abbrev zc1:Stmt:=inClass (top 41) 1
abbrev zhs:Stmt:=top 10
abbrev zhr:Stmt:=top 36
abbrev zje:Stmt:=top 11
abbrev zhq:Stmt:=top 37
abbrev zd0:Stmt:=top 38
abbrev zdo:Stmt:=top 39
abbrev zd2:Stmt:=top 22
abbrev zbG:Stmt:=inClass (top 41) 3
abbrev zcZ:Stmt:=top 55
abbrev zjd:Stmt:=top 23
abbrev zeD:Stmt:=top 24
abbrev zdZ:Stmt:=top 25
abbrev zcm:Stmt:=top 26
abbrev zc0:Stmt:=inClass (top 41) 4
abbrev zjc:Stmt:=top 29
abbrev zds:Stmt:=inClass (top 41) 2
abbrev zeE:Stmt:=top 12
abbrev zcX:Stmt:=top 14
abbrev zdp:Stmt:=top 15
abbrev zdY:Stmt:=top 16
abbrev zdn:Stmt:=top 18
abbrev zoL:Stmt:=top 17
abbrev zhp:Stmt:=top 31
abbrev zho:Stmt:=top 32
abbrev zjb:Stmt:=top 33
abbrev zoM:Stmt:=top 43
abbrev zeF:Stmt:=top 57
abbrev zd1:Stmt:=top 30
abbrev zk9:Stmt:=top 27
abbrev zk8:Stmt:=top 45
abbrev zcn:Stmt:=top 58
abbrev zqg:Stmt:=top 59
abbrev zht:Stmt:=inClass (top 41) 0
set_option genInjectivity false in
structure Prg (K:PySem.W.Frag) (mg:Str->Option Value) where
 bl:Blt mg ["all","any","enumerate","int","len","list","max","min","range","set","sorted","tuple"]
 c_BadRow:Addr
 mc_BadRow:mg "BadRow" = some (.ref c_BadRow)
 c_BadTree:Addr
 mc_BadTree:mg "BadTree" = some (.ref c_BadTree)
 c_BadWeb:Addr
 mc_BadWeb:mg "BadWeb" = some (.ref c_BadWeb)
 c_NoVersion:Addr
 mc_NoVersion:mg "NoVersion" = some (.ref c_NoVersion)
 c_NoFile:Addr
 mc_NoFile:mg "NoFile" = some (.ref c_NoFile)
 g_MOST_LINES:∃u,mg "MOST_LINES" = some u/\RelV (V.int 40) u
 g_MOST_SIGNS:∃u,mg "MOST_SIGNS" = some u/\RelV (V.int 8) u
 g_MOST_FILES:∃u,mg "MOST_FILES" = some u/\RelV (V.int 8) u
 g_MOST_VERSIONS:∃u,mg "MOST_VERSIONS" = some u/\RelV (V.int 40) u
 g_MOST_ELDERS:∃u,mg "MOST_ELDERS" = some u/\RelV (V.int 3) u
 mc_History:mg "History" = some (.ref HC.c)
 DI:DfI K HC.c zht
 D__law_cell:Df K mg "_law_cell" zeG ["script","k"]
 D__law_digits:Df K mg "_law_digits" zdr ["script","k"]
 D__law_elders:Df K mg "_law_elders" zdq ["left","number"]
 D__law_letters:Df K mg "_law_letters" zcY ["left","many"]
 D__law_some_row:Df K mg "_law_some_row" zcw ["old","left"]
 D__law_versions:Df K mg "_law_versions" zcv ["script","k","most"]
 D_History_many:DfM K HC.c "many" "History.many" zc1 ["self"]
 D_is_line:Df K mg "is_line" zhs ["text"]
 D_is_path:Df K mg "is_path" zhr ["text"]
 D_is_row:Df K mg "is_row" zje ["row"]
 D_is_tree:Df K mg "is_tree" zhq ["tree"]
 D_check_tree:Df K mg "check_tree" zd0 ["tree"]
 D_copied_tree:Df K mg "copied_tree" zdo ["tree"]
 D_are_elders:Df K mg "are_elders" zd2 ["elders","version"]
 D_History_put_version:DfM K HC.c "put_version" "History.put_version" zbG ["self","elders","tree"]
 D__law_history:Df K mg "_law_history" zcZ ["versions"]
 D_is_web:Df K mg "is_web" zjd ["web"]
 D_check_web:Df K mg "check_web" zeD ["web"]
 D_is_version:Df K mg "is_version" zdZ ["web","version"]
 D_check_versions:Df K mg "check_versions" zcm ["web","some"]
 D_History_tree:DfM K HC.c "tree" "History.tree" zc0 ["self","version"]
 D_row_at:Df K mg "row_at" zjc ["history","version","path"]
 D_History_web:DfM K HC.c "web" "History.web" zds ["self"]
 D_check_row:Df K mg "check_row" zeE ["row"]
 D_next_heights:Df K mg "next_heights" zcX ["line","new","heights"]
 D_all_heights:Df K mg "all_heights" zdp ["old","new"]
 D_place_from:Df K mg "place_from" zdY ["row","line","start"]
 D_most_behind:Df K mg "most_behind" zdn ["ends","i","j"]
 D_kept:Df K mg "kept" zoL ["old","new"]
 D_sources:Df K mg "sources" zhp ["history","version","path"]
 D_step_up:Df K mg "step_up" zho ["line","version","found"]
 D_whence:Df K mg "whence" zjb ["history","version","path"]
 D_edit:Df K mg "edit" zoM ["old","new"]
 D__law_left:Df K mg "_law_left" zeF ["deeds","long"]
 D_check_line:Df K mg "check_line" zd1 ["history","version","path","place"]
 D_below:Df K mg "below" zk9 ["web","version"]
 D_lives:Df K mg "lives" zk8 ["history","version","path","place"]
 D__law_one_elder:Df K mg "_law_one_elder" zcn ["history","number","path","elder"]
def zaV:VF:=(vSeq (vIf (bOf (x2 pLt (zaa 1) (xL pLen (zab (zaa 0) lNil))))
 (vRet (x2 pIxL (zaa 0) (zaa 1)) false)
 zak)
 (vSeq (zai 2 (xC (.int (0))))
 (vSeq (vIf (bOf (x2 pGt (xL pLen (zab (zaa 0) lNil)) (xC (.int (0)))))
 (zai 2 (x2 pIxL (zaa 0) (xC (.int (0)))))
 zak)
 (vRet (x2 pMod (x2 pAdd (x2 pMul (x2 pMod (zaa 2) (xC (.int (65521)))) (xC (.int (48271)))) (x2 pMul (zaa 1) (xC (.int (30103))))) (xC (.int (65521)))) false))))
def zaB:List PV->Option PV:=fnM 2 3 false zaV
def zaU:VF:=(vSeq (zai 2 (xL zaB (zab (zaa 0) (zab (zaa 1) lNil))))
 (vSeq (vIf (bOf (x2 pEq (x2 pMod (zaa 2) (xC (.int (2)))) (xC (.int (0)))))
 (vRet (x2 pDiv (zaa 2) (xC (.int (2)))) false)
 zak)
 (vSeq (zai 3 (x2 pMod (x2 pMul (zaa 2) (xC (.int (48271)))) (xC (.int (2147483647)))))
 (vSeq (zai 3 (x2 pMod (x2 pAdd (x2 pMul (zaa 3) (zaa 3)) (xC (.int (12345)))) (xC (.int (2147483647)))))
 (vSeq (zai 3 (x2 pMod (x2 pMul (zaa 3) (xC (.int (16807)))) (xC (.int (2147483647)))))
 (vRet (x2 pAdd (x2 pMul (x2 pMod (x2 pMul (zaa 3) (zaa 3)) (xC (.int (2147483647)))) (xC (.int (48271)))) (x2 pDiv (zaa 3) (xC (.int (8))))) false))))))
def zaF:List PV->Option PV:=fnM 2 4 false zaU
def zbu:VF:=(vSeq (zaR 2 (xL zar lNil))
 (vSeq (vFor (itR1 (zab (x2 pIxL (xL zar (fun _=>some [(.int (0)),(.int (1)),(.int (1)),(.int (2)),(.int (2)),(.int (3))])) (x2 pMod (zaa 0) (xC (.int (6))))) lNil)) (gN 3)
 (vSeq (zai 0 (x2 pAdd (x2 pDiv (zaa 0) (xC (.int (7)))) (zaa 3)))
 (vIf (bOf (x2 pGt (zaa 1) (xC (.int (0)))))
 (zao 2 (x2 pSub (x2 pSub (zaa 1) (xC (.int (1)))) (x2 pMod (zaa 0) (xL zhL (zab (zaa 1) (zab (xC (.int (4))) lNil))))))
 zak)))
 (vRet (xL znR (zab (xL zeO (zab (xVar 2) lNil)) lNil)) false)))
def zbb:List PV->Option PV:=fnM 2 4 false zbu
def zbc:VF:=(vSeq (zaR 2 (xL zar lNil))
 (vSeq (vFor (itR1 (zab (zaa 1) lNil)) (gN 3)
 (vSeq (zao 2 (x2 pIxL (xL zar (fun _=>some [(.str "a"),(.str "b"),(.str "c"),(.str "")])) (x2 pMod (zaa 0) (xC (.int (4))))))
 (zai 0 (x2 pDiv (zaa 0) (xC (.int (4)))))))
 (zb2 2)))
def zaZ:List PV->Option PV:=fnM 2 4 true zbc
def za9:VF:=(vSeq (zaR 2 (xL zar lNil))
 (vSeq (vFor (itL (zaa 0)) (gN 3)
 (vSeq (vIf (bOf (x2 pNe (x2 pMod (zaa 1) (xC (.int (5)))) (xC (.int (1)))))
 (zao 2 (zaa 3))
 zak)
 (vSeq (vIf (bOf (x2 pEq (x2 pMod (x2 pDiv (zaa 1) (xC (.int (5)))) (xC (.int (4)))) (xC (.int (2)))))
 (zao 2 (x2 pIxL (xL zar (fun _=>some [(.str "a"),(.str "b"),(.str "c"),(.str "")])) (x2 pMod (x2 pDiv (zaa 1) (xC (.int (20)))) (xC (.int (4))))))
 zak)
 (zai 1 (x2 pDiv (zaa 1) (xC (.int (80))))))))
 (vSeq (vIf (bOf (x2 pEq (x2 pMod (zaa 1) (xC (.int (3)))) (xC (.int (1)))))
 (zao 2 (x2 pIxL (xL zar (fun _=>some [(.str "a"),(.str "b"),(.str "c"),(.str "")])) (x2 pMod (x2 pDiv (zaa 1) (xC (.int (3)))) (xC (.int (4))))))
 zak)
 (vRet (xSl (xVar 2) zb3 (zbq (xC (.int (5))))) true))))
def zaK:List PV->Option PV:=fnM 2 4 true za9
def za8:VF:=(vSeq (zaR 3 (xL zar lNil))
 (vSeq (vFor (itR1 (zab (x2 pAdd (xC (.int (1))) (x2 pMod (xL zaB (zab (zaa 0) (zab (zaa 1) lNil))) (zaa 2))) lNil)) (gN 4)
 (vSeq (zai 5 (xL zaF (zab (zaa 0) (zab (x2 pAdd (x2 pAdd (zaa 1) (xC (.int (1)))) (x2 pMul (xC (.int (2))) (zaa 4))) lNil))))
 (vSeq (zai 6 (xL zaF (zab (zaa 0) (zab (x2 pAdd (x2 pAdd (zaa 1) (xC (.int (2)))) (x2 pMul (xC (.int (2))) (zaa 4))) lNil))))
 (vSeq (zai 7 (xL zbb (zab (zaa 5) (zab (zaa 4) lNil))))
 (vSeq (zaR 8 (fun _=>some (.dct [])))
 (vSeq (vFor (itL (xL zar (fun _=>some [(.str "f"),(.str "gg")]))) (gN 9)
 (vSeq (zai 10 (zap [none,some 3,some 9] (itT (zaa 7)) (gN 0) (bOf (xDIn false (zaa 2) (x2 pIxT (x2 pIxL (xVar 1) (zaa 0)) (xC (.int (1)))))) (zbQ (x2 pIxT (x2 pIxL (xVar 1) (zaa 0)) (xC (.int (1)))) (zaa 2))))
 (vSeq (zai 11 (xL zaZ (zab (zaa 6) (zab (x2 pMod (zaa 6) (xC (.int (5)))) lNil))))
 (vSeq (vIf (bOf (x2 pGt (xL pLen (zab (zaa 10) lNil)) (xC (.int (0)))))
 (zai 11 (xL zaK (zab (x2 pIxL (zaa 10) (x2 pMod (zaa 6) (xL pLen (zab (zaa 10) lNil)))) (zab (x2 pDiv (zaa 6) (xC (.int (4)))) lNil))))
 zak)
 (vSeq (vIf (bAnd (bOf (x2 pGt (xL pLen (zab (zaa 10) lNil)) (xC (.int (1))))) (bOf (x2 pEq (x2 pMod (x2 pDiv (zaa 6) (xC (.int (7)))) (xC (.int (3)))) (xC (.int (1))))))
 (zai 11 (xSl (x2 pCat (x2 pCat (xSl (x2 pIxL (zaa 10) (xC (.int (0)))) zb3 (zbq (xC (.int (2))))) (x2 pIxL (zaa 10) (xC (.int (1))))) (xSl (x2 pIxL (zaa 10) (xC (.int (0)))) (zbq (xC (.int (2)))) zb3)) zb3 (zbq (xC (.int (5))))))
 zak)
 (vSeq (vIf (bOf (x2 pNe (x2 pMod (zaa 6) (xC (.int (9)))) (xC (.int (4)))))
 (zbU 8 (zaa 9) (zaa 11))
 zak)
 (zai 6 (x2 pAdd (x2 pDiv (zaa 6) (xC (.int (11)))) (x2 pMul (xC (.int (5))) (zaa 4))))))))))
 (zfQ 8 (zao 3 (xL zaQ (zab (zaa 7) (zab (zaa 8) lNil)))))))))))
 (zb2 3)))
def f__law_versions:List PV->Option PV:=fnM 3 12 true za8
def zbf:VF:=(vRet (xL pLen (zab (x1 (pFld HC.c "elders") (zaa 0)) lNil)) false)
def zaP:List PV->Option PV:=onC HC.c "many" (fnM 1 1 false zbf)
def zeZ:VF:=(vRet (xB (bAnd (bOf (x2 pLe (xL zkf (zab (zaa 0) lNil)) (xC (.int (8))))) (bOf (xL pAll (zab (zap [none] (itS (zaa 0)) (gN 0) zaC (zdj pLeS pLeS (xC (.str "a")) (zaa 0) (xC (.str "z")))) lNil))))) false)
def zba:List PV->Option PV:=fnM 1 1 false zeZ
def zeY:VF:=(vRet (xB (bAnd (bOf (x2 pNe (zaa 0) (xC (.str "")))) (bOf (xL zba (zab (zaa 0) lNil))))) false)
def zb8:List PV->Option PV:=fnM 1 1 false zeY
def zch:VF:=(vRet (xB (bAnd (bOf (x2 pLe (xL pLen (zab (zaa 0) lNil)) (xC (.int (40))))) (bOf (xL pAll (zab (zap [none] (itL (zaa 0)) (gN 0) zaC (xL zba (zab (zaa 0) lNil))) lNil))))) false)
def zbT:List PV->Option PV:=fnM 1 1 false zch
def zcD:VF:=(vSeq (vIf (bOf (x2 pGt (xL zkg (zab (zaa 0) lNil)) (xC (.int (8)))))
 (vRet (xC (.bl false)) false)
 zak)
 (vRet (xL pAll (zab (zap [none,none] (itD ixs 0) (gT [0,1]) zaC (xB (bAnd (bOf (xL zb8 (zab (zaa 0) lNil))) (bOf (xL zbT (zab (zaa 1) lNil)))))) lNil)) false))
def zcJ:List PV->Option PV:=fnM 1 1 false zcD
def zbH:VF:=(vIf (bNot (bOf (xL zcJ (zab (zaa 0) lNil))))
 zct
 zak)
def zbn:List PV->Option PV:=fnM 1 1 false zbH
def zbt:VF:=(vSeq (zaR 1 (fun _=>some (.dct [])))
 (vSeq (vFor (itL (xL zhI (zab (zaa 0) lNil))) (gN 2)
 (zbU 1 (zaa 2) (xL zeh (zab (zbQ (zaa 0) (zaa 2)) lNil))))
 (zb2 1)))
def zaN:List PV->Option PV:=fnM 1 3 true zbt
def zcE:VF:=(vSeq (zai 2 (x1 pNeg (xC (.int (1)))))
 (vSeq (vFor (itT (zaa 0)) (gN 3)
 (vSeq (vIf (bOr (bOf (x2 pLe (zaa 3) (zaa 2))) (bOf (x2 pGe (zaa 3) (zaa 1))))
 (vRet (xC (.bl false)) false)
 zak)
 (zai 2 (zaa 3))))
 (vRet (x2 pLe (xL pLen (zab (zaa 0) lNil)) (xC (.int (3)))) false)))
def zaO:List PV->Option PV:=fnM 2 4 false zcE
def zat:DF:=(dSeq (ziS 0 3 (xL zaP (zab (xVar 0) lNil)))
 (dSeq (zcL 0 (vIf (bOr (bOf (x2 pGe (zaa 3) (xC (.int (40))))) (bNot (bOf (xL zaO (zab (zaa 1) (zab (zaa 3) lNil))))))
 zct
 zak))
 (dSeq (zcL 0 (zbE (xL zbn (zab (zaa 2) lNil))))
 (dSeq (zfN 0 (zaa 1))
 (dSeq (zfN 1 (xL zaN (zab (zaa 2) lNil)))
 zoj)))))
def zan:PV->List PV->Option (PV×PV):=zh7 3 4 zat (zaa 3)
def zbd:VF:=(zjZ 1 (fun _=>some (hist HC.c [] []))
 (ziR (dFor 1 (itL (zaa 0)) (gT [2,3])
 (dSeq (zcL 1 (zaR 4 (fun _=>some (.dct []))))
 (dSeq (zcL 1 (vFor (itD kxs 3) (gN 5)
 (zbU 4 (zaa 5) (xL zeh (zab (zbQ (zaa 3) (zaa 5)) lNil)))))
 (zf9 4 (zed zan (zab (zaa 2) (zab (zaa 4) lNil)))))))
 (dEnd 1 (vRet (zaa 1) false))))
def f__law_history:List PV->Option PV:=fnM 1 6 false zbd
def zeq:VF:=(vSeq (vIf (bOr (bOf (x2 (pEqL 3 false) (zaa 0) (xL zar lNil))) (bOf (x2 pGt (xL pLen (zab (zaa 0) lNil)) (xC (.int (40))))))
 (vRet (xC (.bl false)) false)
 zak)
 (vRet (xL pAll (zab (zap [none,none] (itE (zab (zaa 0) lNil)) (gT [0,1]) zaC (xL zaO (zab (zaa 1) (zab (zaa 0) lNil)))) lNil)) false))
def zdF:List PV->Option PV:=fnM 1 1 false zeq
def zdb:VF:=(vIf (bNot (bOf (xL zdF (zab (zaa 0) lNil))))
 zct
 zak)
def zb0:List PV->Option PV:=fnM 1 1 false zdb
def zcC:VF:=(vRet (zdj pLe pLt (xC (.int (0))) (zaa 1) (xL pLen (zab (zaa 0) lNil))) false)
def zbm:List PV->Option PV:=fnM 2 2 false zcC
def zbh:VF:=(vSeq (zbE (xL zb0 (zab (zaa 0) lNil)))
 (vIf (bNot (bOf (xL pAll (zab (zap [none,some 0] (itL (zaa 1)) (gN 0) zaC (xL zbm (zab (zaa 1) (zab (zaa 0) lNil)))) lNil))))
 zct
 zak))
def zas:List PV->Option PV:=fnM 2 2 false zbh
def zbe:VF:=(vSeq (zbE (xL zas (zab (x1 (pFld HC.c "elders") (zaa 0)) (zab (xL zar (zab (zaa 1) lNil)) lNil))))
 (vRet (xL zaN (zab (x2 pIxL (x1 (pFld HC.c "trees") (zaa 0)) (zaa 1)) lNil)) true))
def zaj:List PV->Option PV:=onC HC.c "tree" (fnM 2 2 true zbe)
def zdz:VF:=(vSeq (zai 3 (xL zaj (zab (zaa 0) (zab (zaa 1) lNil))))
 (vSeq (vIf (bOf (xDIn true (zaa 2) (zaa 3)))
 zct
 zak)
 (vRet (zbQ (zaa 3) (zaa 2)) false)))
def zbD:List PV->Option PV:=fnM 3 4 false zdz
def zbv:VF:=(vRet (xL zeh (zab (x1 (pFld HC.c "elders") (zaa 0)) lNil)) true)
def zaW:List PV->Option PV:=onC HC.c "web" (fnM 1 1 true zbv)
def zbX:VF:=(vIf (bNot (bOf (xL zbT (zab (zaa 0) lNil))))
 zct
 zak)
def zbk:List PV->Option PV:=fnM 1 1 false zbX
def zb5:VF:=(vSeq (zaR 3 (xL zar (zab (xC (.int (0))) lNil)))
 (vSeq (vFor (itE (zab (zaa 1) lNil)) (gT [4,5])
 (vIf (bOf (x2 pEq (zaa 5) (zaa 0)))
 (zao 3 (x2 pAdd (x2 pIxL (zaa 2) (zaa 4)) (xC (.int (1)))))
 (zao 3 (xL zke (zab (x2 pIxL (zaa 2) (x2 pAdd (zaa 4) (xC (.int (1))))) (zab (x2 pIxL (xVar 3) (zaa 4)) lNil))))))
 (zb2 3)))
def zaY:List PV->Option PV:=fnM 3 6 true zb5
def zci:VF:=(vSeq (zaR 2 (xL zar (zab (x2 pRep (xL zar (zab (xC (.int (0))) lNil)) (x2 pAdd (xL pLen (zab (zaa 1) lNil)) (xC (.int (1))))) lNil)))
 (vSeq (vFor (itL (zaa 0)) (gN 3)
 (zao 2 (xL zaY (zab (zaa 3) (zab (zaa 1) (zab (x2 pIxL (xVar 2) (x1 pNeg (xC (.int (1))))) lNil))))))
 (zb2 2)))
def zbx:List PV->Option PV:=fnM 2 4 true zci
def zcB:VF:=(vSeq (vFor (itR2 (zab (zaa 2) (zab (xL pLen (zab (zaa 0) lNil)) lNil))) (gN 3)
 (vIf (bOf (x2 pEq (x2 pIxL (zaa 0) (zaa 3)) (zaa 1)))
 (vRet (zaa 3) false)
 zak))
 (vRet (xC PV.non) false))
def zaH:List PV->Option PV:=fnM 3 4 false zcB
def zbs:VF:=(vRet (x2 pIxL (x2 pIxL (zaa 0) (x2 pSub (x2 pSub (xL pLen (zab (zaa 0) lNil)) (xC (.int (1)))) (zaa 1))) (x2 pSub (x2 pSub (xL pLen (zab (x2 pIxL (zaa 0) (xC (.int (0)))) lNil)) (xC (.int (1)))) (zaa 2))) false)
def zaq:List PV->Option PV:=fnM 3 3 false zbs
def zlV:VF:=(vSeq (zbE (xL zbk (zab (zaa 0) lNil)))
 (vSeq (zbE (xL zbk (zab (zaa 1) lNil)))
 (vSeq (zai 2 (xL zbx (zab (xRev (zaa 0) (x1 pNeg (xC (.int (1))))) (zab (xRev (zaa 1) (x1 pNeg (xC (.int (1))))) lNil))))
 (vSeq (zaR 3 (xL zar lNil))
 (vSeq (zai 4 (xC (.int (0))))
 (vSeq (vFor (itE (zab (zaa 0) lNil)) (gT [5,6])
 (vSeq (zai 7 (xL zaH (zab (zaa 1) (zab (zaa 6) (zab (zaa 4) lNil)))))
 (vIf (bAnd (bOf (x1 zhK (zaa 7))) (bOf (x2 pEq (x2 pAdd (xL zaq (zab (zaa 2) (zab (x2 pAdd (zaa 5) (xC (.int (1)))) (zab (x2 pAdd (zaa 7) (xC (.int (1)))) lNil)))) (xC (.int (1)))) (xL zaq (zab (zaa 2) (zab (zaa 5) (zab (zaa 4) lNil)))))))
 (vSeq (zao 3 (xL zaQ (zab (zaa 5) (zab (zaa 7) lNil))))
 (zai 4 (x2 pAdd (zaa 7) (xC (.int (1))))))
 zak)))
 (zb2 3)))))))
def zcI:List PV->Option PV:=fnM 2 8 true zlV
def zcA:VF:=(vSeq (zai 3 (xL zbD (zab (zaa 0) (zab (zaa 1) (zab (zaa 2) lNil)))))
 (vSeq (zaR 4 (x2 pRep (xL zar (zab (xC PV.non) lNil)) (xL pLen (zab (zaa 3) lNil))))
 (vSeq (vFor (itT (x2 pIxL (xL zaW (zab (zaa 0) lNil)) (zaa 1))) (gN 5)
 (vSeq (zai 6 (xL zaj (zab (zaa 0) (zab (zaa 5) lNil))))
 (vIf (bOf (xDIn false (zaa 2) (zaa 6)))
 (vFor (itL (xL zcI (zab (zbQ (zaa 6) (zaa 2)) (zab (zaa 3) lNil)))) (gT [7,8])
 (vIf (bOf (x1 pIsN (x2 pIxL (xVar 4) (zaa 8))))
 (zit 4 (zaa 8) (xL zaQ (zab (zaa 5) (zab (zaa 7) lNil))))
 zak))
 zak)))
 (zb2 4))))
def zbw:List PV->Option PV:=fnM 3 9 true zcA
def zcz:VF:=(vSeq (vIf (bOr (bOf (x2 pNe (x2 pIxT (zaa 0) (xC (.int (0)))) (zaa 1))) (bOf (x1 pIsN (x2 pIxL (zaa 2) (x2 pIxT (zaa 0) (xC (.int (1))))))))
 (vRet (zaa 0) false)
 zak)
 (vRet (x2 pIxL (zaa 2) (x2 pIxT (zaa 0) (xC (.int (1))))) false))
def zbZ:List PV->Option PV:=fnM 3 3 false zcz
def zdy:VF:=(vSeq (zai 3 (zap [none,some 1] (itR1 (zab (xL pLen (zab (xL zbD (zab (zaa 0) (zab (zaa 1) (zab (zaa 2) lNil)))) lNil)) lNil)) (gN 0) zaC (xL zaQ (zab (zaa 1) (zab (zaa 0) lNil)))))
 (vSeq (vFor (itRD (zab (zaa 1) (zab (x1 pNeg (xC (.int (1)))) (zab (x1 pNeg (xC (.int (1)))) lNil)))) (gN 4)
 (vIf (bOf (x2 (pIn false) (zaa 4) (zap [none] (itL (zaa 3)) (gN 0) zaC (x2 pIxT (zaa 0) (xC (.int (0)))))))
 (vSeq (zai 5 (xL zbw (zab (zaa 0) (zab (zaa 4) (zab (zaa 2) lNil)))))
 (zai 3 (zap [none,some 4,some 5] (itL (zaa 3)) (gN 0) zaC (xL zbZ (zab (zaa 0) (zab (zaa 1) (zab (zaa 2) lNil)))))))
 zak))
 (vRet (zaa 3) false)))
def f_whence:List PV->Option PV:=fnM 3 6 false zdy
def zlW:VF:=(vSeq (zaR 2 (xL zar lNil))
 (vSeq (zai 3 (xC (.int (0))))
 (vSeq (zai 4 (xC (.int (0))))
 (vSeq (vFor (itL (x2 pCat (xL zcI (zab (zaa 0) (zab (zaa 1) lNil))) (xL zar (zab (xL zaQ (zab (xL pLen (zab (zaa 0) lNil)) (zab (xL pLen (zab (zaa 1) lNil)) lNil))) lNil)))) (gT [5,6])
 (vSeq (zcb 2 (zap [none,some 0] (itR2 (zab (zaa 3) (zab (zaa 5) lNil))) (gN 0) zaC (xL zaQ (zab (xC (.str "take")) (zab (zaa 0) (zab (x2 pIxL (zaa 1) (zaa 0)) lNil))))))
 (vSeq (zcb 2 (zap [none,some 5] (itL (xSl (zaa 1) (zbq (zaa 4)) (zbq (zaa 6)))) (gN 0) zaC (xL zaQ (zab (xC (.str "put")) (zab (zaa 1) (zab (zaa 0) lNil))))))
 (vSeq (zai 3 (x2 pAdd (zaa 5) (xC (.int (1)))))
 (zai 4 (x2 pAdd (zaa 6) (xC (.int (1)))))))))
 (zb2 2)))))
def zd9:List PV->Option PV:=fnM 2 7 true zlW
def zbY:VF:=(vSeq (zai 2 (zap [none,none,none] (itL (zaa 0)) (gT [0,1,2]) (bOf (x2 pEq (zaa 0) (xC (.str "take")))) (zaa 1)))
 (vRet (zap [none,some 2] (itR1 (zab (zaa 1) lNil)) (gN 0) (bOf (x2 (pIn true) (zaa 0) (zaa 1))) (zaa 0)) true))
def f__law_left:List PV->Option PV:=fnM 2 3 true zbY
def zbI:VF:=(vSeq (zai 4 (xL zbD (zab (zaa 0) (zab (zaa 1) (zab (zaa 2) lNil)))))
 (vIf (bOr (bOf (x2 pLt (zaa 3) (xC (.int (0))))) (bOf (x2 pGe (zaa 3) (xL pLen (zab (zaa 4) lNil)))))
 zct
 zak))
def zbJ:List PV->Option PV:=fnM 4 5 false zbI
def zgM:VF:=(vSeq (zbE (xL zas (zab (zaa 0) (zab (xL zar (zab (zaa 1) lNil)) lNil))))
 (vSeq (zaR 2 (zg7 (zaa 1) (xC (.bl true))))
 (vSeq (vFor (itR2 (zab (x2 pAdd (zaa 1) (xC (.int (1)))) (zab (xL pLen (zab (zaa 0) lNil)) lNil))) (gN 3)
 (vIf (bOf (xL pAny (zab (zap [none,some 2] (itT (x2 pIxL (zaa 0) (zaa 3))) (gN 0) zaC (xDIn false (zaa 0) (xVar 1))) lNil)))
 (zbU 2 (zaa 3) (xC (.bl true)))
 zak))
 (vRet (xL zfX (zab (xVar 2) lNil)) true))))
def zfh:List PV->Option PV:=fnM 2 4 true zgM
def zeX:VF:=(vSeq (zbE (xL zbJ (zab (zaa 0) (zab (zaa 1) (zab (zaa 2) (zab (zaa 3) lNil))))))
 (vSeq (zaR 4 (zi2 (xL zaQ (zab (zaa 1) (zab (zaa 3) lNil))) (xC (.bl true))))
 (vSeq (vFor (itL (xL zfh (zab (xL zaW (zab (zaa 0) lNil)) (zab (zaa 1) lNil)))) (gN 5)
 (vIf (bOf (xDIn false (zaa 2) (xL zaj (zab (zaa 0) (zab (zaa 5) lNil)))))
 (vFor (itE (zab (xL zbw (zab (zaa 0) (zab (zaa 5) (zab (zaa 2) lNil)))) lNil)) (gT [6,7])
 (vIf (bOf (zg8 (zaa 7) (xVar 4)))
 (zeu 4 (xL zaQ (zab (zaa 5) (zab (zaa 6) lNil))) (xC (.bl true)))
 zak))
 zak))
 (vRet (xL zhJ (zab (xVar 4) lNil)) true))))
def f_lives:List PV->Option PV:=fnM 4 8 true zeX
def zbN:VF:=(vSeq (zai 4 (zbQ (xL zaj (zab (zaa 0) (zab (zaa 1) lNil))) (zaa 2)))
 (vSeq (zai 5 (zbQ (xL zaj (zab (zaa 0) (zab (zaa 3) lNil))) (zaa 2)))
 (vSeq (zai 6 (xL zd9 (zab (zaa 5) (zab (zaa 4) lNil))))
 (vSeq (zai 7 (xL f_whence (zab (zaa 0) (zab (zaa 1) (zab (zaa 2) lNil)))))
 (vSeq (zai 8 (zap [none,some 4,some 7,some 1] (itR1 (zab (xL pLen (zab (zaa 4) lNil)) lNil)) (gN 0) (bOf (x2 (pEqT 3) (x2 pIxL (zaa 2) (zaa 0)) (xL zaQ (zab (zaa 3) (zab (zaa 0) lNil))))) (x2 pIxL (zaa 1) (zaa 0))))
 (vSeq (vIf (bOf (x2 (pEqL 3 true) (zaa 8) (zap [none,none,none] (itL (zaa 6)) (gT [0,1,2]) (bOf (x2 pEq (zaa 0) (xC (.str "put")))) (zaa 2))))
 (vRet (xC (.bl false)) false)
 zak)
 (vSeq (zai 9 (xL f__law_left (zab (zaa 6) (zab (xL pLen (zab (zaa 5) lNil)) lNil))))
 (vSeq (zai 10 (xL f_whence (zab (zaa 0) (zab (zaa 3) (zab (zaa 2) lNil)))))
 (vSeq (vIf (bOf (x2 (pEqL 3 true) (zap [none,some 1] (itL (zaa 7)) (gN 0) (bOf (x2 pNe (x2 pIxT (zaa 0) (xC (.int (0)))) (zaa 1))) (zaa 0)) (zap [none,some 10] (itL (zaa 9)) (gN 0) zaC (x2 pIxL (zaa 1) (zaa 0)))))
 (vRet (xC (.bl false)) false)
 zak)
 (vSeq (vFor (itR1 (zab (xL pLen (zab (zaa 5) lNil)) lNil)) (gN 11)
 (vSeq (zai 12 (zap [none,some 1] (itL (xL f_lives (zab (zaa 0) (zab (zaa 3) (zab (zaa 2) (zab (zaa 11) lNil)))))) (gN 0) (bOf (x2 pEq (x2 pIxT (zaa 0) (xC (.int (0)))) (zaa 1))) (zaa 0)))
 (vIf (bOf (x2 pNe (xL pLen (zab (zaa 12) lNil)) (xL zlH (zab (x2 (pIn false) (zaa 11) (zaa 9)) lNil))))
 (vRet (xC (.bl false)) false)
 zak)))
 (vRet (xC (.bl true)) false)))))))))))
def zbi:List PV->Option PV:=fnM 4 13 false zbN
def zq2:VF:=(vSeq (zai 1 (xL f__law_versions (zab (zaa 0) (zab (xC (.int (0))) (zab (xC (.int (4))) lNil)))))
 (vSeq (zai 2 (xL f__law_history (zab (zaa 1) lNil)))
 (vSeq (zai 3 (x2 pIxL (xL zar (fun _=>some [(.str "f"),(.str "gg")])) (x2 pMod (xL zaB (zab (zaa 0) (zab (xC (.int (20))) lNil))) (xC (.int (2))))))
 (vSeq (vFor (itR1 (zab (xL pLen (zab (zaa 1) lNil)) lNil)) (gN 4)
 (vSeq (vUnp (gT [5,6]) (x2 pIxL (zaa 1) (zaa 4)))
 (vIf (bOf (xDIn false (zaa 3) (zaa 6)))
 (vSeq (zai 7 (zap [none,some 3,some 1] (itT (zaa 5)) (gN 0) (bOf (xDIn false (zaa 1) (x2 pIxT (x2 pIxL (zaa 2) (zaa 0)) (xC (.int (1)))))) (zaa 0)))
 (vSeq (vIf (bOf (x2 pEq (xL pLen (zab (zaa 7) lNil)) (xC (.int (0)))))
 (vIf (bOf (x2 (pEqL 3 true) (xL f_whence (zab (zaa 2) (zab (zaa 4) (zab (zaa 3) lNil)))) (zap [none,some 4] (itR1 (zab (xL pLen (zab (zbQ (zaa 6) (zaa 3)) lNil)) lNil)) (gN 0) zaC (xL zaQ (zab (zaa 1) (zab (zaa 0) lNil))))))
 (vRet (xC (.bl false)) false)
 zak)
 zak)
 (vIf (bAnd (bOf (x2 pEq (xL pLen (zab (zaa 7) lNil)) (xC (.int (1))))) (bNot (bOf (xL zbi (zab (zaa 2) (zab (zaa 4) (zab (zaa 3) (zab (x2 pIxL (zaa 7) (xC (.int (0)))) lNil))))))))
 (vRet (xC (.bl false)) false)
 zak)))
 zak)))
 (vRet (xC (.bl true)) false)))))
def zrn:List PV->Option PV:=fnM 1 8 false zq2
section
variable {P:Program}{w:World}{K:PySem.W.Frag}{mg:Str->Option Value}{base:Heap}
theorem zka:FnScope ["self"] ["self"] (zad zht):=by tm_at "qsc"
theorem zae (T:Prg K mg):CMk P w K mg base HC.c "History" 1:=zt3 T.DI zka rfl (fun _ _ _ _ _ _ _=>rfl) (fun _ _ _ _ _ _ _=>rfl) T.mc_History (Or.inl rfl)
theorem zhn:FnScope ["script","k","base"] ["script","k"] (zad zeG):=by tm_at "qsc"
theorem zcx (T:Prg K mg):CF P w K mg base CX0 "_law_cell" 1 (spV false zaB):=by
 have:=T.bl;have:=T.DI.c;have:=T.DI.e;have:=T.DI.t;have:=@zae _ P w K mg base T;exact okQ T.D__law_cell zhn (by tm_at "qD")
theorem zfy:FnScope ["script","k","cell","stir"] ["script","k"] (zad zdr):=by tm_at "qsc"
theorem zfH (T:Prg K mg):CF P w K mg base CX0 "_law_digits" 2 (spV false zaF):=by
 have:=T.bl;have:=T.DI.c;have:=T.DI.e;have:=T.DI.t;have:=@zae _ P w K mg base T;have:=@zcx _ P w K mg base T;exact okQ T.D__law_digits zfy (by tm_at "qD")
theorem zfx:FnScope ["left","number","some","turn"] ["left","number"] (zad zdq):=by tm_at "qsc"
theorem zfG (T:Prg K mg):CF P w K mg base CX0 "_law_elders" 1 (spV false zbb):=by
 have:=T.bl;have:=T.DI.c;have:=T.DI.e;have:=T.DI.t;have:=@zae _ P w K mg base T;exact okQ T.D__law_elders zfx (by tm_at "qD")
theorem zez:FnScope ["left","many","row","place"] ["left","many"] (zad zcY):=by tm_at "qsc"
theorem zeR (T:Prg K mg):CF P w K mg base CX0 "_law_letters" 1 (spV true zaZ):=by
 have:=T.bl;have:=T.DI.c;have:=T.DI.e;have:=T.DI.t;have:=@zae _ P w K mg base T;exact okQ T.D__law_letters zez (by tm_at "qD")
theorem zef:FnScope ["old","left","found","line"] ["old","left"] (zad zcw):=by tm_at "qsc"
theorem zej (T:Prg K mg):CF P w K mg base CX0 "_law_some_row" 1 (spV true zaK):=by
 have:=T.bl;have:=T.DI.c;have:=T.DI.e;have:=T.DI.t;have:=@zae _ P w K mg base T;exact okQ T.D__law_some_row zef (by tm_at "qD")
theorem zee:FnScope ["script","k","most","found","number","left","more","elders","tree","path","rows","row"] ["script","k","most"] (zad zcv):=by tm_at "qsc"
theorem zei (T:Prg K mg):CF P w K mg base CX0 "_law_versions" 3 (spV true f__law_versions):=by
 have:=T.bl;have:=T.DI.c;have:=T.DI.e;have:=T.DI.t;have:=@zae _ P w K mg base T;have:=@zcx _ P w K mg base T;have:=@zfH _ P w K mg base T;have:=@zfG _ P w K mg base T;have:=@zeR _ P w K mg base T;have:=@zej _ P w K mg base T;exact okQ T.D__law_versions zee (by tm_at "qD")
theorem zeC:FnScope ["self"] ["self"] (zad zc1):=by tm_at "qsc"
theorem zeT (T:Prg K mg):CM P w K mg base CX0 HC.c "many" 1 (spV false zaP):=by
 have:=T.bl;have:=T.DI.c;have:=T.DI.e;have:=T.DI.t;have:=@zae _ P w K mg base T;exact okM T.D_History_many zeC (by tm_at "qD")
theorem zj9:FnScope ["text"] ["text"] (zad zhs):=by tm_at "qsc"
theorem zfZ (T:Prg K mg):CF P w K mg base CX0 "is_line" 1 (spV false zba):=by
 have:=T.bl;have:=T.DI.c;have:=T.DI.e;have:=T.DI.t;have:=@zae _ P w K mg base T;have:=T.g_MOST_SIGNS;exact okQ T.D_is_line zj9 (by tm_at "qD")
theorem zj8:FnScope ["text"] ["text"] (zad zhr):=by tm_at "qsc"
theorem zkm (T:Prg K mg):CF P w K mg base CX0 "is_path" 2 (spV false zb8):=by
 have:=T.bl;have:=T.DI.c;have:=T.DI.e;have:=T.DI.t;have:=@zae _ P w K mg base T;have:=@zfZ _ P w K mg base T;exact okQ T.D_is_path zj8 (by tm_at "qD")
theorem zk7:FnScope ["row"] ["row"] (zad zje):=by tm_at "qsc"
theorem zhO (T:Prg K mg):CF P w K mg base CX0 "is_row" 2 (spV false zbT):=by
 have:=T.bl;have:=T.DI.c;have:=T.DI.e;have:=T.DI.t;have:=@zae _ P w K mg base T;have:=@zfZ _ P w K mg base T;have:=T.g_MOST_LINES;exact okQ T.D_is_row zk7 (by tm_at "qD")
theorem zj7:FnScope ["tree"] ["tree"] (zad zhq):=by tm_at "qsc"
theorem zkl (T:Prg K mg):CF P w K mg base CX0 "is_tree" 3 (spV false zcJ):=by
 have:=T.bl;have:=T.DI.c;have:=T.DI.e;have:=T.DI.t;have:=@zae _ P w K mg base T;have:=@zkm _ P w K mg base T;have:=@zhO _ P w K mg base T;have:=T.g_MOST_FILES;exact okQ T.D_is_tree zj7 (by tm_at "qD")
theorem zgu:FnScope ["tree"] ["tree"] (zad zd0):=by tm_at "qsc"
theorem zgI (T:Prg K mg):CF P w K mg base CX0 "check_tree" 4 (spV false zbn):=by
 have:=T.bl;have:=T.DI.c;have:=T.DI.e;have:=T.DI.t;have:=@zae _ P w K mg base T;have:=@zkl _ P w K mg base T;exact okQ T.D_check_tree zgu (by tm_at "qD")
theorem zfv:FnScope ["tree","files","path"] ["tree"] (zad zdo):=by tm_at "qsc"
theorem zc4 (T:Prg K mg):CF P w K mg base CX0 "copied_tree" 1 (spV true zaN):=by
 have:=T.bl;have:=T.DI.c;have:=T.DI.e;have:=T.DI.t;have:=@zae _ P w K mg base T;exact okQ T.D_copied_tree zfv (by tm_at "qD")
theorem zgw:FnScope ["elders","version","last","elder"] ["elders","version"] (zad zd2):=by tm_at "qsc"
theorem zdu (T:Prg K mg):CF P w K mg base CX0 "are_elders" 1 (spV false zaO):=by
 have:=T.bl;have:=T.DI.c;have:=T.DI.e;have:=T.DI.t;have:=@zae _ P w K mg base T;have:=T.g_MOST_ELDERS;exact okQ T.D_are_elders zgw (by tm_at "qD")
theorem zcq:FnScope ["self","elders","tree","number"] ["self","elders","tree"] (zad zbG):=by tm_at "qsc"
theorem zcs (T:Prg K mg):CM P w K mg base CX0 HC.c "put_version" 5 (spM (hSh HC.c) zan):=by
 have:=T.bl;have:=T.DI.c;have:=T.DI.e;have:=T.DI.t;have:=@zae _ P w K mg base T;have:=@zeT _ P w K mg base T;have:=@zdu _ P w K mg base T;have:=@zgI _ P w K mg base T;have:=@zc4 _ P w K mg base T;have:=T.g_MOST_VERSIONS;exact okMM T.D_History_put_version zcq (by tm_at "qD")
theorem zeA:FnScope ["versions","history","elders","tree","copied","path"] ["versions"] (zad zcZ):=by tm_at "qsc"
theorem zeS (T:Prg K mg):CF P w K mg base CX0 "_law_history" 6 (spV false f__law_history):=by
 have:=T.bl;have:=T.DI.c;have:=T.DI.e;have:=T.DI.t;have:=@zae _ P w K mg base T;have:=@zcs _ P w K mg base T;exact okQ T.D__law_history zeA (by tm_at "qD")
theorem zk6:FnScope ["web"] ["web"] (zad zjd):=by tm_at "qsc"
theorem zlM (T:Prg K mg):CF P w K mg base CX0 "is_web" 2 (spV false zdF):=by
 have:=T.bl;have:=T.DI.c;have:=T.DI.e;have:=T.DI.t;have:=@zae _ P w K mg base T;have:=@zdu _ P w K mg base T;have:=T.g_MOST_VERSIONS;exact okQ T.D_is_web zk6 (by tm_at "qD")
theorem zhk:FnScope ["web"] ["web"] (zad zeD):=by tm_at "qsc"
theorem zhP (T:Prg K mg):CF P w K mg base CX0 "check_web" 3 (spV false zb0):=by
 have:=T.bl;have:=T.DI.c;have:=T.DI.e;have:=T.DI.t;have:=@zae _ P w K mg base T;have:=@zlM _ P w K mg base T;exact okQ T.D_check_web zhk (by tm_at "qD")
theorem zgt:FnScope ["web","version"] ["web","version"] (zad zdZ):=by tm_at "qsc"
theorem zgH (T:Prg K mg):CF P w K mg base CX0 "is_version" 1 (spV false zbm):=by
 have:=T.bl;have:=T.DI.c;have:=T.DI.e;have:=T.DI.t;have:=@zae _ P w K mg base T;exact okQ T.D_is_version zgt (by tm_at "qD")
theorem zdM:FnScope ["web","some"] ["web","some"] (zad zcm):=by tm_at "qsc"
theorem zb7 (T:Prg K mg):CF P w K mg base CX0 "check_versions" 4 (spV false zas):=by
 have:=T.bl;have:=T.DI.c;have:=T.DI.e;have:=T.DI.t;have:=@zae _ P w K mg base T;have:=@zhP _ P w K mg base T;have:=@zgH _ P w K mg base T;exact okQ T.D_check_versions zdM (by tm_at "qD")
theorem zeB:FnScope ["self","version"] ["self","version"] (zad zc0):=by tm_at "qsc"
theorem zbp (T:Prg K mg):CM P w K mg base CX0 HC.c "tree" 5 (spV true zaj):=by
 have:=T.bl;have:=T.DI.c;have:=T.DI.e;have:=T.DI.t;have:=@zae _ P w K mg base T;have:=@zb7 _ P w K mg base T;have:=@zc4 _ P w K mg base T;exact okM T.D_History_tree zeB (by tm_at "qD")
theorem zk5:FnScope ["history","version","path","tree"] ["history","version","path"] (zad zjc):=by tm_at "qsc"
theorem zeP (T:Prg K mg):CF P w K mg base CX0 "row_at" 6 (spV false zbD):=by
 have:=T.bl;have:=T.DI.c;have:=T.DI.e;have:=T.DI.t;have:=@zae _ P w K mg base T;have:=@zbp _ P w K mg base T;exact okQ T.D_row_at zk5 (by tm_at "qD")
theorem zfz:FnScope ["self"] ["self"] (zad zds):=by tm_at "qsc"
theorem zc5 (T:Prg K mg):CM P w K mg base CX0 HC.c "web" 1 (spV true zaW):=by
 have:=T.bl;have:=T.DI.c;have:=T.DI.e;have:=T.DI.t;have:=@zae _ P w K mg base T;exact okM T.D_History_web zfz (by tm_at "qD")
theorem zhl:FnScope ["row"] ["row"] (zad zeE):=by tm_at "qsc"
theorem zhQ (T:Prg K mg):CF P w K mg base CX0 "check_row" 3 (spV false zbk):=by
 have:=T.bl;have:=T.DI.c;have:=T.DI.e;have:=T.DI.t;have:=@zae _ P w K mg base T;have:=@zhO _ P w K mg base T;exact okQ T.D_check_row zhl (by tm_at "qD")
theorem zey:FnScope ["line","new","heights","higher","j","other"] ["line","new","heights"] (zad zcX):=by tm_at "qsc"
theorem zeQ (T:Prg K mg):CF P w K mg base CX0 "next_heights" 1 (spV true zaY):=by
 have:=T.bl;have:=T.DI.c;have:=T.DI.e;have:=T.DI.t;have:=@zae _ P w K mg base T;exact okQ T.D_next_heights zey (by tm_at "qD")
theorem zfw:FnScope ["old","new","told","line"] ["old","new"] (zad zdp):=by tm_at "qsc"
theorem zfF (T:Prg K mg):CF P w K mg base CX0 "all_heights" 2 (spV true zbx):=by
 have:=T.bl;have:=T.DI.c;have:=T.DI.e;have:=T.DI.t;have:=@zae _ P w K mg base T;have:=@zeQ _ P w K mg base T;exact okQ T.D_all_heights zfw (by tm_at "qD")
theorem zgs:FnScope ["row","line","start","place"] ["row","line","start"] (zad zdY):=by tm_at "qsc"
theorem zgG (T:Prg K mg):CF P w K mg base CX0 "place_from" 1 (spV false zaH):=by
 have:=T.bl;have:=T.DI.c;have:=T.DI.e;have:=T.DI.t;have:=@zae _ P w K mg base T;exact okQ T.D_place_from zgs (by tm_at "qD")
theorem zfu:FnScope ["ends","i","j"] ["ends","i","j"] (zad zdn):=by tm_at "qsc"
theorem zfE (T:Prg K mg):CF P w K mg base CX0 "most_behind" 1 (spV false zaq):=by
 have:=T.bl;have:=T.DI.c;have:=T.DI.e;have:=T.DI.t;have:=@zae _ P w K mg base T;exact okQ T.D_most_behind zfu (by tm_at "qD")
theorem zqe:FnScope ["old","new","ends","pairs","start","i","line","j"] ["old","new"] (zad zoL):=by tm_at "qsc"
theorem zlL (T:Prg K mg):CF P w K mg base CX0 "kept" 4 (spV true zcI):=by
 have:=T.bl;have:=T.DI.c;have:=T.DI.e;have:=T.DI.t;have:=@zae _ P w K mg base T;have:=@zfF _ P w K mg base T;have:=@zhQ _ P w K mg base T;have:=@zfE _ P w K mg base T;have:=@zgG _ P w K mg base T;exact okQ T.D_kept zqe (by tm_at "qD")
theorem zj6:FnScope ["history","version","path","row","found","elder","tree","i","j"] ["history","version","path"] (zad zhp):=by tm_at "qsc"
theorem zfY (T:Prg K mg):CF P w K mg base CX0 "sources" 7 (spV true zbw):=by
 have:=T.bl;have:=T.DI.c;have:=T.DI.e;have:=T.DI.t;have:=@zae _ P w K mg base T;have:=@zbp _ P w K mg base T;have:=@zc5 _ P w K mg base T;have:=@zlL _ P w K mg base T;have:=@zeP _ P w K mg base T;exact okQ T.D_sources zj6 (by tm_at "qD")
theorem zj5:FnScope ["line","version","found"] ["line","version","found"] (zad zho):=by tm_at "qsc"
theorem zkk (T:Prg K mg):CF P w K mg base CX0 "step_up" 1 (spV false zbZ):=by
 have:=T.bl;have:=T.DI.c;have:=T.DI.e;have:=T.DI.t;have:=@zae _ P w K mg base T;exact okQ T.D_step_up zj5 (by tm_at "qD")
theorem zk4:FnScope ["history","version","path","lines","number","found"] ["history","version","path"] (zad zjb):=by tm_at "qsc"
theorem zhN (T:Prg K mg):CF P w K mg base CX0 "whence" 8 (spV false f_whence):=by
 have:=T.bl;have:=T.DI.c;have:=T.DI.e;have:=T.DI.t;have:=@zae _ P w K mg base T;have:=@zeP _ P w K mg base T;have:=@zfY _ P w K mg base T;have:=@zkk _ P w K mg base T;exact okQ T.D_whence zk4 (by tm_at "qD")
theorem zqf:FnScope ["old","new","deeds","old_start","new_start","i","j"] ["old","new"] (zad zoM):=by tm_at "qsc"
theorem zqY (T:Prg K mg):CF P w K mg base CX0 "edit" 5 (spV true zd9):=by
 have:=T.bl;have:=T.DI.c;have:=T.DI.e;have:=T.DI.t;have:=@zae _ P w K mg base T;have:=@zlL _ P w K mg base T;exact okQ T.D_edit zqf (by tm_at "qD")
theorem zhm:FnScope ["deeds","long","gone"] ["deeds","long"] (zad zeF):=by tm_at "qsc"
theorem zhR (T:Prg K mg):CF P w K mg base CX0 "_law_left" 1 (spV true f__law_left):=by
 have:=T.bl;have:=T.DI.c;have:=T.DI.e;have:=T.DI.t;have:=@zae _ P w K mg base T;exact okQ T.D__law_left zhm (by tm_at "qD")
theorem zgv:FnScope ["history","version","path","place","row"] ["history","version","path","place"] (zad zd1):=by tm_at "qsc"
theorem zgJ (T:Prg K mg):CF P w K mg base CX0 "check_line" 7 (spV false zbJ):=by
 have:=T.bl;have:=T.DI.c;have:=T.DI.e;have:=T.DI.t;have:=@zae _ P w K mg base T;have:=@zeP _ P w K mg base T;exact okQ T.D_check_line zgv (by tm_at "qD")
theorem znq:FnScope ["web","version","found","number"] ["web","version"] (zad zk9):=by tm_at "qsc"
theorem znT (T:Prg K mg):CF P w K mg base CX0 "below" 5 (spV true zfh):=by
 have:=T.bl;have:=T.DI.c;have:=T.DI.e;have:=T.DI.t;have:=@zae _ P w K mg base T;have:=@zb7 _ P w K mg base T;exact okQ T.D_below znq (by tm_at "qD")
theorem znp:FnScope ["history","version","path","place","found","number","later","source"] ["history","version","path","place"] (zad zk8):=by tm_at "qsc"
theorem znS (T:Prg K mg):CF P w K mg base CX0 "lives" 8 (spV true f_lives):=by
 have:=T.bl;have:=T.DI.c;have:=T.DI.e;have:=T.DI.t;have:=@zae _ P w K mg base T;have:=@zbp _ P w K mg base T;have:=@zc5 _ P w K mg base T;have:=@znT _ P w K mg base T;have:=@zgJ _ P w K mg base T;have:=@zfY _ P w K mg base T;exact okQ T.D_lives znp (by tm_at "qD")
theorem zdN:FnScope ["history","number","path","elder","row","old","deeds","told","fresh","left","before","place","here"] ["history","number","path","elder"] (zad zcn):=by tm_at "qsc"
theorem zdQ (T:Prg K mg):CF P w K mg base CX0 "_law_one_elder" 9 (spV false zbi):=by
 have:=T.bl;have:=T.DI.c;have:=T.DI.e;have:=T.DI.t;have:=@zae _ P w K mg base T;have:=@zbp _ P w K mg base T;have:=@zhR _ P w K mg base T;have:=@zqY _ P w K mg base T;have:=@znS _ P w K mg base T;have:=@zhN _ P w K mg base T;exact okQ T.D__law_one_elder zdN (by tm_at "qD")
theorem zsR:FnScope ["script","versions","history","path","number","elders","tree","some"] ["script"] (zad zqg):=by tm_at "qsc"
theorem zt2 (T:Prg K mg) {a:Addr}{d:FuncData}(F:Fun K "law" "law" zqg a d):FnOk P w K mg base CX0 10 a d ["script"] (spV false zrn):=by
 have:=T.bl;have:=T.DI.c;have:=T.DI.e;have:=T.DI.t;have:=@zae _ P w K mg base T;have:=@zcx _ P w K mg base T;have:=@zeS _ P w K mg base T;have:=@zdQ _ P w K mg base T;have:=@zei _ P w K mg base T;have:=@zhN _ P w K mg base T;exact okL F zsR (by tm_at "qD")
end
end K57
namespace WR
open PySem L2
def zeZ:VF:=(vRet (xB (bAnd (bOf (x2 pLe (xL zkf (zab (zaa 0) lNil)) (xC (.int (8))))) (bOf (xL pAll (zab (zap [none] (itS (zaa 0)) (gN 0) zaC (zdj pLeS pLeS (xC (.str "a")) (zaa 0) (xC (.str "z")))) lNil))))) false)
def zba:List PV->Option PV:=fnM 1 1 false zeZ
def zch:VF:=(vRet (xB (bAnd (bOf (x2 pLe (xL pLen (zab (zaa 0) lNil)) (xC (.int (40))))) (bOf (xL pAll (zab (zap [none] (itL (zaa 0)) (gN 0) zaC (xL zba (zab (zaa 0) lNil))) lNil))))) false)
def zbT:List PV->Option PV:=fnM 1 1 false zch
def zbX:VF:=(vIf (bNot (bOf (xL zbT (zab (zaa 0) lNil))))
 zct
 zak)
def zbk:List PV->Option PV:=fnM 1 1 false zbX
def zb5:VF:=(vSeq (zaR 3 (xL zar (zab (xC (.int (0))) lNil)))
 (vSeq (vFor (itE (zab (zaa 1) lNil)) (gT [4,5])
 (vIf (bOf (x2 pEq (zaa 5) (zaa 0)))
 (zao 3 (x2 pAdd (x2 pIxL (zaa 2) (zaa 4)) (xC (.int (1)))))
 (zao 3 (xL zke (zab (x2 pIxL (zaa 2) (x2 pAdd (zaa 4) (xC (.int (1))))) (zab (x2 pIxL (xVar 3) (zaa 4)) lNil))))))
 (zb2 3)))
def zaY:List PV->Option PV:=fnM 3 6 true zb5
def zci:VF:=(vSeq (zaR 2 (xL zar (zab (x2 pRep (xL zar (zab (xC (.int (0))) lNil)) (x2 pAdd (xL pLen (zab (zaa 1) lNil)) (xC (.int (1))))) lNil)))
 (vSeq (vFor (itL (zaa 0)) (gN 3)
 (zao 2 (xL zaY (zab (zaa 3) (zab (zaa 1) (zab (x2 pIxL (xVar 2) (x1 pNeg (xC (.int (1))))) lNil))))))
 (zb2 2)))
def zbx:List PV->Option PV:=fnM 2 4 true zci
def zcB:VF:=(vSeq (vFor (itR2 (zab (zaa 2) (zab (xL pLen (zab (zaa 0) lNil)) lNil))) (gN 3)
 (vIf (bOf (x2 pEq (x2 pIxL (zaa 0) (zaa 3)) (zaa 1)))
 (vRet (zaa 3) false)
 zak))
 (vRet (xC PV.non) false))
def zaH:List PV->Option PV:=fnM 3 4 false zcB
def zbs:VF:=(vRet (x2 pIxL (x2 pIxL (zaa 0) (x2 pSub (x2 pSub (xL pLen (zab (zaa 0) lNil)) (xC (.int (1)))) (zaa 1))) (x2 pSub (x2 pSub (xL pLen (zab (x2 pIxL (zaa 0) (xC (.int (0)))) lNil)) (xC (.int (1)))) (zaa 2))) false)
def zaq:List PV->Option PV:=fnM 3 3 false zbs
def zlV:VF:=(vSeq (zbE (xL zbk (zab (zaa 0) lNil)))
 (vSeq (zbE (xL zbk (zab (zaa 1) lNil)))
 (vSeq (zai 2 (xL zbx (zab (xRev (zaa 0) (x1 pNeg (xC (.int (1))))) (zab (xRev (zaa 1) (x1 pNeg (xC (.int (1))))) lNil))))
 (vSeq (zaR 3 (xL zar lNil))
 (vSeq (zai 4 (xC (.int (0))))
 (vSeq (vFor (itE (zab (zaa 0) lNil)) (gT [5,6])
 (vSeq (zai 7 (xL zaH (zab (zaa 1) (zab (zaa 6) (zab (zaa 4) lNil)))))
 (vIf (bAnd (bOf (x1 zhK (zaa 7))) (bOf (x2 pEq (x2 pAdd (xL zaq (zab (zaa 2) (zab (x2 pAdd (zaa 5) (xC (.int (1)))) (zab (x2 pAdd (zaa 7) (xC (.int (1)))) lNil)))) (xC (.int (1)))) (xL zaq (zab (zaa 2) (zab (zaa 5) (zab (zaa 4) lNil)))))))
 (vSeq (zao 3 (xL zaQ (zab (zaa 5) (zab (zaa 7) lNil))))
 (zai 4 (x2 pAdd (zaa 7) (xC (.int (1))))))
 zak)))
 (zb2 3)))))))
def zcI:List PV->Option PV:=fnM 2 8 true zlV
def zlW:VF:=(vSeq (zaR 2 (xL zar lNil))
 (vSeq (zai 3 (xC (.int (0))))
 (vSeq (zai 4 (xC (.int (0))))
 (vSeq (vFor (itL (x2 pCat (xL zcI (zab (zaa 0) (zab (zaa 1) lNil))) (xL zar (zab (xL zaQ (zab (xL pLen (zab (zaa 0) lNil)) (zab (xL pLen (zab (zaa 1) lNil)) lNil))) lNil)))) (gT [5,6])
 (vSeq (zcb 2 (zap [none,some 0] (itR2 (zab (zaa 3) (zab (zaa 5) lNil))) (gN 0) zaC (xL zaQ (zab (xC (.str "take")) (zab (zaa 0) (zab (x2 pIxL (zaa 1) (zaa 0)) lNil))))))
 (vSeq (zcb 2 (zap [none,some 5] (itL (xSl (zaa 1) (zbq (zaa 4)) (zbq (zaa 6)))) (gN 0) zaC (xL zaQ (zab (xC (.str "put")) (zab (zaa 1) (zab (zaa 0) lNil))))))
 (vSeq (zai 3 (x2 pAdd (zaa 5) (xC (.int (1)))))
 (zai 4 (x2 pAdd (zaa 6) (xC (.int (1)))))))))
 (zb2 2)))))
def zd9:List PV->Option PV:=fnM 2 7 true zlW
def zaV:VF:=(vSeq (vIf (bOf (x2 pLt (zaa 1) (xL pLen (zab (zaa 0) lNil))))
 (vRet (x2 pIxL (zaa 0) (zaa 1)) false)
 zak)
 (vSeq (zai 2 (xC (.int (0))))
 (vSeq (vIf (bOf (x2 pGt (xL pLen (zab (zaa 0) lNil)) (xC (.int (0)))))
 (zai 2 (x2 pIxL (zaa 0) (xC (.int (0)))))
 zak)
 (vRet (x2 pMod (x2 pAdd (x2 pMul (x2 pMod (zaa 2) (xC (.int (65521)))) (xC (.int (48271)))) (x2 pMul (zaa 1) (xC (.int (30103))))) (xC (.int (65521)))) false))))
def zaB:List PV->Option PV:=fnM 2 3 false zaV
def zaU:VF:=(vSeq (zai 2 (xL zaB (zab (zaa 0) (zab (zaa 1) lNil))))
 (vSeq (vIf (bOf (x2 pEq (x2 pMod (zaa 2) (xC (.int (2)))) (xC (.int (0)))))
 (vRet (x2 pDiv (zaa 2) (xC (.int (2)))) false)
 zak)
 (vSeq (zai 3 (x2 pMod (x2 pMul (zaa 2) (xC (.int (48271)))) (xC (.int (2147483647)))))
 (vSeq (zai 3 (x2 pMod (x2 pAdd (x2 pMul (zaa 3) (zaa 3)) (xC (.int (12345)))) (xC (.int (2147483647)))))
 (vSeq (zai 3 (x2 pMod (x2 pMul (zaa 3) (xC (.int (16807)))) (xC (.int (2147483647)))))
 (vRet (x2 pAdd (x2 pMul (x2 pMod (x2 pMul (zaa 3) (zaa 3)) (xC (.int (2147483647)))) (xC (.int (48271)))) (x2 pDiv (zaa 3) (xC (.int (8))))) false))))))
def zaF:List PV->Option PV:=fnM 2 4 false zaU
abbrev Row:=List Str
def rowP (r:Row):PV:=.lst (r.map PV.str)
def L0:List Str:=["a","b","c","d","","axy","bxy","cxy","dxy","xy","zz"]
def zl4 (x:Str):Prop:=x∈L0
def zeg (r:Row):Prop:=r.length<=40 /\ ∀x∈r,zl4 x
theorem il {x:Str}(h:zl4 x):zba [.str x]=some (.bl true):=by
 unfold zl4 L0 at h;simp only [Zk,List.not_mem_nil,or_false] at h;rcases h with rfl|rfl|rfl|rfl|rfl|rfl|rfl|rfl|rfl|rfl|rfl<;>rfl
theorem zjg (r:Row):pLen [rowP r]=some (.int r.length):=by unfold rowP;rw [zpf,Zd]
theorem ir {r:Row}(h:zeg r):zbT [rowP r]=some (.bl true):=by
 have hl:=h.1;have c:zap [none] (itL (zaa 0)) (gN 0) zaC (xL zba (zab (zaa 0) lNil)) [some (rowP r,.shr)]=some (.lst ((r.map fun _=>true).map PV.bl)):=by
  refine zbA (xs:=r.map PV.str) rfl (by rw [Zd];omega) ?_;rw [Zi];refine zfi PV.str _ (fun ρ=>∃s,ρ = [s]) r _ ⟨none,rfl⟩ ?_;rintro x hx ρ ⟨s,rfl⟩;exact ⟨_,rfl,⟨_,rfl⟩,il (h.2 x hx)⟩
 refine zay (b:=false) rfl ?_ rfl;show zch [some (rowP r,.shr)]=_;unfold zch;have:decide ((r.length:Int)<=40)=true:=Zn (by omega)
 (repeat (first|tm_at "ev" | simp (discharger:=tm_at "evd") only [c,zrv,zjg,this]))
 simp
theorem cr {r:Row}(h:zeg r):zbk [rowP r]=some .non:=by
 refine zhy (ρ:=[some (rowP r,.shr)]) rfl ?_;show zbX [some (rowP r,.shr)]=_;unfold zbX
 (repeat (first|tm_at "ev" | simp (discharger:=tm_at "evd") only [ir h]))
def zcG (g:List (List Int)):PV:=.lst (g.map zax)
def nhB:VF:=(vIf (bOf (x2 pEq (zaa 5) (zaa 0)))
 (zao 3 (x2 pAdd (x2 pIxL (zaa 2) (zaa 4)) (xC (.int (1)))))
 (zao 3 (xL zke (zab (x2 pIxL (zaa 2) (x2 pAdd (zaa 4) (xC (.int (1))))) (zab (x2 pIxL (xVar 3) (zaa 4)) lNil)))))
theorem zjJ {r:Row}{i:Nat}{x:PV}(h:(zcj (r.map PV.str))[i]?=some x):∃z,r[i]?=some z/\x=.tup [.int (i:Nat),.str z]:=by
 unfold zcj at h;rw [Zj,List.getElem?_zipIdx] at h;obtain ⟨⟨p,j⟩,h1,rfl⟩:=Zb.mp h;obtain ⟨q,h2,h3⟩:=Zb.mp h1;rw [Zj] at h2;obtain ⟨z,h4,rfl⟩:=Zb.mp h2;cases h3;exact ⟨z,h4,by simp⟩
theorem zjI (r:Row):(zcj (r.map PV.str)).length=r.length:=by unfold zcj;simp
theorem ints_get {l:List Int}{i:Nat}(h:i < l.length):l[i]?=some l[i]:=Zc h
theorem nh (line:Str) (new:Row) (hs:List Int) (hl:hs.length=new.length+1) (hn:new.length<=1000):∃hs':List Int,zaY [.str line,rowP new,zax hs]=some (zax hs')/\hs'.length=new.length+1:=by
 obtain ⟨ρ',h1,acc,s4,s5,rfl,h2⟩:=zfA (tg:=gT [4,5]) (body:=nhB) (xs:=zcj (new.map PV.str)) (ρ:=[some (.str line,.shr),some (rowP new,.shr),some (zax hs,.shr),some (zax [0],.own),none,none])
  (fun i ρ=>∃(acc:List Int) (s4 s5:Option (PV×Fl)),ρ = [some (.str line,.shr),some (rowP new,.shr),some (zax hs,.shr),some (zax acc,.own),s4,s5]/\acc.length=i+1) ⟨[0],none,none,rfl,rfl⟩ (by
  rintro i x ρ hx ⟨acc,s4,s5,rfl,ha⟩;obtain ⟨z,hz,rfl⟩:=zjJ hx;have hi:=(Zg.mp hz).1;have e1:((i:Nat):Int) + 1=((i+1:Nat):Int):=by omega
  have a1:=zb9 (f:=PV.int) (ints_get (l:=hs) (i:=i) (by omega));have a2:=zb9 (f:=PV.int) (ints_get (l:=hs) (i:=i+1) (by omega));have a3:=zb9 (f:=PV.int) (ints_get (l:=acc) (i:=i) (by omega));by_cases hq:z=line
  ·refine ⟨_,[some (.str line,.shr),some (rowP new,.shr),some (zax hs,.shr),some (zax (acc++[hs[i] + 1]),.own),some (.int (i:Nat),.shr),some (.str z,.shr)],rfl,?_,_,_,_,rfl,by simp [ha]⟩
   unfold nhB zax
   (repeat (first|tm_at "ev" | simp (discharger:=tm_at "evd") only [hq,decide_true,a1,Zr]))
  ·refine ⟨_,[some (.str line,.shr),some (rowP new,.shr),some (zax hs,.shr),some (zax (acc++[if acc[i] > hs[i+1] then acc[i] else hs[i+1]]),.own),some (.int (i:Nat),.shr),some (.str z,.shr)],rfl,?_,_,_,_,rfl,by simp [ha]⟩
   unfold nhB zax
   (repeat (first|tm_at "ev" | simp (discharger:=tm_at "evd") only [Zo hq,e1,a2,a3,Zr])))
 refine ⟨acc,?_,by rw [h2,zjI]⟩;refine zay (b:=true) rfl ?_ rfl;exact (q_nx (zco (p:=zax [0]) rfl)).trans ((q_nx ((zbM (xs:=zcj (new.map PV.str)) rfl).trans h1)).trans rfl)
theorem rep0 (n:Nat):(List.replicate n [PV.int 0]).flatten=(List.replicate n (0:Int)).map PV.int:=by
 induction n with
 | zero=>rfl
 | succ n ih=>rw [List.replicate_succ,List.flatten_cons,ih,List.replicate_succ];rfl
theorem zuw {ps:List PV}{k:Nat}(h:ps.length * k<=1000000) (h2:k<=1000000):pRep (.lst ps) (.int (k:Nat))=some (.lst (List.replicate k ps).flatten):=by
 simp only [pRep,Zv];rw [if_pos];simp only [Zc1,decide_eq_true_eq];refine ⟨⟨e_sm h,by omega⟩,by omega⟩
theorem zwE {α:Type}(l:List α) (x:α):atI (l++[x]) (-1)=some x:=by
 unfold atI ixN;simp only [Zp,Zq,List.length_nil];rw [if_neg (by omega)];split
 ·rename_i h
  rw [show ((-1:Int) + ((l.length + (0+1):Nat):Int)).toNat=l.length by omega];simp
 ·rename_i h
  exact absurd (show (-((l.length + (0+1):Nat):Int)) <= -1 by omega) (by omega)
def ahB:VF:=(zao 2 (xL zaY (zab (zaa 3) (zab (zaa 1) (zab (x2 pIxL (xVar 2) (x1 pNeg (xC (.int (1))))) lNil)))))
theorem ah (old new:Row) (hn:new.length<=1000) (ho:old.length<=1000):∃g:List (List Int),zbx [rowP old,rowP new]=some (zcG g)/\g.length=old.length+1 /\ ∀l∈g,l.length=new.length+1:=by
 obtain ⟨ρ',h1,g,s3,rfl,h2,h3⟩:=zfA (tg:=gN 3) (body:=ahB) (xs:=old.map PV.str) (ρ:=[some (rowP old,.shr),some (rowP new,.shr),some (zcG [List.replicate (new.length+1) 0],.own),none])
  (fun i ρ=>∃(g:List (List Int)) (s3:Option (PV×Fl)),ρ = [some (rowP old,.shr),some (rowP new,.shr),some (zcG g,.own),s3]/\g.length=i+1 /\ ∀l∈g,l.length=new.length+1) ⟨_,none,rfl,rfl,fun l hl=>by simp at hl;rw [hl];simp⟩ (by
  rintro i x ρ hx ⟨g,s3,rfl,hg,hl⟩;rw [Zj] at hx;obtain ⟨z,hz,rfl⟩:=Zb.mp hx;have hi:=(Zg.mp hz).1;have hne:g≠[]:=fun e=>by rw [e] at hg;cases hg
  obtain ⟨g',l,rfl⟩:∃g' l,g=g'++[l]:=⟨g.dropLast,g.getLast hne,(List.dropLast_concat_getLast _).symm⟩
  obtain ⟨l',e1,e2⟩:=nh z new l (hl l (by simp)) hn;have a1:atI ((g'++[l]).map zax) (-1)=some (zax l):=by rw [Zr];exact zwE _ _
  have hg':(g'++[l]).length<=1000:=by omega
  refine ⟨_,[some (rowP old,.shr),some (rowP new,.shr),some (zcG (g'++[l]++[l']),.own),some (.str z,.shr)],rfl,?_,_,_,rfl,by simp at hg ⊢;omega,fun q hq=>?_⟩
  ·unfold ahB zcG
   (repeat (first|tm_at "ev" | simp (discharger:=tm_at "evd") only [a1,e1]))
   rw [Zr (l₁:=g'++[l])];rfl
  ·rcases Zd1.mp hq with hq|hq
   ·exact hl q hq
   ·rw [Zo1.mp hq];exact e2)
 refine ⟨g,?_,by rw [h2,Zd],h3⟩;refine zay (b:=true) rfl ?_ rfl;refine (q_nx (ρ':=[some (rowP old,.shr),some (rowP new,.shr),some (zcG [List.replicate (new.length+1) 0],.own),none]) ?_).trans ((q_nx ((zbM (xs:=old.map PV.str) rfl).trans h1)).trans rfl);have e1:((new.length:Nat):Int) + 1=((new.length+1:Nat):Int):=by omega
 show zaR 2 _ [some (rowP old,.shr),some (rowP new,.shr),none,none]=_
 (repeat (first|tm_at "ev" | simp (discharger:=tm_at "evd") only [zjg,e1,zuw,zcG,zax,rep0]))
def pfB:VF:=(vIf (bOf (x2 pEq (x2 pIxL (zaa 0) (zaa 3)) (zaa 1)))
 (vRet (zaa 3) false)
 zak)
theorem zeI (a n:Nat):rngP (a:Int) n=((List.range n).map fun i=>a+i).map fun j=>.int (j:Nat):=by
 unfold rngP;rw [Zi];refine Ze1 fun i _=>?_;simp
theorem zwh (row:Row) (line:Str) (st:Nat) (hr:row.length<=1000) (hs:st<=2000):itR2 (zab (zaa 2) (zab (xL pLen (zab (zaa 0) lNil)) lNil)) [some (rowP row,.shr),some (.str line,.shr),some (.int (st:Nat),.shr),none]=some (((List.range (row.length - st)).map fun i=>st+i).map fun j=>.int (j:Nat)):=by
 have h:=zlp (f:=zab (zaa 2) (zab (xL pLen (zab (zaa 0) lNil)) lNil)) (ρ:=[some (rowP row,.shr),some (.str line,.shr),some (.int (st:Nat),.shr),none]) (i:=(st:Nat)) (j:=(row.length:Nat)) (by (repeat (first|tm_at "ev" | simp (discharger:=tm_at "evd") only [zjg]))) (by omega) (by omega);rw [show ((row.length:Int) - (st:Int)).toNat=row.length - st by omega,zeI] at h;exact h
theorem ztP (row:Row) (line:Str) (st:Nat):∀js:List Nat,(∀j∈js,j < row.length) -> ∀t,(∃t',za2 (gN 3) pfB (js.map fun j=>.int (j:Nat)) [some (rowP row,.shr),some (.str line,.shr),some (.int (st:Nat),.shr),t]=some (.nx [some (rowP row,.shr),some (.str line,.shr),some (.int (st:Nat),.shr),t'])) \/ ∃j∈js,za2 (gN 3) pfB (js.map fun j=>.int (j:Nat)) [some (rowP row,.shr),some (.str line,.shr),some (.int (st:Nat),.shr),t]=some (.rt (.int (j:Nat)) false)/\row[j]?=some line:=by
  intro js
  induction js with
  | nil=>exact fun _ t=>.inl ⟨t,rfl⟩
  | cons j js ih =>
   intro hj t;have hjl:=hj j Zf;have a1:=zb9 (f:=PV.str) (Zc hjl);by_cases hq:row[j]=line
   ·refine .inr ⟨j,Zf,?_,by rw [Zc hjl,hq]⟩
    rw [Zh,za2];unfold pfB rowP
    (repeat (first|tm_at "ev" | simp (discharger:=tm_at "evd") only [a1,hq,decide_true]))
   ·have b1:pfB [some (rowP row,.shr),some (.str line,.shr),some (.int (st:Nat),.shr),some (.int (j:Nat),.shr)]=some (.nx [some (rowP row,.shr),some (.str line,.shr),some (.int (st:Nat),.shr),some (.int (j:Nat),.shr)]):=by
     unfold pfB rowP
     (repeat (first|tm_at "ev" | simp (discharger:=tm_at "evd") only [a1,Zo hq]))
    rcases ih (fun i hi=>hj i (Ze _ hi)) (some (.int (j:Nat),.shr)) with ⟨t',h4⟩|⟨i,hi,h4,h5⟩
    ·exact .inl ⟨t',by rw [Zh,zbz (ρ1:=[some (rowP row,.shr),some (.str line,.shr),some (.int (st:Nat),.shr),some (.int (j:Nat),.shr)]) rfl b1];exact h4⟩
    ·exact .inr ⟨i,Ze _ hi,by rw [Zh,zbz (ρ1:=[some (rowP row,.shr),some (.str line,.shr),some (.int (st:Nat),.shr),some (.int (j:Nat),.shr)]) rfl b1];exact h4,h5⟩
theorem pf (row:Row) (line:Str) (st:Nat) (hr:row.length<=1000) (hs:st<=2000):zaH [rowP row,.str line,.int (st:Nat)]=some .non \/ ∃j:Nat,zaH [rowP row,.str line,.int (st:Nat)]=some (.int (j:Nat))/\st<=j/\row[j]?=some line:=by
 have it:=zwh row line st hr hs;have hjs:∀j∈(List.range (row.length - st)).map (fun i=>st+i),j < row.length/\st<=j:=fun j hj=>by
  obtain ⟨i,hi,rfl⟩:=Zs.mp hj;have:=Zt.mp hi;omega
 rcases ztP row line st _ (fun j hj=>(hjs j hj).1) none with ⟨t',h⟩|⟨j,hj,h,h2⟩
 ·refine .inl (zay (b:=false) rfl ?_ rfl)
  exact (q_nx ((zbM it).trans h)).trans rfl
 ·refine .inr ⟨j,zay (b:=false) rfl ?_ rfl,(hjs j hj).2,h2⟩
  exact q_rt ((zbM it).trans h)
theorem mb (g:List (List Int)) (m n i j:Nat) (hg:g.length=m+1) (hl:∀l∈g,l.length=n+1) (hi:i<=m) (hj:j<=n):∃v:Int,zaq [zcG g,.int (i:Nat),.int (j:Nat)]=some (.int v):=by
 have h0:0 < g.length:=by omega
 have e0:=Zc h0;have l0:=hl g[0] (Zz h0);have h1:m - i < g.length:=by omega
 have e1:=Zc h1;have l1:=hl g[m - i] (Zz h1);have h2:n - j < (g[m - i]).length:=by omega
 have e2:=Zc h2;refine ⟨(g[m - i])[n - j],zay (b:=false) rfl ?_ rfl⟩;show zbs [some (zcG g,.shr),some (.int (i:Nat),.shr),some (.int (j:Nat),.shr)]=_;have x0:atI (g.map zax) 0=some (zax g[0]):=zb9 e0;have z1:((g.length:Nat):Int) - 1 - (i:Nat)=((m - i:Nat):Int):=by omega
 have z2:(((g[0]).length:Nat):Int) - 1 - (j:Nat)=((n - j:Nat):Int):=by omega
 unfold zbs zcG
 (repeat (first|tm_at "ev" | simp (discharger:=tm_at "evd") only [x0,Zd,z1,zb9 e1]))
 unfold zax
 (repeat (first|tm_at "ev" | simp (discharger:=tm_at "evd") only [Zd,z2,zb9 e2]))
end WR
namespace TR
open PySem L2 WR
abbrev Tr:=List (Str×WR.Row)
def en (p:Str×WR.Row):Key×PV:=(Sum.inr p.1,WR.rowP p.2)
def trP (t:Tr):PV:=.dct (t.map en)
def keys (t:Tr):List Str:=t.map Prod.fst
def look:Tr->Str->Option WR.Row
 | [],_=>none
 | (k,r)::t,x=>if k=x then some r else look t x
def put (t:Tr) (k:Str) (r:WR.Row):Tr:=if k∈keys t then t.map (fun p=>if p.1=k then (p.1,r) else p) else t++[(k,r)]
theorem zkN:∀(t:Tr) (k:Str),valP (t.map en) (Sum.inr k)=(look t k).map WR.rowP
 | [],k=>rfl
 | (x,r)::t,k=>by
  rw [Zh];show valP ((Sum.inr x,WR.rowP r)::t.map en) _=_;unfold valP look;by_cases h:x=k
  ·rw [if_pos (by rw [h]),if_pos h];rfl
  ·rw [if_neg (by intro z;cases z;exact h rfl),if_neg h];exact zkN t k
theorem zpn:∀(t:Tr) (k:Str),((t.map en).any fun kv=>decide (kv.1=Sum.inr k))=decide (k∈keys t)
 | [],k=>by simp [keys]
 | (x,r)::t,k=>by
  rw [Zh,List.any_cons,zpn t k];show (decide ((Sum.inr x:Key)=Sum.inr k) || _)=_;unfold keys;rw [Zh,Bool.eq_iff_iff];simp only [Bool.or_eq_true,decide_eq_true_eq,Zk,Sum.inr.injEq];constructor
  ·rintro (h|h)
   ·exact .inl h.symm
   ·exact .inr h
  ·rintro (h|h)
   ·exact .inl h.symm
   ·exact .inr h
theorem ztH (t:Tr) (k:Str) (r:WR.Row):putP (t.map en) (Sum.inr k) (WR.rowP r)=(put t k r).map en:=by
 unfold putP put;rw [zpn];by_cases h:k∈keys t
 ·rw [if_pos (Zn h),if_pos h,Zi,Zi]
  refine Ze1 fun p _=>?_;obtain ⟨x,r'⟩:=p;show (if (Sum.inr x:Key)=Sum.inr k then ((Sum.inr x:Key),WR.rowP r) else en (x,r'))=en (if x=k then (x,r) else (x,r'));by_cases e:x=k
  ·rw [if_pos (by rw [e]),if_pos e];rfl
  ·rw [if_neg (by intro z;cases z;exact e rfl),if_neg e]
 ·rw [if_neg (by simpa using h),if_neg h,Zr];rfl
theorem zjz:∀(t:Tr),zks (t.map en)=some (keys t)
 | []=>rfl
 | (x,r)::t=>by
  rw [Zh];show (zks (t.map en)).map (x::·)=_;rw [zjz t];rfl
theorem zt6 (t:Tr):kxs (t.map en)=(keys t).map PV.str:=by
 unfold kxs keys;rw [Zi,Zi];rfl
theorem zuh (t:Tr):ixs (t.map en)=t.map fun p=>PV.tup [.str p.1,WR.rowP p.2]:=by
 unfold ixs;rw [Zi];rfl
theorem zcF {t:Tr}{k:Str}:look t k=none↔k∉keys t:=by
 induction t with
 | nil=>simp [look,keys]
 | cons p t ih =>
  obtain ⟨x,r⟩:=p;unfold look keys;rw [Zh,Zk];by_cases h:x=k
  ·rw [if_pos h];simp [h]
  ·rw [if_neg h,ih]
   show _↔¬(k=x\/k∈keys t);constructor
   ·rintro h1 (e|e)
    ·exact h e.symm
    ·exact h1 e
   ·intro h1 h2;exact h1 (.inr h2)
theorem ze2 {t:Tr}{k:Str}:(look t k).isSome=decide (k∈keys t):=by
 by_cases h:k∈keys t
 ·rw [Zn h]
  cases e:look t k with
  | none=>exact absurd h (zcF.mp e)
  | some r=>rfl
 ·rw [Zo h,zcF.mpr h];rfl
theorem zdA {t:Tr}{k:Str}{r:WR.Row}(h:look t k=some r):(k,r)∈t:=by
 induction t with
 | nil=>cases h
 | cons p t ih =>
  obtain ⟨x,r'⟩:=p;unfold look at h;by_cases e:x=k
  ·rw [if_pos e] at h;cases h;rw [e];exact Zf
  ·rw [if_neg e] at h;exact Ze _ (ih h)
theorem ze1 {t:Tr}{k:Str}(h:k∈keys t):∃r,look t k=some r:=by
 cases e:look t k with
 | none=>exact absurd h (zcF.mp e)
 | some r=>exact ⟨r,rfl⟩
theorem mem_keys {t:Tr}{p:Str×WR.Row}(h:p∈t):p.1∈keys t:=List.mem_map_of_mem h
theorem zl1 {t:Tr}(nd:(keys t).Nodup) {k:Str}{r:WR.Row}(h:(k,r)∈t):look t k=some r:=by
 induction t with
 | nil=>cases h
 | cons p t ih =>
  obtain ⟨x,r'⟩:=p;unfold keys at nd;rw [Zh,List.nodup_cons] at nd;unfold look;rcases Zk.mp h with e|e
  ·cases e;rw [if_pos rfl]
  ·rw [if_neg (fun z=>nd.1 (by subst z;exact mem_keys (p:=(x,r)) e))]
   exact ih nd.2 e
theorem zn4 (t:Tr) (k:Str) (r:WR.Row):keys (put t k r)=if k∈keys t then keys t else keys t++[k]:=by
 unfold put;by_cases h:k∈keys t
 ·rw [if_pos h,if_pos h]
  unfold keys;rw [Zi];refine Ze1 fun p _=>?_;show (if p.1=k then (p.1,r) else p).1=p.1;by_cases e:p.1=k
  ·rw [if_pos e]
  ·rw [if_neg e]
 ·rw [if_neg h,if_neg h];unfold keys;rw [Zr];rfl
theorem zlP {t:Tr}(nd:(keys t).Nodup) (k:Str) (r:WR.Row):(keys (put t k r)).Nodup:=by
 rw [zn4];by_cases h:k∈keys t
 ·rw [if_pos h];exact nd
 ·rw [if_neg h]
  refine List.nodup_append.mpr ⟨nd,by simp,fun a ha b hb=>?_⟩;rw [Zo1] at hb;subst hb;intro z;subst z;exact h ha
theorem zlU {t:Tr}{k:Str}{r:WR.Row}{p:Str×WR.Row}(h:p∈put t k r):p=(k,r)\/p∈t:=by
 unfold put at h;by_cases e:k∈keys t
 ·rw [if_pos e] at h
  obtain ⟨q,hq,rfl⟩:=Zs.mp h;by_cases z:q.1=k
  ·rw [if_pos z,z];exact .inl rfl
  ·rw [if_neg z];exact .inr hq
 ·rw [if_neg e] at h
  rcases Zd1.mp h with z|z
  ·exact .inr z
  ·rw [Zo1] at z;exact .inl z
section
variable {f g:VX}{ρ:PEnv}{t:Tr}{k:Str}{r:WR.Row}{i:Nat}
theorem zd5 (h1:f ρ=some (trP t)) (h2:g ρ=some (.str k)) (h3:look t k=some r):zbQ f g ρ=some (WR.rowP r):=by
 refine (q_x2 h1 h2).trans ?_;show (keyP (.str k)).bind (valP (t.map en))=_;show valP (t.map en) (Sum.inr k)=_;rw [zkN,h3];rfl
theorem znC (neg:Bool) (h1:f ρ=some (.str k)) (h2:g ρ=some (trP t)):xDIn neg f g ρ=some (.bl (if neg then !decide (k∈keys t) else decide (k∈keys t))):=by
 refine (q_x2 h1 h2).trans ?_;show (keyP (.str k)).map (fun k=>PV.bl (if neg then !(valP (t.map en) k).isSome else (valP (t.map en) k).isSome))=_;show some (PV.bl (if neg then !(valP (t.map en) (Sum.inr k)).isSome else (valP (t.map en) (Sum.inr k)).isSome))=_;rw [zkN,Zn1,ze2]
theorem zfS (hv:f ρ=some (WR.rowP r)) (hk:g ρ=some (.str k)) (hp:ρ[i]?=some (some (trP t,.own))) (hs:t.length<=1000000):zbU i g f ρ=some (.nx (ρ.set i (some (trP (put t k r),.own)))):=by
 unfold trP at hp;unfold zbU wr;rw [hv];simp only [Option.bind_some,hk,keyP,hp,Zd,q_sm hs,if_true,Option.map_some,ztH];rfl
theorem zv6 (hs:t.length < 64):zhI [trP t]=some (.lst ((srtS (keys t)).map PV.str)):=by
 show (zks (t.map en)).bind _=_;rw [zjz,Option.bind_some,if_pos (Zn (by unfold keys;rw [Zd];exact hs))]
theorem zv9:zkg [trP t]=some (.int (t.length:Nat)):=by
 show some (PV.int ((t.map en).length:Nat))=_;rw [Zd]
theorem zwa (h:ρ[i]?=some (some (trP t,.shr))):itD kxs i ρ=some ((keys t).map PV.str):=by
 unfold itD trP at *;rw [h];simp only [zt6]
theorem zwb (h:ρ[i]?=some (some (trP t,.shr))):itD ixs i ρ=some (t.map fun p=>PV.tup [.str p.1,WR.rowP p.2]):=by
 unfold itD trP at *;rw [h];simp only [zuh]
end
end TR
namespace WB
open PySem L2
def dwn:Nat->List Int
 | 0=>[]
 | n+1=>(n:Int)::dwn n
theorem zph:∀n:Nat,(List.range n).map (fun (i:Nat)=>(n:Int) - 1 - (i:Int))=dwn n
 | 0=>rfl
 | n+1=>by
  rw [List.range_succ_eq_map,Zh,Zi,dwn,<- zph n];congr 1
  ·omega
  ·exact Ze1 fun i _=>by simp only [Function.comp];omega
def ovS (w:Web) (L:List Int) (k:Int):List Int:=if (L.filter fun o=>decide (k∈eld w o)).length > 0 then L++[k] else L
theorem zgE {w:Web}{L:List Int}{k x:Int}:x∈ovS w L k↔x∈L\/(x=k /\ ∃o∈L,k∈eld w o):=by
 unfold ovS;split
 ·rename_i h
  obtain ⟨o,ho⟩:=List.exists_mem_of_length_pos h;rw [Zh1,decide_eq_true_eq] at ho;simp only [Zd1,Zo1];exact ⟨fun z=>z.elim .inl fun e=>.inr ⟨e,o,ho⟩,fun z=>z.elim .inl fun e=>.inr e.1⟩
 ·rename_i h
  refine ⟨.inl,fun z=>z.elim id fun ⟨e,o,h1,h2⟩=>?_⟩;exact absurd (List.length_pos_of_mem (Zh1.mpr ⟨h1,Zn h2⟩)) h
structure OvI (w:Web) (v:Int) (n:Nat) (L S:List Int):Prop where
 a:∀x,x∈L↔x∈S/\(n:Int)<=x
 b:∀x,x∈S↔x=v \/ ∃o∈L,x∈eld w o
 nd:L.Nodup
theorem zqW {w:Web}{v:Int}{n:Nat}{L S:List Int}(h:OvI w v (n+1) L S) (hv:(n:Int) < v) (hE:∀y∈eld w (n:Int),y < (n:Int)):OvI w v n (ovS w L n) (abS w S n):=by
 have key:(n:Int)∈S↔∃o∈L,(n:Int)∈eld w o:=by
  rw [h.b];exact ⟨fun z=>z.elim (fun e=>by omega) id,.inr⟩
 have nl:(n:Int)∉L:=fun z=>by have:=((h.a _).mp z).2;omega
 have hS:∀x,x∈abS w S n↔x∈S\/((n:Int)∈S/\x∈eld w (n:Int)):=fun x=>by
  unfold abS;by_cases hn:(n:Int)∈S
  ·rw [if_pos hn,zbS,zbS]
   simp [hn]
  ·rw [if_neg hn]
   simp [hn]
 refine ⟨fun x=>?_,fun x=>?_,?_⟩
 ·rw [zgE,h.a,hS,<- key]
  constructor
  ·rintro (⟨h1,h2⟩|⟨rfl,h2⟩)
   ·exact ⟨.inl h1,by omega⟩
   ·exact ⟨.inl h2,by omega⟩
  ·rintro ⟨h1|⟨h1,h3⟩,h2⟩
   ·by_cases e:x=n
    ·subst e;exact .inr ⟨rfl,h1⟩
    ·exact .inl ⟨h1,by omega⟩
   ·have:=hE x h3;omega
 ·rw [hS,h.b]
  constructor
  ·rintro ((h1|⟨o,h1,h2⟩)|⟨h1,h2⟩)
   ·exact .inl h1
   ·exact .inr ⟨o,zgE.mpr (.inl h1),h2⟩
   ·exact .inr ⟨n,zgE.mpr (.inr ⟨rfl,key.mp h1⟩),h2⟩
  ·rintro (h1|⟨o,h1,h2⟩)
   ·exact .inl (.inl h1)
   ·rcases zgE.mp h1 with h3|⟨e,h3⟩
    ·exact .inl (.inr ⟨o,h3,h2⟩)
    ·exact .inr ⟨key.mpr h3,e ▸ h2⟩
 ·unfold ovS
  split
  ·refine List.nodup_append.mpr ⟨h.nd,by simp,fun a ha b hb=>?_⟩
   rw [Zo1.mp hb];exact fun z=>nl (z ▸ ha)
  ·exact h.nd
theorem zo5 {w:Web}{v:Int}:∀(n:Nat) (L S:List Int),OvI w v n L S->(n:Int)<=v->(∀k:Nat,k < n -> ∀y∈eld w (k:Int),y < (k:Int))->OvI w v 0 ((dwn n).foldl (ovS w) L) ((dwn n).foldl (abS w) S)
 | 0,L,S,h,_,_=>h
 | n+1,L,S,h,hv,hE=>by
  rw [dwn,List.foldl_cons,List.foldl_cons];exact zo5 n _ _ (zqW h (by omega) (hE n (by omega))) (by omega) fun k hk=>hE k (by omega)
theorem zu8 (w:Web) (m:Nat):abR w (m:Int)=(dwn (m+1)).foldl (abS w) [(m:Int)]:=by
 unfold abR;rw [show ((m:Int) + 1).toNat=m+1 by omega,<- zph (m+1)];congr 1;exact Ze1 fun i _=>by omega
theorem ziq {w:Web}(h:Good w) {v:Int}(h0:0<=v) (h1:v < w.length) (x:Int):x∈ab w v↔x=v \/ ∃o∈ab w v,x∈eld w o:=by
 obtain ⟨m,rfl⟩:=Int.eq_ofNat_of_zero_le h0;have hm:m < w.length:=by omega
 have hE:∀k:Nat,k<=m -> ∀y∈eld w (k:Int),y < (k:Int):=fun k hk y hy=>((zby h (v:=(k:Int)) (by omega) (by omega)).2.1 y hy).2;have h0:OvI w (m:Int) m [(m:Int)] (abS w [(m:Int)] (m:Int)):=by
  have hS:∀x,x∈abS w [(m:Int)] (m:Int)↔x=m\/x∈eld w (m:Int):=fun x=>by
   unfold abS;rw [if_pos (by simp),zbS,zbS];simp
  refine ⟨fun x=>?_,fun x=>?_,by simp⟩
  ·rw [hS]
   simp only [Zo1];constructor
   ·rintro rfl;exact ⟨.inl rfl,by omega⟩
   ·rintro ⟨e|e,h2⟩
    ·exact e
    ·have:=hE m (Nat.le_refl _) x e;omega
  ·rw [hS];simp
 have hf:=zo5 m _ _ h0 (by omega) fun k hk=>hE k (by omega);have hS:∀x,x∈ab w (m:Int)↔x∈(dwn m).foldl (abS w) (abS w [(m:Int)] (m:Int)):=fun x=>by
  unfold ab;rw [zcR,zu8,dwn,List.foldl_cons]
 obtain ⟨_,_,e3,_⟩:=zi1 h (v:=(m:Int)) (by omega) (by omega);rw [hS,hf.b];constructor
 ·rintro (e|⟨o,h1,h2⟩)
  ·exact .inl e
  ·exact .inr ⟨o,(hS o).mpr ((hf.a o).mp h1).1,h2⟩
 ·rintro (e|⟨o,h1,h2⟩)
  ·exact .inl e
  ·exact .inr ⟨o,(hf.a o).mpr ⟨(hS o).mp h1,by have:=(e3 o h1).1;omega⟩,h2⟩
theorem zg6 {w:Web}(h:Good w) {v:Int}(h0:0<=v) (h1:v < w.length) (P:Int->Prop) (hv:P v) (hc:∀o,0<=o->o < (w.length:Int)->P o -> ∀x∈eld w o,P x):∀x∈ab w v,P x:=by
 obtain ⟨_,_,e3,_⟩:=zi1 h h0 h1;have go:∀(n:Nat) (x:Int),((w.length:Int) - x).toNat<=n->x∈ab w v->P x:=by
  intro n
  induction n with
  | zero=>intro x hn hx;have:=e3 x hx;omega
  | succ n ih =>
   intro x hn hx;rcases (ziq h h0 h1 x).mp hx with rfl|⟨o,ho,hxo⟩
   ·exact hv
   ·have b:=e3 o ho
    have bx:=e3 x hx;have hlt:=((zby h b.1 b.2).2.1 x hxo).2;exact hc o b.1 b.2 (ih o (by omega) ho) x hxo
 exact fun x hx=>go _ x (Nat.le_refl _) hx
theorem zon {w:Web}(h:Good w) {v y x:Int}(h0:0<=v) (h1:v < w.length) (hy:y∈ab w v) (hx:x∈ab w y):x∈ab w v:=by
 obtain ⟨_,_,e3,_⟩:=zi1 h h0 h1;have b:=e3 y hy;exact zg6 h b.1 b.2 (fun z=>z∈ab w v) hy (fun o _ _ ho z hz=>(ziq h h0 h1 z).mpr (.inr ⟨o,ho,hz⟩)) x hx
theorem zu5 {w:Web}(h:Good w) {v x:Int}(h0:0<=v) (h1:v < w.length) (hx:x∈ab w v):x<=v :=
 zg6 h h0 h1 (fun z=>z<=v) (Int.le_refl _) (fun o o0 o1 ho z hz=>by have:=((zby h o0 o1).2.1 z hz).2;omega) x hx
section
variable {w:Web}(h:Good w) {vs:List Int}(hne:vs≠[]) (hv:∀v∈vs,0<=v/\v < (w.length:Int))
include h hne hv
end
theorem zv8 {tg:VTg}{elt:VX}{α:Type}(e:α->PV) (Inv:PEnv->Prop) (g:α->PV) {xs:List α}{ρ:PEnv}(iv:Inv ρ) (h:∀x∈xs,∀ρ,Inv ρ -> ∃ρ1,tg (e x) ρ=some ρ1/\Inv ρ1/\elt ρ1=some (g x)):za1 tg zaC elt (xs.map e) ρ=some (xs.map g):=by
 refine (zdt e Inv (fun x=>some (g x)) iv fun x hx ρ hi=>?_).trans ?_
 ·obtain ⟨ρ1,h1,h2,h3⟩:=h x hx ρ hi
  exact ⟨ρ1,h1,h2,.inr ⟨g x,rfl,h3,rfl⟩⟩
 ·rw [List.filterMap_eq_map']
theorem zjS:∀l:List Bool,bools (l.map PV.bl)=some l
 | []=>rfl
 | b::l=>by
  show (bools (l.map PV.bl)).map (b::·)=_;rw [zjS l];rfl
section
variable {w:Web}(h:Good w) {vs:List Int}(hne:vs≠[]) (hv:∀v∈vs,0<=v/\v < (w.length:Int)) (hl:vs.length<=100)
include h hne hv hl
end
end WB
namespace TR
open PySem L2 WR
def zeY:VF:=(vRet (xB (bAnd (bOf (x2 pNe (zaa 0) (xC (.str "")))) (bOf (xL WR.zba (zab (zaa 0) lNil))))) false)
def zb8:List PV->Option PV:=fnM 1 1 false zeY
def zcD:VF:=(vSeq (vIf (bOf (x2 pGt (xL zkg (zab (zaa 0) lNil)) (xC (.int (8)))))
 (vRet (xC (.bl false)) false)
 zak)
 (vRet (xL pAll (zab (zap [none,none] (itD ixs 0) (gT [0,1]) zaC (xB (bAnd (bOf (xL zb8 (zab (zaa 0) lNil))) (bOf (xL WR.zbT (zab (zaa 1) lNil)))))) lNil)) false))
def zcJ:List PV->Option PV:=fnM 1 1 false zcD
def zbH:VF:=(vIf (bNot (bOf (xL zcJ (zab (zaa 0) lNil))))
 zct
 zak)
def zbn:List PV->Option PV:=fnM 1 1 false zbH
def NL:List Str:=["a","b","","ab","c"]
def P0:List Str:=["a","bc","x","note","zzzzzzzz","moved","b","c","d","e","f","g","h","i","gg"]
theorem il {x:Str}(h:x∈NL):WR.zba [.str x]=some (.bl true):=by
 unfold NL at h;simp only [Zk,List.not_mem_nil,or_false] at h;rcases h with rfl|rfl|rfl|rfl|rfl<;>rfl
theorem ip {x:Str}(h:x∈P0):zb8 [.str x]=some (.bl true):=by
 unfold P0 at h;simp only [Zk,List.not_mem_nil,or_false] at h;rcases h with rfl|rfl|rfl|rfl|rfl|rfl|rfl|rfl|rfl|rfl|rfl|rfl|rfl|rfl|rfl<;>rfl
theorem all_true (n:Nat) {α:Type}(l:List α):pAll [.lst ((l.map fun _=>true).map PV.bl)]=some (.bl true):=by
 rw [zrv];congr 2;simp
theorem irw {r:WR.Row}(hl:r.length<=40) (h:∀x∈r,x∈NL):WR.zbT [WR.rowP r]=some (.bl true):=by
 have c:zap [none] (itL (zaa 0)) (gN 0) zaC (xL WR.zba (zab (zaa 0) lNil)) [some (WR.rowP r,.shr)]=some (.lst ((r.map fun _=>true).map PV.bl)):=by
  refine zbA (xs:=r.map PV.str) rfl (by rw [Zd];omega) ?_;rw [Zi];refine zfi PV.str _ (fun ρ=>∃s,ρ = [s]) r _ ⟨none,rfl⟩ ?_;rintro x hx ρ ⟨s,rfl⟩;exact ⟨_,rfl,⟨_,rfl⟩,il (h x hx)⟩
 refine zay (b:=false) rfl ?_ rfl;show WR.zch [some (WR.rowP r,.shr)]=_;unfold WR.zch;refine zcV ?_;have b1:bOf (x2 pLe (xL pLen (zab (zaa 0) lNil)) (xC (.int (40)))) [some (WR.rowP r,.shr)]=some true:=by
  refine q_b ((q_x2 ((q_xL (ps:=[WR.rowP r]) rfl).trans (WR.zjg r)) (q:=.int 40) rfl).trans ((e_le _ _).trans ?_));rw [Zn (by omega)]
 have b2:bOf (xL pAll (zab (zap [none] (itL (zaa 0)) (gN 0) zaC (xL WR.zba (zab (zaa 0) lNil))) lNil)) [some (WR.rowP r,.shr)]=some true:=q_b ((q_xL (q_l1 c)).trans (all_true 0 r));show (bAnd _ _ _).map PV.bl=_;rw [zhz b1,b2];rfl
structure B (K:List Str) (n:Nat) (t:Tr):Prop where
 nd:(keys t).Nodup
 k:∀p∈t,p.1∈K
 l:∀p∈t,p.2.length<=n
 x:∀p∈t,∀x∈p.2,x∈NL
theorem B.mono {K K':List Str}{n n':Nat}{t:Tr}(h:B K n t) (hK:∀x∈K,x∈K') (hn:n<=n'):B K' n' t:=⟨h.nd,fun p hp=>hK _ (h.k p hp),fun p hp=>Nat.le_trans (h.l p hp) hn,h.x⟩
theorem B.put {K:List Str}{n:Nat}{t:Tr}{k:Str}{r:WR.Row}(h:B K n t) (hk:k∈K) (hl:r.length<=n) (hx:∀x∈r,x∈NL):B K n (put t k r):=by
 refine ⟨zlP h.nd k r,fun p hp=>?_,fun p hp=>?_,fun p hp=>?_⟩<;>rcases zlU hp with rfl|h2
 ·exact hk
 ·exact h.k p h2
 ·exact hl
 ·exact h.l p h2
 ·exact hx
 ·exact h.x p h2
theorem zhT:∀{l K:List Str},l.Nodup->(∀x∈l,x∈K)->l.length<=K.length
 | [],K,_,_=>Nat.zero_le _
 | x::l,K,nd,h=>by
  rw [List.nodup_cons] at nd;have hx:=h x Zf;have:=zhT (l:=l) (K:=K.erase x) nd.2 fun y hy=>(List.mem_erase_of_ne (by rintro rfl;exact nd.1 hy)).mpr (h y (Ze _ hy));rw [List.length_erase_of_mem hx] at this;have:=List.length_pos_of_mem hx;simp only [Zq];omega
theorem B.len {K:List Str}{n:Nat}{t:Tr}(h:B K n t):t.length<=K.length:=by
 have:=zhT (l:=keys t) (K:=K) h.nd fun x hx=>by
  obtain ⟨p,hp,rfl⟩:=Zs.mp hx;exact h.k p hp
 unfold keys at this;rw [Zd] at this;exact this
structure Ok (t:Tr):Prop where
 b:B P0 40 t
 n:t.length<=8
theorem itr {t:Tr}(h:Ok t):zcJ [trP t]=some (.bl true):=by
 refine zay (b:=false) rfl ?_ rfl;show zcD [some (trP t,.shr)]=_;unfold zcD;have b1:bOf (x2 pGt (xL zkg (zab (zaa 0) lNil)) (xC (.int (8)))) [some (trP t,.shr)]=some false:=by
  refine q_b ((q_x2 ((q_xL (ps:=[trP t]) rfl).trans zv9) (q:=.int 8) rfl).trans ((e_gt _ _).trans ?_));have:=h.n;rw [Zo (by omega)]
 refine (q_nx (za3 b1)).trans ?_;refine zcV ?_;have c:zap [none,none] (itD ixs 0) (gT [0,1]) zaC (xB (bAnd (bOf (xL zb8 (zab (zaa 0) lNil))) (bOf (xL WR.zbT (zab (zaa 1) lNil))))) [some (trP t,.shr)]=some (.lst ((t.map fun _=>true).map PV.bl)):=by
  refine zbA (zwb rfl) (by rw [Zd];have:=h.n;omega) ?_;rw [Zi];refine zfi (fun p:Str×WR.Row=>PV.tup [.str p.1,WR.rowP p.2]) _ (fun ρ=>∃s s',ρ = [s,s']) t _ ⟨none,none,rfl⟩ ?_;rintro p hp ρ ⟨s,s',rfl⟩;refine ⟨[some (.str p.1,.shr),some (WR.rowP p.2,.shr)],rfl,⟨_,_,rfl⟩,?_⟩;show (bAnd _ _ _).map PV.bl=_;rw [zhz (q_b ((q_xL (ps:=[.str p.1]) rfl).trans (ip (h.b.k p hp)))),q_b ((q_xL (ps:=[WR.rowP p.2]) rfl).trans (irw (h.b.l p hp) (h.b.x p hp)))];rfl
 exact (q_xL (q_l1 c)).trans (all_true 0 t)
theorem ctr {t:Tr}(h:Ok t):zbn [trP t]=some .non:=by
 refine zhy (ρ:=[some (trP t,.shr)]) rfl ?_;show zbH [some (trP t,.shr)]=_;unfold zbH;refine (za3 (zlm (q_b ((q_xL (ps:=[trP t]) rfl).trans (itr h))))).trans rfl
def pk (L:List Str) (i:Int):Str:=L.getD i.toNat ""
theorem ztL {L:List Str}{i:Int}(h0:0<=i) (h:i < (L.length:Nat)):pk L i∈L:=by
 have hk:i.toNat < L.length:=by omega
 unfold pk;rw [Zy,Zc hk];exact Zz hk
theorem q_pk {L:List Str}(hL:L.length<=1000) {g:VX}{ρ:PEnv}{i:Int}(hg:g ρ=some (.int i)) (h0:0<=i) (h:i < (L.length:Nat)):x2 pIxL (xL zar (fun _=>some (L.map PV.str))) g ρ=some (.str (pk L i)):=by
 have hk:i.toNat < L.length:=by omega
 have e1:xL zar (fun _=>some (L.map PV.str)) ρ=some (.lst (L.map PV.str)):=(q_xL (ps:=L.map PV.str) rfl).trans (by unfold zar;rw [if_pos (q_sm (by rw [Zd];omega))]);have ei:i=((i.toNat:Nat):Int):=by omega
 refine (q_x2 e1 hg).trans ?_;rw [ei];refine (zb9 (f:=PV.str) (Zc hk)).trans ?_;unfold pk;rw [Zy,Zv,Zc hk];rfl
def cg {α:Type}(l:List α) (lo hi:Option Int):List α:=(l.drop (HT.sIx l.length 0 lo)).take (HT.sIx l.length l.length hi - HT.sIx l.length 0 lo)
theorem q_cg {α:Type}{e:α->PV}{f:VX}{lo hi:PEnv->Option (Option Int)}{ρ:PEnv}{l:List α}{a b:Option Int}(h:f ρ=some (.lst (l.map e))) (h1:lo ρ=some a) (h2:hi ρ=some b):xSl f lo hi ρ=some (.lst ((cg l a b).map e)):=by
 unfold xSl;rw [h,h1,h2];show some (PV.lst (cutP (l.map e) a b))=_;unfold cutP cg;rw [Zd,List.map_take,List.map_drop]
theorem zrC {α:Type}(l:List α) (k:Nat):cg l none (some (k:Int))=l.take k:=by
 unfold cg;rw [HT.zjf,HT.zeH,List.drop_zero,Nat.sub_zero];by_cases h:k<=l.length
 ·rw [Nat.min_eq_left h]
 ·rw [Nat.min_eq_right (by omega),List.take_of_length_le (by simp),List.take_of_length_le (by omega)]
theorem zrD {α:Type}(l:List α) (k:Nat):cg l (some (k:Int)) none=l.drop k:=by
 unfold cg;rw [HT.zjf,HT.zeH];by_cases hk:k<=l.length
 ·rw [Nat.min_eq_left hk,List.take_of_length_le (by simp)]
 ·rw [Nat.min_eq_right (by omega),List.drop_of_length_le (by simp),List.drop_of_length_le (by omega)];simp
theorem zeJ {n i:Nat}{x:PV}(hx:(rngP 0 n)[i]?=some x):i < n/\x=.int (i:Nat):=by
 unfold rngP at hx;rw [Zj] at hx;obtain ⟨k,hk,rfl⟩:=Zb.mp hx;obtain ⟨q1,q2⟩:=Zg.mp hk;rw [Zu] at q1;rw [List.getElem_range] at q2;subst q2;exact ⟨q1,by simp⟩
theorem B.nil {K:List Str}{n:Nat}:B K n []:=⟨List.nodup_nil,(by intro p h;cases h),(by intro p h;cases h),(by intro p h;cases h)⟩
theorem ziv (t:Tr):(srtS (keys t)).length=t.length:=by rw [(zaX _).length_eq];unfold keys;rw [Zd]
end TR
namespace TX
open PySem L2
open TR
def rw' (t:Tr) (k:Str):WR.Row:=(look t k).getD []
section
variable {t:Tr}{k:Str}
theorem zvG (h:Ok t) (hk:k∈keys t):look t k=some (rw' t k)/\(rw' t k).length<=40/\(∀x∈rw' t k,x∈NL)/\k∈P0:=by
 obtain ⟨r,hr⟩:=ze1 hk;have hm:=zdA hr;have e:rw' t k=r:=by unfold rw';rw [hr];rfl
 rw [e];exact ⟨hr,h.b.l _ hm,h.b.x _ hm,h.b.k _ hm⟩
end
section
variable {t:Tr}(h:Ok t)
include h
theorem znl {k:Str}(hk:k∈srtS (keys t)):k∈keys t:=(zaX (keys t)).mem_iff.mp hk
theorem ziv:(srtS (keys t)).length=t.length:=by rw [(zaX (keys t)).length_eq];unfold keys;rw [Zd]
end
section
variable {t:Tr}(h:Ok t)
include h
end
end TX
namespace HS
open PySem L2 TR TX
section
def zbt:VF:=(vSeq (zaR 1 (fun _=>some (.dct [])))
 (vSeq (vFor (itL (xL zhI (zab (zaa 0) lNil))) (gN 2)
 (zbU 1 (zaa 2) (xL zeh (zab (zbQ (zaa 0) (zaa 2)) lNil))))
 (zb2 1)))
def zaN:List PV->Option PV:=fnM 1 3 true zbt
end
def srtd (t:Tr) (ks:List Str):Tr:=ks.map fun k=>(k,rw' t k)
def cpt (t:Tr):Tr:=srtd t (srtS (keys t))
theorem zhY (t:Tr) (ks:List Str):keys (srtd t ks)=ks:=by
 unfold keys srtd;rw [Zi];exact List.map_id _
theorem zgP (t:Tr):keys (cpt t)=srtS (keys t):=zhY t _
theorem zhU {t:Tr}(h:(keys t).Nodup):(keys (cpt t)).Nodup:=by rw [zgP];exact (zaX (keys t)).nodup_iff.mpr h
theorem zjx {t:Tr}(h:(keys t).Nodup) {k:Str}(hk:k∈keys t):look (cpt t) k=look t k:=by
 have hm:(k,rw' t k)∈cpt t:=Zs.mpr ⟨k,(zaX (keys t)).mem_iff.mpr hk,rfl⟩;rw [zl1 (zhU h) hm];obtain ⟨r,hr⟩:=ze1 hk;unfold rw';rw [hr];rfl
theorem zsS {t:Tr}(h:(keys t).Nodup) {k:Str}(hk:k∈keys t):rw' (cpt t) k=rw' t k:=by unfold rw';rw [zjx h hk]
theorem zp4 (l:List Str):srtS (srtS l)=srtS l:=zqN (zaX _) (zgp _) (zgp _)
theorem zrB {t:Tr}(h:(keys t).Nodup):cpt (cpt t)=cpt t:=by
 show srtd (cpt t) (srtS (keys (cpt t)))=srtd t (srtS (keys t));rw [zgP,zp4];unfold srtd;refine Ze1 fun k hk=>?_;rw [zsS h ((zaX (keys t)).mem_iff.mp hk)]
theorem ziU {t:Tr}{p:Str×WR.Row}(hp:p∈cpt t):p∈t:=by
 obtain ⟨k,hk,rfl⟩:=Zs.mp hp;obtain ⟨r,hr⟩:=ze1 ((zaX (keys t)).mem_iff.mp hk);have:=zdA hr;unfold rw';rw [hr];exact this
theorem zuU {t:Tr}(h:Ok t):Ok (cpt t):=by
 refine ⟨⟨zhU h.b.nd,fun p hp=>h.b.k p (ziU hp),fun p hp=>h.b.l p (ziU hp),fun p hp=>h.b.x p (ziU hp)⟩,?_⟩;have:(cpt t).length=t.length:=by
  have:=ziv h;unfold cpt srtd;rw [Zd,this]
 rw [this];exact h.n
theorem zmH {t:Tr}(h:Ok t):∀(ks:List Str),ks.Nodup->(∀k∈ks,k∈keys t) -> ∀(pre:List Str) (s2:Option (PV×Fl)),(pre++ks).Nodup->pre.length+ks.length<=1000 -> ∃s2',za2 (gN 2) (zbU 1 (zaa 2) (xL zeh (zab (zbQ (zaa 0) (zaa 2)) lNil))) (ks.map PV.str) [some (trP t,.shr),some (trP (srtd t pre),.own),s2]=some (.nx [some (trP t,.shr),some (trP (srtd t (pre++ks)),.own),s2'])
 | [],_,_,pre,s2,_,_=>⟨s2,by rw [List.append_nil];rfl⟩
 | k::ks,nd,hk,pre,s2,nd2,hl=>by
  obtain ⟨h1,_⟩:=zvG h (hk k Zf);have hp:put (srtd t pre) k (rw' t k)=srtd t (pre++[k]):=by
   unfold put;rw [zhY,if_neg,srtd,srtd,Zr]
   ·rfl
   ·intro z
    rw [List.nodup_append] at nd2;exact nd2.2.2 k z k Zf rfl
  rw [Zq] at hl;obtain ⟨s',hh⟩:=zmH h ks (List.nodup_cons.mp nd).2 (fun z hz=>hk z (Ze _ hz)) (pre++[k]) (some (.str k,.shr)) (by rw [Zb1];exact nd2) (by simp only [Zp,Zx];omega);refine ⟨s',?_⟩;rw [Zh,zbz (ρ1:=[some (trP t,.shr),some (trP (srtd t pre),.own),some (.str k,.shr)]) (ρ':=[some (trP t,.shr),some (trP (srtd t (pre++[k])),.own),some (.str k,.shr)]) rfl,hh,Zb1]
  ·rfl
  ·rw [zfS (t:=srtd t pre) (k:=k) (r:=rw' t k) ((q_xL (q_l1 (zd5 (t:=t) (k:=k) (r:=rw' t k) rfl rfl h1))).trans rfl) rfl rfl (by unfold srtd;rw [Zd];omega),hp]
   rfl
theorem ct {t:Tr}(h:Ok t):zaN [trP t]=some (trP (cpt t)):=by
 have h8:=h.n;have hsl:=ziv h;refine zay (b:=true) rfl ?_ rfl;show zbt [some (trP t,.shr),none,none]=_;unfold zbt;refine (q_nx (zco (p:=trP []) rfl)).trans ?_;have nd:(srtS (keys t)).Nodup:=(zaX (keys t)).nodup_iff.mpr h.b.nd;obtain ⟨s',e⟩:=zmH h (srtS (keys t)) nd (fun k hk=>znl h hk) [] none (by simpa using nd) (by rw [hsl,List.length_nil];omega);exact (q_nx ((zbM (zdP ((q_xL (ps:=[trP t]) rfl).trans (zv6 (by omega))))).trans e)).trans rfl
variable [HC]
def zbf:VF:=(vRet (xL pLen (zab (x1 (pFld HC.c "elders") (zaa 0)) lNil)) false)
def zaP:List PV->Option PV:=onC HC.c "many" (fnM 1 1 false zbf)
def zbv:VF:=(vRet (xL zeh (zab (x1 (pFld HC.c "elders") (zaa 0)) lNil)) true)
def zaW:List PV->Option PV:=onC HC.c "web" (fnM 1 1 true zbv)
def zbe:VF:=(vSeq (zbE (xL WB.zas (zab (x1 (pFld HC.c "elders") (zaa 0)) (zab (xL zar (zab (zaa 1) lNil)) lNil))))
 (vRet (xL zaN (zab (x2 pIxL (x1 (pFld HC.c "trees") (zaa 0)) (zaa 1)) lNil)) true))
def zaj:List PV->Option PV:=onC HC.c "tree" (fnM 2 2 true zbe)
def zat:DF:=(dSeq (ziS 0 3 (xL zaP (zab (xVar 0) lNil)))
 (dSeq (zcL 0 (vIf (bOr (bOf (x2 pGe (zaa 3) (xC (.int (40))))) (bNot (bOf (xL WB.zaO (zab (zaa 1) (zab (zaa 3) lNil))))))
 zct
 zak))
 (dSeq (zcL 0 (zbE (xL TR.zbn (zab (zaa 2) lNil))))
 (dSeq (zfN 0 (zaa 1))
 (dSeq (zfN 1 (xL zaN (zab (zaa 2) lNil)))
 zoj)))))
def zan:PV->List PV->Option (PV×PV):=zh7 3 4 zat (zaa 3)
def hsP (w:WB.Web) (ts:List Tr):PV:=hist HC.c (w.map tupZ) (ts.map fun t=>trP (cpt t))
theorem zrl (w:WB.Web) (ts:List Tr):pFld HC.c "elders" (hsP w ts)=some (WB.webP w):=by
 show (if HC.c=HC.c then zgU hNm _ _ else none)=_;rw [if_pos rfl];rfl
theorem zwL (w:WB.Web) (ts:List Tr):pFld HC.c "trees" (hsP w ts)=some (.lst (ts.map fun t=>trP (cpt t))):=by
 show (if HC.c=HC.c then zgU hNm _ _ else none)=_;rw [if_pos rfl];rfl
theorem is_h (m:Str) (hm:hNm.contains m=false) (w:WB.Web) (ts:List Tr) (ps:List PV):isC HC.c m (hsP w ts::ps)=true:=by
 show (decide (HC.c=HC.c)&&!(hNm.contains m))=true;rw [hm];simp
theorem on_h {m:Str}(hm:hNm.contains m=false) {f:List PV->Option PV}{w:WB.Web}{ts:List Tr}{ps:List PV}{r:Option PV}(h:f (hsP w ts::ps)=r):onC HC.c m f (hsP w ts::ps)=r:=by
 unfold onC;rw [is_h m hm,if_pos rfl,h]
theorem zwI (w:WB.Web) (ts:List Tr):zaP [hsP w ts]=some (.int (w.length:Nat)):=by
 refine on_h (by decide +kernel) (zay (b:=false) rfl ?_ rfl);show zbf [some (hsP w ts,.shr)]=_;unfold zbf;refine zcV ((q_xL (q_l1 (p:=WB.webP w) ?_)).trans ?_)
 ·show (zaa 0 [some (hsP w ts,.shr)]).bind (pFld HC.c "elders")=_
  exact zrl w ts
 ·show some (PV.int ((w.map tupZ).length:Nat))=_
  rw [Zd]
theorem hweb (w:WB.Web) (ts:List Tr):zaW [hsP w ts]=some (WB.webP w):=by
 refine on_h (by decide +kernel) (zay (b:=true) rfl ?_ rfl);show zbv [some (hsP w ts,.shr)]=_;unfold zbv;refine zcV ((q_xL (q_l1 (p:=WB.webP w) ?_)).trans rfl);show (zaa 0 [some (hsP w ts,.shr)]).bind (pFld HC.c "elders")=_;exact zrl w ts
theorem zwG {w:WB.Web}(hw:WB.Good w) {ts:List Tr}(ho:∀t∈ts,Ok t) {v:Nat}{t:Tr}(hv:v < w.length) (ht:ts[v]?=some t):zaj [hsP w ts,.int (v:Nat)]=some (trP (cpt t)):=by
 have okt:=ho t (Zw ht);refine on_h (by decide +kernel) (zay (b:=true) rfl ?_ rfl);show zbe [some (hsP w ts,.shr),some (.int (v:Nat),.shr)]=_;unfold zbe;have e1:x1 (pFld HC.c "elders") (zaa 0) [some (hsP w ts,.shr),some (.int (v:Nat),.shr)]=some (WB.webP w):=zrl w ts;have e2:x1 (pFld HC.c "trees") (zaa 0) [some (hsP w ts,.shr),some (.int (v:Nat),.shr)]=some (.lst (ts.map fun t=>trP (cpt t))):=zwL w ts;have c1:zbE (xL WB.zas (zab (x1 (pFld HC.c "elders") (zaa 0)) (zab (xL zar (zab (zaa 1) lNil)) lNil))) [some (hsP w ts,.shr),some (.int (v:Nat),.shr)]=some (.nx [some (hsP w ts,.shr),some (.int (v:Nat),.shr)]):=by
  unfold zbE;rw [(q_xL (ps:=[WB.webP w,zax [(v:Int)]]) (q_lc e1 (q_l1 rfl))).trans (WB.chv hw [(v:Int)] (by intro x hx;rw [Zo1] at hx;subst hx;omega) (by simp))];rfl
 refine (q_nx c1).trans ?_;refine zcV ((q_xL (q_l1 ((q_x2 e2 (q:=.int (v:Nat)) rfl).trans (zb9 (f:=fun t=>trP (cpt t)) ht)))).trans ?_);rw [ct (zuU okt),zrB okt.b.nd]
end HS
namespace HS
open PySem L2 TR TX
variable [HC]
theorem q_ds {G1 G2:DF}{ρ ρ':PEnv}{p p':PV}(h:G1 ρ p=some (.nx ρ' p')):dSeq G1 G2 ρ p=G2 ρ' p':=by unfold dSeq;rw [h]
theorem zwd {G:DF}{B:DB}{ρ ρ':PEnv}{p p':PV}(h:G ρ p=some (.nx ρ' p')):ziR G B ρ p=B ρ' p':=by unfold ziR;rw [h]
theorem znB {i:Nat}{F:VF}{ρ ρ':PEnv}{p:PV}{a:Addr}(h:F ρ=some (.nx ρ')) (h1:ρ[i]?=some (some (.adr a,.shr))) (h2:ρ'[i]?=some (some (.adr a,.shr))):zcL i F ρ p=some (.nx ρ' p):=by
 unfold zcL;rw [h];simp only [h1,h2,if_true]
theorem zd4 {f:VX}{ρ:PEnv}{p:PV}(h:f ρ=some p):zbE f ρ=some (.nx ρ):=by unfold zbE;rw [h];rfl
theorem hput {w:WB.Web}{ts:List Tr}{e:List Int}{t:Tr}(hl:w.length < 40) (hlt:ts.length < 1000) (he:WB.zdV (w.length:Nat) e) (ht:Ok t):zan (hsP w ts) [tupZ e,trP t]=some (.int (w.length:Nat),hsP (w++[e]) (ts++[t])):=by
 unfold zan zh7;rw [if_pos (show [tupZ e,trP t].length+1=3 from rfl)];refine zmG fun a=>?_;have e1:ziS 0 3 (xL zaP (zab (xVar 0) lNil)) [some (.adr a,.shr),some (tupZ e,.shr),some (trP t,.shr),none] (hsP w ts)=some (.nx [some (.adr a,.shr),some (tupZ e,.shr),some (trP t,.shr),some (.int (w.length:Nat),.shr)] (hsP w ts)):=by
  unfold ziS;rw [if_neg (by decide)];have:xL zaP (zab (xVar 0) lNil) (vw 0 (hsP w ts) [some (.adr a,.shr),some (tupZ e,.shr),some (trP t,.shr),none])=some (.int (w.length:Nat)):=(q_xL (ps:=[hsP w ts]) rfl).trans (zwI w ts);rw [this];rfl
 have e2:zcL 0 (vIf (bOr (bOf (x2 pGe (zaa 3) (xC (.int (40))))) (bNot (bOf (xL WB.zaO (zab (zaa 1) (zab (zaa 3) lNil)))))) zct zak) [some (.adr a,.shr),some (tupZ e,.shr),some (trP t,.shr),some (.int (w.length:Nat),.shr)] (hsP w ts)=some (.nx [some (.adr a,.shr),some (tupZ e,.shr),some (trP t,.shr),some (.int (w.length:Nat),.shr)] (hsP w ts)):=by
  refine znB (a:=a) ?_ rfl rfl;refine (za3 ((zkc (q_b ((q_x2 (p:=.int (w.length:Nat)) (q:=.int 40) rfl rfl).trans ((e_ge _ _).trans (by rw [Zo (by omega)]))))).trans (zlm (q_b ((q_xL (ps:=[tupZ e,.int (w.length:Nat)]) rfl).trans (WB.ae he)))))).trans rfl
 have e3:zcL 0 (zbE (xL TR.zbn (zab (zaa 2) lNil))) [some (.adr a,.shr),some (tupZ e,.shr),some (trP t,.shr),some (.int (w.length:Nat),.shr)] (hsP w ts)=some (.nx [some (.adr a,.shr),some (tupZ e,.shr),some (trP t,.shr),some (.int (w.length:Nat),.shr)] (hsP w ts)) :=
  znB (a:=a) (zd4 ((q_xL (ps:=[trP t]) rfl).trans (ctr ht))) rfl rfl
 have e4:zfN 0 (zaa 1) [some (.adr a,.shr),some (tupZ e,.shr),some (trP t,.shr),some (.int (w.length:Nat),.shr)] (hsP w ts)=some (.nx [some (.adr a,.shr),some (tupZ e,.shr),some (trP t,.shr),some (.int (w.length:Nat),.shr)] (.obj HC.c hNm [.lst (w.map tupZ++[tupZ e]),.lst (ts.map fun t=>trP (cpt t))])):=by
  show (if zaL (w.map tupZ).length=true then some (DO.nx _ (PV.obj HC.c hNm [.lst (w.map tupZ++[tupZ e]),.lst (ts.map fun t=>trP (cpt t))])) else none)=_;rw [if_pos (q_sm (by rw [Zd];omega))]
 have e5:zfN 1 (xL zaN (zab (zaa 2) lNil)) [some (.adr a,.shr),some (tupZ e,.shr),some (trP t,.shr),some (.int (w.length:Nat),.shr)] (.obj HC.c hNm [.lst (w.map tupZ++[tupZ e]),.lst (ts.map fun t=>trP (cpt t))])=some (.nx [some (.adr a,.shr),some (tupZ e,.shr),some (trP t,.shr),some (.int (w.length:Nat),.shr)] (hsP (w++[e]) (ts++[t]))):=by
  unfold zfN;rw [if_pos (show nb [some (.adr a,.shr),some (tupZ e,.shr),some (trP t,.shr),some (.int (w.length:Nat),.shr)]=true from rfl),(q_xL (ps:=[trP t]) rfl).trans (ct ht)];show (if zaL (ts.map fun t=>trP (cpt t)).length=true then some (DO.nx _ (PV.obj HC.c hNm [.lst (w.map tupZ++[tupZ e]),.lst ((ts.map fun t=>trP (cpt t))++[trP (cpt t)])])) else none)=_;rw [if_pos (q_sm (by rw [Zd];omega))];unfold hsP hist;rw [Zr,Zr];rfl
 have all:zat (zdU 4 [.adr a,tupZ e,trP t]) (hsP w ts)=some (.nx [some (.adr a,.shr),some (tupZ e,.shr),some (trP t,.shr),some (.int (w.length:Nat),.shr)] (hsP (w++[e]) (ts++[t]))):=by
  show zat [some (.adr a,.shr),some (tupZ e,.shr),some (trP t,.shr),none] (hsP w ts)=_;unfold zat;exact (q_ds e1).trans ((q_ds e2).trans ((q_ds e3).trans ((q_ds e4).trans ((q_ds e5).trans rfl))))
 rw [all];rfl
end HS
namespace WB
open PySem L2
end WB
namespace PySem
open PyProof.Rows PySem.W PySem.Spec
end PySem
namespace L2
open PySem PySem.Spec PyProof.Rows PySem.W
end L2
namespace WB
open PySem L2
def zgM:VF:=(vSeq (zbE (xL zas (zab (zaa 0) (zab (xL zar (zab (zaa 1) lNil)) lNil))))
 (vSeq (zaR 2 (zg7 (zaa 1) (xC (.bl true))))
 (vSeq (vFor (itR2 (zab (x2 pAdd (zaa 1) (xC (.int (1)))) (zab (xL pLen (zab (zaa 0) lNil)) lNil))) (gN 3)
 (vIf (bOf (xL pAny (zab (zap [none,some 2] (itT (x2 pIxL (zaa 0) (zaa 3))) (gN 0) zaC (xDIn false (zaa 0) (xVar 1))) lNil)))
 (zbU 2 (zaa 3) (xC (.bl true)))
 zak))
 (vRet (xL zfX (zab (xVar 2) lNil)) true))))
def zfh:List PV->Option PV:=fnM 2 4 true zgM
section
variable {w:Web}(h:Good w) (hw:w.length<=18) {o v:Int}(ho:0<=o/\o < (w.length:Int)) (hv:0<=v/\v < (w.length:Int))
include h hw ho hv
end
theorem zwe (l:List Bool):pAny [.lst (l.map PV.bl)]=some (.bl (l.any id)):=by
 show (bools (l.map PV.bl)).map _=_;rw [zjS];rfl
theorem ztE {src:List (Option Nat)}{it:VL}{tg:VTg}{elt:VX}{ρ:PEnv}{α:Type}(e:α->PV) (Inv:PEnv->Prop) (p:α->Bool) {xs:List α}(hi:it ρ=some (xs.map e)) (hl:xs.length<=1000) (iv:Inv (zbV src ρ)) (h:∀x∈xs,∀ρ,Inv ρ -> ∃ρ1,tg (e x) ρ=some ρ1/\Inv ρ1/\elt ρ1=some (.bl (p x))) :
  xL pAny (zab (zap src it tg zaC elt) lNil) ρ=some (.bl (xs.any p)):=by
 have c:=zv8 e Inv (fun x=>PV.bl (p x)) iv h;refine (q_xL (q_l1 (zjk hi (by simp;omega) c))).trans ?_;have:xs.map (fun x=>PV.bl (p x))=(xs.map p).map PV.bl:=by rw [Zi];rfl
 rw [this,zwe,List.any_map];rfl
theorem zu6 {w:Web}(h:Good w) {v x:Int}(h0:0<=v) (h1:v < w.length) (hx:x≠v):x∈ab w v↔∃e∈eld w v,x∈ab w e:=by
 have hg:=zby h h0 h1;constructor
 ·intro ho
  have:∀x∈ab w v,x=v \/ ∃y∈eld w v,x∈ab w y:=zg6 h h0 h1 _ (.inl rfl) fun z z0 z1 hz u hu=>by
   rcases hz with rfl|⟨y,hy,hzy⟩
   ·have b:=hg.2.1 u hu
    exact .inr ⟨u,hu,(zi1 h b.1 (by omega)).2.2.2⟩
   ·have b:=hg.2.1 y hy
    exact .inr ⟨y,hy,(ziq h b.1 (by omega) u).mpr (.inr ⟨z,hzy,hu⟩)⟩
  exact (this x ho).resolve_left hx
 ·rintro ⟨e,he,hxe⟩
  exact zon h h0 h1 ((ziq h h0 h1 e).mpr (.inr ⟨v,(zi1 h h0 h1).2.2.2,he⟩)) hxe
def vers (w:Web):List Int:=(List.range w.length).map fun (i:Nat)=>(i:Int)
theorem znX {w:Web}{x:Int}:x∈vers w↔0<=x/\x < (w.length:Int):=by
 unfold vers;rw [Zs];constructor
 ·rintro ⟨i,hi,rfl⟩
  have:=Zt.mp hi;omega
 ·rintro ⟨h0,h1⟩
  exact ⟨x.toNat,Zt.mpr (by omega),by omega⟩
theorem zg9 (w:Web):(vers w).Pairwise (· < ·):=zkb _
def bel (w:Web) (v:Int):List Int:=(vers w).filter fun x=>decide (v∈ab w x)
theorem zeW {w:Web}{v x:Int}:x∈bel w v↔(0<=x/\x < (w.length:Int))/\v∈ab w x:=by
 unfold bel;rw [Zh1,znX,Zi1]
def beB:VF:=(vIf (bOf (xL pAny (zab (zap [none,some 2] (itT (x2 pIxL (zaa 0) (zaa 3))) (gN 0) zaC (xDIn false (zaa 0) (xVar 1))) lNil)))
 (zbU 2 (zaa 3) (xC (.bl true)))
 zak)
theorem belo {w:Web}(h:Good w) {v:Int}(h0:0<=v) (h1:v < w.length):zfh [webP w,.int v]=some (zax (bel w v)):=by
 have hw:=h.2.1;obtain ⟨ρ',l1,ns,s3,hρ,hnd,hns⟩:=zfA (tg:=gN 3) (body:=beB) (xs:=rngP (v+1) ((w.length:Int) - (v+1)).toNat) (ρ:=[some (webP w,.shr),some (.int v,.shr),some (.dct (dT [v]),.own),none])
  (fun i ρ=>∃ns s3,ρ = [some (webP w,.shr),some (.int v,.shr),some (.dct (dT ns),.own),s3]/\ns.Nodup /\ ∀x,x∈ns↔(0<=x/\x<=v + (i:Nat))/\v∈ab w x) ⟨[v],none,rfl,by simp,fun x=>by
   rw [Zo1];constructor
   ·rintro rfl
    exact ⟨by omega,(zi1 h h0 h1).2.2.2⟩
   ·rintro ⟨hb,hm⟩
    have:=zu5 h hb.1 (by omega) hm;omega⟩ (by
   rintro i x ρ hx ⟨ns,s3,rfl,hnd,hns⟩;obtain ⟨hi,rfl⟩:=zjh hx;obtain ⟨k,hk⟩:∃k:Int,k=v+1 + (i:Nat):=⟨_,rfl⟩
   rw [<- hk];have k0:0<=k:=by omega
   have k1:k < (w.length:Int):=by omega
   have hg:=zby h k0 k1;have hbn:∀x∈ns,0<=x/\x < (w.length:Int):=fun x hx=>by have:=(hns x).mp hx;omega
   have hlen:=zcy hnd hbn;have c1:bOf (xL pAny (zab (zap [none,some 2] (itT (x2 pIxL (zaa 0) (zaa 3))) (gN 0) zaC (xDIn false (zaa 0) (xVar 1))) lNil)) [some (webP w,.shr),some (.int v,.shr),some (.dct (dT ns),.own),some (.int k,.shr)]=some ((eld w k).any fun e=>decide (e∈ns)):=by
    refine q_b (ztE PV.int (fun ρ=>∃s fl,ρ = [s,some (.dct (dT ns),fl)]) (fun e=>decide (e∈ns)) (zlo ((q_x2 (p:=webP w) (q:=.int k) rfl rfl).trans (zmf k0 k1))) (by have:=hg.2.2;omega) ⟨none,_,rfl⟩ ?_);rintro x _ ρ ⟨s,fl,rfl⟩;exact ⟨[some (.int x,.shr),some (.dct (dT ns),fl)],rfl,⟨_,_,rfl⟩,znC (neg:=false) rfl rfl⟩
   have hkv:v≠k:=by omega
   have key:((eld w k).any fun e=>decide (e∈ns))=decide (v∈ab w k):=by
    rw [Bool.eq_iff_iff,List.any_eq_true,Zi1,zu6 h k0 k1 hkv];constructor
    ·rintro ⟨e,he,hd⟩
     exact ⟨e,he,((hns e).mp (of_decide_eq_true hd)).2⟩
    ·rintro ⟨e,he,hd⟩
     have b:=hg.2.1 e he;exact ⟨e,he,Zn ((hns e).mpr ⟨by omega,hd⟩)⟩
   rw [key] at c1;by_cases hm:v∈ab w k
   ·rw [Zn hm] at c1
    refine ⟨[some (webP w,.shr),some (.int v,.shr),some (.dct (dT ns),.own),some (.int k,.shr)],[some (webP w,.shr),some (.int v,.shr),some (.dct (dT (addZ ns k)),.own),some (.int k,.shr)],rfl,?_,addZ ns k,_,rfl,zf0 hnd,fun x=>?_⟩
    ·refine (zcr c1).trans ((zfS (x:=k) (q:=.bl true) (ks:=dT ns) rfl rfl rfl (by rw [zjP];omega)).trans ?_)
     rw [zmE];rfl
    ·rw [zjw,hns]
     constructor
     ·rintro (⟨a,b⟩|rfl)
      ·exact ⟨by omega,b⟩
      ·exact ⟨by omega,hm⟩
     ·rintro ⟨a,b⟩
      by_cases hxk:x=k
      ·exact .inr hxk
      ·exact .inl ⟨by omega,b⟩
   ·rw [Zo hm] at c1
    refine ⟨[some (webP w,.shr),some (.int v,.shr),some (.dct (dT ns),.own),some (.int k,.shr)],[some (webP w,.shr),some (.int v,.shr),some (.dct (dT ns),.own),some (.int k,.shr)],rfl,(za3 c1).trans rfl,ns,_,rfl,hnd,fun x=>?_⟩;rw [hns];constructor
    ·rintro ⟨a,b⟩
     exact ⟨by omega,b⟩
    ·rintro ⟨a,b⟩
     have hxk:x≠k:=fun z=>hm (z ▸ b);exact ⟨by omega,b⟩)
 have hlen:(rngP (v+1) ((w.length:Int) - (v+1)).toNat).length=((w.length:Int) - (v+1)).toNat:=by unfold rngP;simp
 rw [hlen] at hns;subst hρ;refine zay (b:=true) rfl ?_ rfl;show zgM [some (webP w,.shr),some (.int v,.shr),none,none]=_;refine (q_nx (zd4 ((q_xL (ps:=[webP w,zax [v]]) rfl).trans (chv h [v] (by simp;omega) (by simp))))).trans ?_;refine (q_nx (ρ':=[some (webP w,.shr),some (.int v,.shr),some (.dct (dT [v]),.own),none]) rfl).trans ?_;have i1:itR2 (zab (x2 pAdd (zaa 1) (xC (.int (1)))) (zab (xL pLen (zab (zaa 0) lNil)) lNil)) [some (webP w,.shr),some (.int v,.shr),some (.dct (dT [v]),.own),none]=some (rngP (v+1) ((w.length:Int) - (v+1)).toNat) :=
  zlp (q_lc (p:=.int (v+1)) rfl (q_l1 ((q_xL (ps:=[webP w]) rfl).trans (by rw [webP,zln,Zd])))) (by omega) (by omega)
 refine (q_nx ((zbM i1).trans l1)).trans ?_;refine zcV ((q_xL (q_l1 (p:=.dct (dT ns)) rfl)).trans ((zoT ?_).trans ?_))
 ·have:=zcy hnd (n:=w.length) fun x hx=>by have:=(hns x).mp hx;omega
  omega
 ·rw [zqp (zgo hnd) ((zg9 w).filter _) fun x=>by
   rw [zcR,hns];show _↔x∈bel w v;rw [zeW];constructor
   ·rintro ⟨a,b⟩;exact ⟨by omega,b⟩
   ·rintro ⟨a,b⟩;exact ⟨by omega,b⟩]
  rfl
end WB
namespace WR
open PySem L2
def zaz (p:Nat×Nat):PV:=.tup [.int (p.1:Nat),.int (p.2:Nat)]
def zal (ps:List (Nat×Nat)):PV:=.lst (ps.map zaz)
def Ris (old new:Row) (ps:List (Nat×Nat)) (i st:Nat):Prop:=ps.Pairwise (fun p q=>p.1 < q.1/\p.2 < q.2) /\ ∀p∈ps,p.1 < i/\p.2 < st /\ ∃z,old[p.1]?=some z/\new[p.2]?=some z
theorem zqq {old new:Row}:∀{ps:List (Nat×Nat)}{i st:Nat},Ris old new ps i st->ps.length<=i:=by
 intro ps
 suffices H:∀qs:List (Nat×Nat),∀{i st:Nat},Ris old new qs.reverse i st->qs.length<=i by
  intro i st h;have:=H ps.reverse (i:=i) (st:=st) (by rw [List.reverse_reverse];exact h)
  rwa [List.length_reverse] at this
 intro qs
 induction qs with
 | nil=>intro i st _;simp
 | cons p qs ih =>
  intro i st h;rw [List.reverse_cons] at h;have hp:=(h.2 p (by simp)).1;obtain ⟨h1,h2,h3⟩:=List.pairwise_append.mp h.1;have:=ih (i:=p.1) (st:=st) ⟨h1,fun q hq=>⟨(h3 q hq p (by simp)).1,(h.2 q (by simp [hq])).2⟩⟩;simp only [Zq];omega
def kB:VF:=(vSeq (zai 7 (xL zaH (zab (zaa 1) (zab (zaa 6) (zab (zaa 4) lNil)))))
 (vIf (bAnd (bOf (x1 zhK (zaa 7))) (bOf (x2 pEq (x2 pAdd (xL zaq (zab (zaa 2) (zab (x2 pAdd (zaa 5) (xC (.int (1)))) (zab (x2 pAdd (zaa 7) (xC (.int (1)))) lNil)))) (xC (.int (1)))) (xL zaq (zab (zaa 2) (zab (zaa 5) (zab (zaa 4) lNil)))))))
 (vSeq (zao 3 (xL zaQ (zab (zaa 5) (zab (zaa 7) lNil))))
 (zai 4 (x2 pAdd (zaa 7) (xC (.int (1))))))
 zak))
abbrev kR (old new:Row) (g:List (List Int)) (ps:List (Nat×Nat)) (st i:Nat) (z:Str) (s7:Option (PV×Fl)):PEnv:=[some (rowP old,.shr),some (rowP new,.shr),some (zcG g,.shr),some (zal ps,.own),some (.int (st:Nat),.shr),some (.int (i:Nat),.shr),some (.str z,.shr),s7]
theorem k1 {old new:Row}{g:List (List Int)}{ps:List (Nat×Nat)}{st i:Nat}{z:Str}{s7:Option (PV×Fl)}(h:zaH [rowP new,.str z,.int (st:Nat)]=some .non):kB (kR old new g ps st i z s7)=some (.nx (kR old new g ps st i z (some (.non,.shr)))):=by
 unfold kB kR
 (repeat (first|tm_at "ev" | simp (discharger:=tm_at "evd") only [h]))
theorem k2 {old new:Row}{g:List (List Int)}{ps:List (Nat×Nat)}{st i j:Nat}{z:Str}{s7:Option (PV×Fl)}{v:Int}(h:zaH [rowP new,.str z,.int (st:Nat)]=some (.int (j:Nat))) (e1:zaq [zcG g,.int ((i:Nat) + 1),.int ((j:Nat) + 1)]=some (.int v)) (e2:zaq [zcG g,.int (i:Nat),.int (st:Nat)]=some (.int (v+1))) (hp:ps.length<=1000):kB (kR old new g ps st i z s7)=some (.nx (kR old new g (ps++[(i,j)]) (j+1) i z (some (.int (j:Nat),.shr)))):=by
 unfold kB kR zal
 (repeat (first|tm_at "ev" | simp (discharger:=tm_at "evd") only [h,e1,e2,decide_true,Zr,zaz]))
 rfl
theorem k3 {old new:Row}{g:List (List Int)}{ps:List (Nat×Nat)}{st i j:Nat}{z:Str}{s7:Option (PV×Fl)}{v v2:Int}(h:zaH [rowP new,.str z,.int (st:Nat)]=some (.int (j:Nat))) (e1:zaq [zcG g,.int ((i:Nat) + 1),.int ((j:Nat) + 1)]=some (.int v)) (e2:zaq [zcG g,.int (i:Nat),.int (st:Nat)]=some (.int v2)) (hv:v+1≠v2):kB (kR old new g ps st i z s7)=some (.nx (kR old new g ps st i z (some (.int (j:Nat),.shr)))):=by
 unfold kB kR
 (repeat (first|tm_at "ev" | simp (discharger:=tm_at "evd") only [h,e1,e2,Zo hv]))
theorem zuc (old new:Row) (g:List (List Int)) (ho:old.length<=1000) (hn:new.length<=1000) (hg:g.length=old.length+1) (hl:∀l∈g,l.length=new.length+1) (i:Nat) (z:Str) (hz:old[i]?=some z) (ps:List (Nat×Nat)) (st:Nat) (hr:Ris old new ps i st) (hs:st<=new.length) (s7:Option (PV×Fl)) :
  ∃ps' st' t7,kB (kR old new g ps st i z s7)=some (.nx (kR old new g ps' st' i z t7))/\Ris old new ps' (i+1) st' /\ st' <= new.length:=by
 have hi:=(Zg.mp hz).1;have up:Ris old new ps (i+1) st:=⟨hr.1,fun p hp=>by have:=hr.2 p hp;exact ⟨by omega,by omega,this.2.2⟩⟩
 have hlen:=zqq hr;rcases pf new z st hn (by omega) with h|⟨j,h,h1,h2⟩
 ·exact ⟨ps,st,some (.non,.shr),k1 h,up,hs⟩
 ·have hj:=(Zg.mp h2).1
  obtain ⟨v1,e1⟩:=mb g old.length new.length (i+1) (j+1) hg hl (by omega) (by omega);obtain ⟨v2,e2⟩:=mb g old.length new.length i st hg hl (by omega) (by omega);by_cases hv:v1+1=v2
  ·refine ⟨ps++[(i,j)],j+1,some (.int (j:Nat),.shr),k2 (v:=v1) h e1 (hv ▸ e2) (by omega),⟨List.pairwise_append.mpr ⟨hr.1,by simp,fun p hp q hq=>?_⟩,fun p hp=>?_⟩,by omega⟩
   ·have:=hr.2 p hp
    rw [Zo1.mp hq];exact ⟨this.1,by show p.2 < j;omega⟩
   ·rcases Zd1.mp hp with hp|hp
    ·have:=hr.2 p hp
     exact ⟨by omega,by omega,this.2.2⟩
    ·rw [Zo1.mp hp]
     exact ⟨by show i < i+1;omega,by show j < j+1;omega,z,hz,h2⟩
  ·exact ⟨ps,st,some (.int (j:Nat),.shr),k3 h e1 e2 hv,up,hs⟩
theorem kp {old new:Row}(ho:zeg old) (hn:zeg new):∃ps,zcI [rowP old,rowP new]=some (zal ps)/\Ris old new ps old.length new.length:=by
 have hol:=ho.1;have hnl:=hn.1;obtain ⟨g,g1,g2,g3⟩:=ah old.reverse new.reverse (by rw [List.length_reverse];omega) (by rw [List.length_reverse];omega);rw [List.length_reverse] at g2;obtain ⟨ρ',h1,ps,st,s5,s6,s7,rfl,h2,h3⟩:=zfA (tg:=gT [5,6]) (body:=kB) (xs:=zcj (old.map PV.str)) (ρ:=[some (rowP old,.shr),some (rowP new,.shr),some (zcG g,.shr),some (zal [],.own),some (.int ((0:Nat):Int),.shr),none,none,none])
  (fun i ρ=>∃(ps:List (Nat×Nat)) (st:Nat) (s5 s6 s7:Option (PV×Fl)),ρ = [some (rowP old,.shr),some (rowP new,.shr),some (zcG g,.shr),some (zal ps,.own),some (.int (st:Nat),.shr),s5,s6,s7]/\Ris old new ps i st/\st<=new.length) ⟨[],0,none,none,none,rfl,⟨.nil,fun p hp=>nomatch hp⟩,Nat.zero_le _⟩ (by
  rintro i x ρ hx ⟨ps,st,s5,s6,s7,rfl,hr,hs⟩;obtain ⟨z,hz,rfl⟩:=zjJ hx;obtain ⟨ps',st',t7,b1,b2,b3⟩:=zuc old new g (by omega) (by omega) g2 (fun l hl=>by rw [g3 l hl,List.length_reverse]) i z hz ps st hr hs s7;exact ⟨_,_,rfl,b1,ps',st',_,_,_,rfl,b2,b3⟩)
 refine ⟨ps,zay (b:=true) rfl ?_ rfl,⟨h2.1,fun p hp=>?_⟩⟩
 ·refine (q_nx (zd4 ((q_xL (ps:=[rowP old]) rfl).trans (cr ho)))).trans ?_
  refine (q_nx (zd4 ((q_xL (ps:=[rowP new]) rfl).trans (cr hn)))).trans ?_;refine (q_nx (za7 ((q_xL (ps:=[rowP old.reverse,rowP new.reverse]) ?_).trans g1))).trans ?_
  ·show (zab (xRev (zaa 0) (x1 pNeg (xC (.int (1))))) (zab (xRev (zaa 1) (x1 pNeg (xC (.int (1))))) lNil)) [some (rowP old,.shr),some (rowP new,.shr),none,none,none,none,none,none]=_
   unfold rowP;rw [List.map_reverse,List.map_reverse];rfl
  refine (q_nx (zco (p:=zal []) rfl)).trans ?_;refine (q_nx (za7 (p:=.int ((0:Nat):Int)) rfl)).trans ?_;exact (q_nx ((zbM (xs:=zcj (old.map PV.str)) rfl).trans h1)).trans rfl
 ·have:=h2.2 p hp
  rw [zjI] at this;exact ⟨this.1,by omega,this.2.2⟩
end WR
namespace WH
open PySem L2 TR
variable [HC]
def zdz:VF:=(vSeq (zai 3 (xL HS.zaj (zab (zaa 0) (zab (zaa 1) lNil))))
 (vSeq (vIf (bOf (xDIn true (zaa 2) (zaa 3)))
 zct
 zak)
 (vRet (zbQ (zaa 3) (zaa 2)) false)))
def zbD:List PV->Option PV:=fnM 3 4 false zdz
def zbI:VF:=(vSeq (zai 4 (xL zbD (zab (zaa 0) (zab (zaa 1) (zab (zaa 2) lNil)))))
 (vIf (bOr (bOf (x2 pLt (zaa 3) (xC (.int (0))))) (bOf (x2 pGe (zaa 3) (xL pLen (zab (zaa 4) lNil)))))
 zct
 zak))
def zbJ:List PV->Option PV:=fnM 4 5 false zbI
def zcA:VF:=(vSeq (zai 3 (xL zbD (zab (zaa 0) (zab (zaa 1) (zab (zaa 2) lNil)))))
 (vSeq (zaR 4 (x2 pRep (xL zar (zab (xC PV.non) lNil)) (xL pLen (zab (zaa 3) lNil))))
 (vSeq (vFor (itT (x2 pIxL (xL HS.zaW (zab (zaa 0) lNil)) (zaa 1))) (gN 5)
 (vSeq (zai 6 (xL HS.zaj (zab (zaa 0) (zab (zaa 5) lNil))))
 (vIf (bOf (xDIn false (zaa 2) (zaa 6)))
 (vFor (itL (xL WR.zcI (zab (zbQ (zaa 6) (zaa 2)) (zab (zaa 3) lNil)))) (gT [7,8])
 (vIf (bOf (x1 pIsN (x2 pIxL (xVar 4) (zaa 8))))
 (zit 4 (zaa 8) (xL zaQ (zab (zaa 5) (zab (zaa 7) lNil))))
 zak))
 zak)))
 (zb2 4))))
def zbw:List PV->Option PV:=fnM 3 9 true zcA
def zcz:VF:=(vSeq (vIf (bOr (bOf (x2 pNe (x2 pIxT (zaa 0) (xC (.int (0)))) (zaa 1))) (bOf (x1 pIsN (x2 pIxL (zaa 2) (x2 pIxT (zaa 0) (xC (.int (1))))))))
 (vRet (zaa 0) false)
 zak)
 (vRet (x2 pIxL (zaa 2) (x2 pIxT (zaa 0) (xC (.int (1))))) false))
def zbZ:List PV->Option PV:=fnM 3 3 false zcz
def zdy:VF:=(vSeq (zai 3 (zap [none,some 1] (itR1 (zab (xL pLen (zab (xL zbD (zab (zaa 0) (zab (zaa 1) (zab (zaa 2) lNil)))) lNil)) lNil)) (gN 0) zaC (xL zaQ (zab (zaa 1) (zab (zaa 0) lNil)))))
 (vSeq (vFor (itRD (zab (zaa 1) (zab (x1 pNeg (xC (.int (1)))) (zab (x1 pNeg (xC (.int (1)))) lNil)))) (gN 4)
 (vIf (bOf (x2 (pIn false) (zaa 4) (zap [none] (itL (zaa 3)) (gN 0) zaC (x2 pIxT (zaa 0) (xC (.int (0)))))))
 (vSeq (zai 5 (xL zbw (zab (zaa 0) (zab (zaa 4) (zab (zaa 2) lNil)))))
 (zai 3 (zap [none,some 4,some 5] (itL (zaa 3)) (gN 0) zaC (xL zbZ (zab (zaa 0) (zab (zaa 1) (zab (zaa 2) lNil)))))))
 zak))
 (vRet (zaa 3) false)))
def f_whence:List PV->Option PV:=fnM 3 6 false zdy
abbrev Ln:=Nat×Nat
def soP:Option Ln->PV
 | none=>.non
 | some x=>WR.zaz x
structure Hs (w:WB.Web) (ts:List Tr):Prop where
 g:WB.Good w
 l:w.length=ts.length
 o:∀t∈ts,Ok t
 s:∀t∈ts,∀p∈t,WR.zeg p.2
def row (ts:List Tr) (p:Str) (v:Nat):Option WR.Row:=(ts[v]?).bind fun t=>look t p
theorem zbl {w:WB.Web}{ts:List Tr}(H:Hs w ts) {p:Str}{v:Nat}{r:WR.Row}(h:row ts p v=some r):WR.zeg r:=by
 obtain ⟨t,ht,hr⟩:=Za.mp h;exact H.s t (Zw ht) (p,r) (zdA hr)
theorem zhv {w:WB.Web}{ts:List Tr}(H:Hs w ts) {p:Str}{v:Nat}{r:WR.Row}(h:row ts p v=some r):v < w.length:=by
 obtain ⟨t,ht,_⟩:=Za.mp h;rw [H.l];exact (Zg.mp ht).1
theorem zq4 {t:Tr}(h:Ok t) (p:Str):look (HS.cpt t) p=look t p:=by
 by_cases hp:p∈keys t
 ·exact HS.zjx h.b.nd hp
 ·rw [zcF.mpr hp,zcF]
  intro z;rw [HS.zgP] at z;exact hp ((zaX (keys t)).mem_iff.mp z)
theorem tr {w:WB.Web}{ts:List Tr}(H:Hs w ts) {v:Nat}(hv:v < w.length) (p:Str):∃t,HS.zaj [HS.hsP w ts,.int (v:Nat)]=some (trP t)/\look t p=row ts p v:=by
 have hv2:v < ts.length:=by rw [<- H.l];exact hv
 have e:=Zc hv2;refine ⟨HS.cpt ts[v],HS.zwG H.g H.o hv e,?_⟩;rw [zq4 (H.o _ (Zz hv2))];unfold row;rw [e];rfl
theorem zh4 {t:Tr}{p:Str}(neg:Bool) {f g:VX}{ρ:PEnv}(h1:f ρ=some (.str p)) (h2:g ρ=some (trP t)):xDIn neg f g ρ=some (.bl (if neg then !(look t p).isSome else (look t p).isSome)):=by
 rw [znC neg h1 h2,ze2]
theorem rat {w:WB.Web}{ts:List Tr}(H:Hs w ts) {v:Nat}{p:Str}{r:WR.Row}(h:row ts p v=some r):zbD [HS.hsP w ts,.int (v:Nat),.str p]=some (WR.rowP r):=by
 obtain ⟨t,e1,e2⟩:=tr H (zhv H h) p;rw [h] at e2;refine zay (b:=false) rfl ?_ rfl;show zdz [some (HS.hsP w ts,.shr),some (.int (v:Nat),.shr),some (.str p,.shr),none]=_;unfold zdz;refine (q_nx (za7 (p:=trP t) ((q_xL (ps:=[HS.hsP w ts,.int (v:Nat)]) rfl).trans e1))).trans ?_;refine (q_nx ((za3 (q_b ((zh4 true (p:=p) (t:=t) rfl rfl).trans (by rw [e2];rfl)))).trans rfl)).trans ?_;exact zcV (zd5 (t:=t) (k:=p) (r:=r) rfl rfl e2)
theorem cl {w:WB.Web}{ts:List Tr}(H:Hs w ts) {v j:Nat}{p:Str}{r:WR.Row}(h:row ts p v=some r) (hj:j < r.length):zbJ [HS.hsP w ts,.int (v:Nat),.str p,.int (j:Nat)]=some .non:=by
 refine zhy (ρ:=[some (HS.hsP w ts,.shr),some (.int (v:Nat),.shr),some (.str p,.shr),some (.int (j:Nat),.shr),some (WR.rowP r,.shr)]) rfl ?_;show zbI [some (HS.hsP w ts,.shr),some (.int (v:Nat),.shr),some (.str p,.shr),some (.int (j:Nat),.shr),none]=_;unfold zbI;refine (q_nx (za7 (p:=WR.rowP r) ((q_xL (ps:=[HS.hsP w ts,.int (v:Nat),.str p]) rfl).trans (rat H h)))).trans ?_;refine (za3 ((zkc (q_b ((q_x2 (p:=.int (j:Nat)) (q:=.int 0) rfl rfl).trans ((q_lt _ _).trans (by rw [Zo (by omega)]))))).trans (q_b ((q_x2 (p:=.int (j:Nat)) (q:=.int (r.length:Nat)) rfl ((q_xL (q_l1 (p:=WR.rowP r) rfl)).trans (by show some (PV.int ((r.map PV.str).length:Nat))=_;rw [Zd]))).trans ((q_ge _ _).trans (by rw [Zo (by omega)])))))).trans rfl
open Classical in
def kpt (a b:WR.Row):List Ln:=if h:WR.zeg a/\WR.zeg b then (WR.kp h.1 h.2).choose else []
theorem ze4 {a b:WR.Row}(ha:WR.zeg a) (hb:WR.zeg b):WR.zcI [WR.rowP a,WR.rowP b]=some (WR.zal (kpt a b))/\WR.Ris a b (kpt a b) a.length b.length:=by
 unfold kpt;rw [dif_pos ⟨ha,hb⟩];exact (WR.kp ha hb).choose_spec
def kb (ts:List Tr) (p:Str) (v j e:Nat):Option Ln:=(row ts p e).bind fun old=>(row ts p v).bind fun new=>((kpt old new).find? fun q=>decide (q.2=j)).map fun q=>(e,q.1)
def els (w:WB.Web) (v:Nat):List Nat:=(WB.eld w (v:Int)).map Int.toNat
def src (w:WB.Web) (ts:List Tr) (p:Str) (x:Ln):Option Ln:=(els w x.1).findSome? (kb ts p x.1 x.2)
theorem zjK {w:WB.Web}(hw:WB.Good w) {v:Nat}(hv:v < w.length) {e:Nat}(he:e∈els w v):e < v:=by
 obtain ⟨z,hz,rfl⟩:=Zs.mp he;obtain ⟨h1,h2⟩:=(WB.zby hw (v:=(v:Int)) (by omega) (by omega)).2.1 z hz;omega
theorem zpe {w:WB.Web}(hw:WB.Good w) {v:Nat}(hv:v < w.length):tupZ (WB.eld w (v:Int))=.tup ((els w v).map fun (e:Nat)=>PV.int (e:Nat)):=by
 unfold tupZ els;rw [Zi];congr 1;refine Ze1 fun z hz=>?_;obtain ⟨h1,h2⟩:=(WB.zby hw (v:=(v:Int)) (by omega) (by omega)).2.1 z hz;show PV.int z=PV.int (z.toNat:Nat);rw [Int.toNat_of_nonneg h1]
def text (ts:List Tr) (p:Str) (x:Ln):Option Str:=(row ts p x.1).bind fun r=>r[x.2]?
theorem zra {w:WB.Web}{ts:List Tr}(H:Hs w ts) {p:Str}{v j e:Nat}{y:Ln}(h:kb ts p v j e=some y):y.1=e /\ ∃z,text ts p y=some z/\text ts p (v,j)=some z:=by
 unfold kb at h;obtain ⟨old,h1,h⟩:=Za.mp h;obtain ⟨new,h2,h⟩:=Za.mp h;obtain ⟨q,h3,rfl⟩:=Zb.mp h;have hm:=List.mem_of_find?_eq_some h3;have hq:q.2=j:=by simpa using List.find?_some h3
 obtain ⟨_,_,z,z1,z2⟩:=(ze4 (zbl H h1) (zbl H h2)).2.2 q hm;refine ⟨rfl,z,?_,?_⟩
 ·show (row ts p e).bind _=_
  rw [h1];exact z1
 ·show (row ts p v).bind _=_
  rw [h2,<- hq];exact z2
theorem zoJ {w:WB.Web}{ts:List Tr}(H:Hs w ts) {p:Str}{x y:Ln}(hx:x.1 < w.length) (h:src w ts p x=some y):y.1 < x.1 /\ ∃z,text ts p y=some z/\text ts p x=some z:=by
 unfold src at h;obtain ⟨e,he,h⟩:=List.exists_of_findSome?_eq_some h;obtain ⟨h1,h2⟩:=zra H h;exact ⟨by rw [h1];exact zjK H.g hx he,h2⟩
def fl (n:Nat) (g:Nat->Option Ln):PV:=.lst ((List.range n).map fun j=>soP (g j))
theorem ztB {i j:Nat}{fk f:VX}{ρ:PEnv}{q:PV}{ps:List PV}(h:f ρ=some q) (hk:fk ρ=some (.int (j:Nat))) (hp:ρ[i]?=some (some (.lst ps,.own))) (hj:j < ps.length):zit i fk f ρ=some (.nx (ρ.set i (some (.lst (ps.set j q),.own)))):=by
 unfold zit wr;rw [h,hk];have:ixN ps.length (j:Int)=some j:=by
  unfold ixN;rw [if_pos (by omega),if_pos (by omega)];rfl
 simp only [Option.bind_some,hp,this,Option.map_some]
def siB:VF:=(vIf (bOf (x1 pIsN (x2 pIxL (xVar 4) (zaa 8))))
 (zit 4 (zaa 8) (xL zaQ (zab (zaa 5) (zab (zaa 7) lNil))))
 zak)
theorem zur {n j:Nat}(h:j < n) (g:Nat->Option Ln):pIxL (fl n g) (.int (j:Nat))=some (soP (g j)):=by
 show atI _ _=_;exact zb9 (f:=fun j=>soP (g j)) (by rw [Zg1 h])
theorem zuq {n j:Nat}(g:Nat->Option Ln) (x:Ln):PV.lst (((List.range n).map fun j=>soP (g j)).set j (WR.zaz x))=fl n (fun k=>if k=j then some x else g k):=by
 unfold fl;congr 1;refine List.ext_getElem (by simp) fun k h1 h2=>?_;rw [List.getElem_set];simp only [List.getElem_map,List.getElem_range];by_cases hk:j=k
 ·subst hk;simp only [if_true];rfl
 ·rw [if_neg hk,if_neg (fun z=>hk z.symm)]
theorem zk0 (n e:Nat) (a0 a1 a2 a3 a6:Option (PV×Fl)):∀(ps:List Ln),(∀q∈ps,q.2 < n) -> ∀(g:Nat->Option Ln) (s7 s8:Option (PV×Fl)),∃s7' s8',
  za2 (gT [7,8]) siB (ps.map WR.zaz) [a0,a1,a2,a3,some (fl n g,.own),some (.int (e:Nat),.shr),a6,s7,s8]=some (.nx [a0,a1,a2,a3,some (fl n (fun j=>(g j).or ((ps.find? fun q=>decide (q.2=j)).map fun q=>(e,q.1))),.own),some (.int (e:Nat),.shr),a6,s7',s8'])
 | [],_,g,s7,s8=>⟨s7,s8,by
   have:(fun j=>(g j).or (((([]:List Ln)).find? fun q=>decide (q.2=j)).map fun q=>(e,q.1)))=g:=by
    funext j;show (g j).or none=_;rw [Option.or_none]
   rw [this];rfl⟩
 | q::ps,hq,g,s7,s8=>by
  have hj:=hq q Zf;have step:∃g',siB [a0,a1,a2,a3,some (fl n g,.own),some (.int (e:Nat),.shr),a6,some (.int (q.1:Nat),.shr),some (.int (q.2:Nat),.shr)]=some (.nx [a0,a1,a2,a3,some (fl n g',.own),some (.int (e:Nat),.shr),a6,some (.int (q.1:Nat),.shr),some (.int (q.2:Nat),.shr)]) /\ ∀j,g' j=(g j).or (if q.2=j then some (e,q.1) else none):=by
   unfold siB;have c:x2 pIxL (xVar 4) (zaa 8) [a0,a1,a2,a3,some (fl n g,.own),some (.int (e:Nat),.shr),a6,some (.int (q.1:Nat),.shr),some (.int (q.2:Nat),.shr)]=some (soP (g q.2)):=(q_x2 (p:=fl n g) (q:=.int (q.2:Nat)) rfl rfl).trans (zur hj g);cases hg:g q.2 with
   | none =>
    refine ⟨fun k=>if k=q.2 then some (e,q.1) else g k,?_,?_⟩
    ·rw [zcr (q_b ((q_x1 c).trans (by rw [hg];rfl))),ztB (q:=WR.zaz (e,q.1)) (j:=q.2) (ps:=(List.range n).map fun j=>soP (g j)) rfl rfl rfl (by simpa using hj),zuq]
     rfl
    ·intro j
     by_cases h:q.2=j
     ·subst h;rw [if_pos rfl,hg];exact if_pos rfl
     ·show (if j=q.2 then _ else _)=_
      rw [if_neg (fun z=>h z.symm),if_neg h,Option.or_none]
   | some x =>
    refine ⟨g,?_,?_⟩
    ·rw [za3 (q_b ((q_x1 c).trans (by rw [hg];rfl)))]
     rfl
    ·intro j
     by_cases h:q.2=j
     ·subst h;rw [hg];rfl
     ·rw [if_neg h,Option.or_none]
  obtain ⟨g',e1,e2⟩:=step;obtain ⟨s7',s8',ih⟩:=zk0 n e a0 a1 a2 a3 a6 ps (fun z hz=>hq z (Ze _ hz)) g' (some (.int (q.1:Nat),.shr)) (some (.int (q.2:Nat),.shr));refine ⟨s7',s8',?_⟩;rw [Zh,zbz (ρ1:=[a0,a1,a2,a3,some (fl n g,.own),some (.int (e:Nat),.shr),a6,some (.int (q.1:Nat),.shr),some (.int (q.2:Nat),.shr)]) rfl e1,ih];have:(fun j=>(g' j).or ((ps.find? fun q=>decide (q.2=j)).map fun q=>(e,q.1)))=fun j=>(g j).or (((q::ps).find? fun q=>decide (q.2=j)).map fun q=>(e,q.1)):=by
   funext j;rw [e2,Option.or_assoc,List.find?_cons];by_cases h:q.2=j
   ·rw [if_pos h,Zn h];rfl
   ·rw [if_neg h,Zo h];rfl
  rw [this]
def soB:VF:=(vSeq (zai 6 (xL HS.zaj (zab (zaa 0) (zab (zaa 5) lNil))))
 (vIf (bOf (xDIn false (zaa 2) (zaa 6)))
 (vFor (itL (xL WR.zcI (zab (zbQ (zaa 6) (zaa 2)) (zab (zaa 3) lNil)))) (gT [7,8]) siB)
 zak))
theorem zkY {w:WB.Web}{ts:List Tr}(H:Hs w ts) {p:Str}{v:Nat}{new:WR.Row}(hn:row ts p v=some new) (a1:Option (PV×Fl)):∀(es:List Nat),(∀e∈es,e < w.length) -> ∀(g:Nat->Option Ln) (s5 s6 s7 s8:Option (PV×Fl)),∃s5' s6' s7' s8',
  za2 (gN 5) soB (es.map fun (e:Nat)=>PV.int (e:Nat)) [some (HS.hsP w ts,.shr),a1,some (.str p,.shr),some (WR.rowP new,.shr),some (fl new.length g,.own),s5,s6,s7,s8]=some (.nx [some (HS.hsP w ts,.shr),a1,some (.str p,.shr),some (WR.rowP new,.shr),some (fl new.length (fun j=>(g j).or (es.findSome? (kb ts p v j))),.own),s5',s6',s7',s8'])
 | [],_,g,s5,s6,s7,s8=>⟨s5,s6,s7,s8,by
   have:(fun j=>(g j).or (([]:List Nat).findSome? (kb ts p v j)))=g:=by
    funext j;show (g j).or none=_;rw [Option.or_none]
   rw [this];rfl⟩
 | e::es,he,g,s5,s6,s7,s8=>by
  obtain ⟨t,e1,e2⟩:=tr H (he e Zf) p;have step:∃s7' s8',soB [some (HS.hsP w ts,.shr),a1,some (.str p,.shr),some (WR.rowP new,.shr),some (fl new.length g,.own),some (.int (e:Nat),.shr),s6,s7,s8]=some (.nx [some (HS.hsP w ts,.shr),a1,some (.str p,.shr),some (WR.rowP new,.shr),some (fl new.length (fun j=>(g j).or (kb ts p v j e)),.own),some (.int (e:Nat),.shr),some (trP t,.shr),s7',s8']):=by
   unfold soB;rw [q_nx (za7 (p:=trP t) ((q_xL (ps:=[HS.hsP w ts,.int (e:Nat)]) rfl).trans e1))];cases ho:row ts p e with
   | none =>
    refine ⟨s7,s8,?_⟩;rw [ho] at e2;have:(fun j=>(g j).or (kb ts p v j e))=g:=by
     funext j;unfold kb;rw [ho];show (g j).or none=_;rw [Option.or_none]
    rw [this];exact (za3 (q_b ((zh4 false (p:=p) (t:=t) rfl rfl).trans (by rw [e2];rfl)))).trans rfl
   | some old =>
    rw [ho] at e2;obtain ⟨k1,k2⟩:=ze4 (zbl H ho) (zbl H hn);obtain ⟨s7',s8',ih⟩:=zk0 new.length e (some (HS.hsP w ts,.shr)) a1 (some (.str p,.shr)) (some (WR.rowP new,.shr)) (some (trP t,.shr)) (kpt old new) (fun q hq=>(k2.2 q hq).2.1) g s7 s8;refine ⟨s7',s8',?_⟩;refine (zcr (q_b ((zh4 false (p:=p) (t:=t) rfl rfl).trans (by rw [e2];rfl)))).trans ?_;refine (zbM (zdP ((q_xL (ps:=[WR.rowP old,WR.rowP new]) (q_lc (zd5 (t:=t) (k:=p) (r:=old) rfl rfl e2) (q_l1 rfl))).trans k1))).trans ?_;refine ih.trans ?_;have:(fun j=>(g j).or (((kpt old new).find? fun q=>decide (q.2=j)).map fun q=>(e,q.1)))=fun j=>(g j).or (kb ts p v j e):=by
     funext j;unfold kb;rw [ho,hn];rfl
    rw [this]
  obtain ⟨s7',s8',st⟩:=step;obtain ⟨b5,b6,b7,b8,ih⟩:=zkY H hn a1 es (fun z hz=>he z (Ze _ hz)) (fun j=>(g j).or (kb ts p v j e)) (some (.int (e:Nat),.shr)) (some (trP t,.shr)) s7' s8';refine ⟨b5,b6,b7,b8,?_⟩;rw [Zh,zbz (ρ1:=[some (HS.hsP w ts,.shr),a1,some (.str p,.shr),some (WR.rowP new,.shr),some (fl new.length g,.own),some (.int (e:Nat),.shr),s6,s7,s8]) rfl st,ih];have:(fun j=>((g j).or (kb ts p v j e)).or (es.findSome? (kb ts p v j)))=fun j=>(g j).or ((e::es).findSome? (kb ts p v j)):=by
   funext j;rw [Option.or_assoc,List.findSome?_cons];cases kb ts p v j e<;>rfl
  rw [this]
theorem zoc (n:Nat):(List.replicate n [PV.non]).flatten=(List.range n).map fun j=>soP ((fun _=>none:Nat->Option Ln) j):=by
 refine List.ext_getElem (by simp) fun k h1 h2=>?_;rw [List.getElem_map];have:∀x∈(List.replicate n [PV.non]).flatten,x=PV.non:=by
  intro x hx;obtain ⟨l,hl,hx⟩:=List.mem_flatten.mp hx;rw [List.mem_replicate] at hl;rw [hl.2,Zo1] at hx;exact hx
 exact this _ (Zz h1)
theorem zr3 {w:WB.Web}{ts:List Tr}(H:Hs w ts) {v:Nat}(hv:v < w.length):pIxL (WB.webP w) (.int (v:Nat))=some (.tup ((els w v).map fun (e:Nat)=>PV.int (e:Nat))):=by
 rw [WB.zmf (by omega) (by omega),zpe H.g hv]
theorem sou {w:WB.Web}{ts:List Tr}(H:Hs w ts) {v:Nat}{p:Str}{r:WR.Row}(h:row ts p v=some r):zbw [HS.hsP w ts,.int (v:Nat),.str p]=some (fl r.length fun j=>src w ts p (v,j)):=by
 have hv:=zhv H h;have rk:=(zbl H h).1;refine zay (b:=true) rfl ?_ rfl;show zcA [some (HS.hsP w ts,.shr),some (.int (v:Nat),.shr),some (.str p,.shr),none,none,none,none,none,none]=_;unfold zcA;refine (q_nx (za7 (p:=WR.rowP r) ((q_xL (ps:=[HS.hsP w ts,.int (v:Nat),.str p]) rfl).trans (rat H h)))).trans ?_;have er:x2 pRep (xL zar (zab (xC PV.non) lNil)) (xL pLen (zab (zaa 3) lNil)) [some (HS.hsP w ts,.shr),some (.int (v:Nat),.shr),some (.str p,.shr),some (WR.rowP r,.shr),none,none,none,none,none]=some (fl r.length fun _=>none):=by
  refine (q_x2 (p:=.lst [.non]) (q:=.int (r.length:Nat)) rfl ((q_xL (q_l1 (p:=WR.rowP r) rfl)).trans (by show some (PV.int ((r.map PV.str).length:Nat))=_;rw [Zd]))).trans ?_;rw [WR.zuw (by simp;omega) (by omega),zoc];rfl
 refine (q_nx (zco er)).trans ?_;obtain ⟨s5,s6,s7,s8,e⟩:=zkY H h (some (.int (v:Nat),.shr)) (els w v) (fun e he=>Nat.lt_trans (zjK H.g hv he) hv) (fun _=>none) none none none none;refine (q_nx ((zbM (zlo ((q_x2 (p:=WB.webP w) (q:=.int (v:Nat)) ((q_xL (q_l1 (p:=HS.hsP w ts) rfl)).trans (HS.hweb w ts)) rfl).trans (zr3 H hv)))).trans e)).trans ?_;rfl
end WH
namespace WH
open PySem L2 TR
variable [HC]
def Val (ts:List Tr) (p:Str) (x:Ln):Prop:=∃z,text ts p x=some z
theorem zgh {ts:List Tr}{p:Str}{x:Ln}(h:Val ts p x):∃r,row ts p x.1=some r/\x.2 < r.length:=by
 obtain ⟨z,h⟩:=h;obtain ⟨r,h1,h2⟩:=Za.mp h;exact ⟨r,h1,(Zg.mp h2).1⟩
theorem zoE {w:WB.Web}{ts:List Tr}(H:Hs w ts) {p:Str}{x:Ln}(h:Val ts p x):x.1 < w.length:=by
 obtain ⟨r,h1,_⟩:=zgh h;exact zhv H h1
theorem q_p0 {F:VX}{ρ:PEnv}{x:Ln}(h:F ρ=some (WR.zaz x)):x2 pIxT F (xC (.int (0))) ρ=some (.int (x.1:Nat)):=(q_x2 h rfl).trans rfl
theorem q_p1 {F:VX}{ρ:PEnv}{x:Ln}(h:F ρ=some (WR.zaz x)):x2 pIxT F (xC (.int (1))) ρ=some (.int (x.2:Nat)):=(q_x2 h rfl).trans rfl
def ch (w:WB.Web) (ts:List Tr) (p:Str) (x:Ln):List Ln:=match src w ts p x with
 | none=>[x]
 | some y=>if h:y.1 < x.1 then x::ch w ts p y else [x]
termination_by x.1
theorem zg0 {w:WB.Web}{ts:List Tr}{p:Str}{x:Ln}(h:src w ts p x=none):ch w ts p x = [x]:=by
 rw [ch];split
 ·rfl
 ·rename_i y hy;rw [h] at hy;cases hy
theorem zdh {w:WB.Web}{ts:List Tr}(H:Hs w ts) {p:Str}{x y:Ln}(hx:Val ts p x) (h:src w ts p x=some y):ch w ts p x=x::ch w ts p y/\y.1 < x.1/\Val ts p y/\text ts p y=text ts p x:=by
 obtain ⟨h1,z,z1,z2⟩:=zoJ H (zoE H hx) h;refine ⟨?_,h1,⟨z,z1⟩,by rw [z1,z2]⟩;rw [ch];split
 ·rename_i hy;rw [h] at hy;cases hy
 ·rename_i y' hy
  rw [h] at hy;cases hy;rw [dif_pos h1]
theorem zmL {w:WB.Web}{ts:List Tr}(H:Hs w ts) {p:Str}{x:Ln}(hx:Val ts p x):∃l,ch w ts p x=x::l:=by
 cases h:src w ts p x with
 | none=>exact ⟨[],zg0 h⟩
 | some y=>exact ⟨_,(zdh H hx h).1⟩
theorem zuW {w:WB.Web}{ts:List Tr}(H:Hs w ts) {p:Str}{P:Ln->Prop}(h0:∀x,Val ts p x->src w ts p x=none->P x) (h1:∀x y,Val ts p x->src w ts p x=some y->Val ts p y->y.1 < x.1->P y->P x):∀x,Val ts p x->P x:=by
 have go:∀(k:Nat) (x:Ln),x.1=k->Val ts p x->P x:=by
  intro k
  induction k using Nat.strongRecOn with
  | ind k ih =>
   intro x hk hx;cases h:src w ts p x with
   | none=>exact h0 x hx h
   | some y =>
    obtain ⟨_,b,c,_⟩:=zdh H hx h;exact h1 x y hx h c b (ih y.1 (by omega) y rfl c)
 exact fun x hx=>go x.1 x rfl hx
theorem zkZ (n:Nat) (x:Ln):zb6 n [PV.int (x.1:Nat),PV.int (x.2:Nat)] [PV.int (x.1:Nat),PV.int (x.2:Nat)]=true:=by simp [zb6,simk]
theorem zhi:∀(n:Nat) (a:List Ln),zb6 (n+1) (a.map WR.zaz) (a.map WR.zaz)=true
 | _,[]=>by simp [zb6]
 | n,x::a=>by
  rw [Zh];simp only [zb6,zhi n a,Bool.and_true];exact zkZ n x
theorem zjG (ps:List Ln):pEqL 3 true (WR.zal ps) (WR.zal ps)=some (.bl false):=by
 have h3:peq (WR.zal ps) (WR.zal ps)=true:=zbj.mpr rfl;show (if zb6 3 (ps.map WR.zaz) (ps.map WR.zaz)=true then some (PV.bl (if true=true then !peq (WR.zal ps) (WR.zal ps) else _)) else none)=_;rw [if_pos (zhi 2 ps),h3];rfl
end WH
namespace WH
open PySem L2 TR
variable [HC]
def up1 (w:WB.Web) (ts:List Tr) (p:Str) (m:Nat) (x:Ln):Ln:=if x.1=m then (src w ts p x).getD x else x
theorem sup {w:WB.Web}{ts:List Tr}{p:Str}{x:Ln}{m:Nat}{r:WR.Row}(hx:x.1=m->x.2 < r.length):zbZ [WR.zaz x,.int (m:Nat),fl r.length fun j=>src w ts p (m,j)]=some (WR.zaz (up1 w ts p m x)):=by
 refine zay (b:=false) rfl ?_ rfl;show zcz [some (WR.zaz x,.shr),some (.int (m:Nat),.shr),some (fl r.length fun j=>src w ts p (m,j),.shr)]=_;unfold zcz up1;have c1:bOf (x2 pNe (x2 pIxT (zaa 0) (xC (.int (0)))) (zaa 1)) [some (WR.zaz x,.shr),some (.int (m:Nat),.shr),some (fl r.length fun j=>src w ts p (m,j),.shr)]=some (!decide (x.1=m)):=by
  refine q_b ((q_x2 (p:=.int (x.1:Nat)) (q:=.int (m:Nat)) rfl rfl).trans ?_);show some (PV.bl (!decide ((x.1:Int)=(m:Int))))=_;congr 3;exact decide_eq_decide.mpr (by omega)
 by_cases h:x.1=m
 ·rw [Zn h] at c1
  have a:=zur (hx h) (fun j=>src w ts p (m,j));have es:(m,x.2)=x:=by rw [<- h]
  have a:pIxL (fl r.length fun j=>src w ts p (m,j)) (.int (x.2:Nat))=some (soP (src w ts p x)):=by rw [a,es]
  have a2:x2 pIxL (zaa 2) (x2 pIxT (zaa 0) (xC (.int (1)))) [some (WR.zaz x,.shr),some (.int (m:Nat),.shr),some (fl r.length fun j=>src w ts p (m,j),.shr)]=some (soP (src w ts p x)):=(q_x2 (p:=fl r.length fun j=>src w ts p (m,j)) rfl (q_p1 (x:=x) rfl)).trans a;rw [if_pos h];cases hs:src w ts p x with
  | none =>
   rw [hs] at a2;exact q_rt ((zcr ((zkc c1).trans (q_b ((q_x1 a2).trans rfl)))).trans rfl)
  | some y =>
   rw [hs] at a2;exact (q_nx ((za3 ((zkc c1).trans (q_b ((q_x1 a2).trans rfl)))).trans rfl)).trans (zcV a2)
 ·rw [Zo h] at c1
  rw [if_neg h];exact q_rt ((zcr (zv7 c1)).trans rfl)
end WH
namespace WH
open PySem L2 TR
variable [HC]
theorem zsz {w:WB.Web}{ts:List Tr}(H:Hs w ts) {p:Str}{x:Ln}(hx:Val ts p x) (m:Nat):Val ts p (up1 w ts p m x):=by
 unfold up1;split
 ·cases h:src w ts p x with
  | none=>exact hx
  | some y=>exact (zdh H hx h).2.2.1
 ·exact hx
def ups (w:WB.Web) (ts:List Tr) (p:Str) (ms:List Nat) (x:Ln):Ln:=ms.foldl (fun y m=>up1 w ts p m y) x
def whB:VF:=(vIf (bOf (x2 (pIn false) (zaa 4) (zap [none] (itL (zaa 3)) (gN 0) zaC (x2 pIxT (zaa 0) (xC (.int (0)))))))
 (vSeq (zai 5 (xL zbw (zab (zaa 0) (zab (zaa 4) (zab (zaa 2) lNil)))))
 (zai 3 (zap [none,some 4,some 5] (itL (zaa 3)) (gN 0) zaC (xL zbZ (zab (zaa 0) (zab (zaa 1) (zab (zaa 2) lNil)))))))
 zak)
theorem zpp {w:WB.Web}{ts:List Tr}(H:Hs w ts) {p:Str}(a1:Option (PV×Fl)) (m:Nat) (L:List Ln) (hL:∀x∈L,Val ts p x) (hl:L.length<=100) (s5:Option (PV×Fl)):∃s5',
  whB [some (HS.hsP w ts,.shr),a1,some (.str p,.shr),some (WR.zal L,.shr),some (.int (m:Nat),.shr),s5]=some (.nx [some (HS.hsP w ts,.shr),a1,some (.str p,.shr),some (WR.zal (L.map (up1 w ts p m)),.shr),some (.int (m:Nat),.shr),s5']):=by
 have c:zap [none] (itL (zaa 3)) (gN 0) zaC (x2 pIxT (zaa 0) (xC (.int (0)))) [some (HS.hsP w ts,.shr),a1,some (.str p,.shr),some (WR.zal L,.shr),some (.int (m:Nat),.shr),s5]=some (zax (L.map fun x=>(x.1:Int))):=by
  refine (zbA (ys:=L.map fun x=>PV.int (x.1:Nat)) (zdP (ps:=L.map WR.zaz) rfl) (by rw [Zd];omega) ?_).trans (by unfold zax;rw [Zi];rfl);refine zfi WR.zaz _ (fun ρ=>∃s,ρ = [s]) _ _ ⟨none,rfl⟩ ?_;rintro x _ ρ ⟨s,rfl⟩;exact ⟨[some (WR.zaz x,.shr)],rfl,⟨_,rfl⟩,q_p0 (x:=x) rfl⟩
 have t:=(q_x2 (f:=zaa 4) (ρ:=[some (HS.hsP w ts,.shr),a1,some (.str p,.shr),some (WR.zal L,.shr),some (.int (m:Nat),.shr),s5]) (p:=.int (m:Nat)) rfl c).trans (zqz false (m:Nat) (L.map fun x=>(x.1:Int)));rw [if_neg (by decide)] at t;unfold whB;by_cases h:((m:Nat):Int)∈L.map fun x=>(x.1:Int)
 ·rw [Zn h] at t
  obtain ⟨x,hx,hxm⟩:=Zs.mp h;have hxm:x.1=m:=by omega
  obtain ⟨r,r1,r2⟩:=zgh (hL x hx);rw [hxm] at r1;refine ⟨some (fl r.length fun j=>src w ts p (m,j),.shr),?_⟩;refine (zcr (q_b t)).trans ?_;refine (q_nx (za7 ((q_xL (ps:=[HS.hsP w ts,.int (m:Nat),.str p]) rfl).trans (sou H r1)))).trans ?_;have c2:zap [none,some 4,some 5] (itL (zaa 3)) (gN 0) zaC (xL zbZ (zab (zaa 0) (zab (zaa 1) (zab (zaa 2) lNil)))) [some (HS.hsP w ts,.shr),a1,some (.str p,.shr),some (WR.zal L,.shr),some (.int (m:Nat),.shr),some (fl r.length fun j=>src w ts p (m,j),.shr)]=some (WR.zal (L.map (up1 w ts p m))):=by
   refine (zbA (ys:=L.map fun x=>WR.zaz (up1 w ts p m x)) (zdP (ps:=L.map WR.zaz) rfl) (by rw [Zd];omega) ?_).trans (by unfold WR.zal;rw [Zi];rfl);refine zfi WR.zaz _ (fun ρ=>∃s,ρ = [s,some (.int (m:Nat),.shr),some (fl r.length fun j=>src w ts p (m,j),.shr)]) _ _ ⟨none,rfl⟩ ?_;rintro y hy ρ ⟨s,rfl⟩;refine ⟨[some (WR.zaz y,.shr),some (.int (m:Nat),.shr),some (fl r.length fun j=>src w ts p (m,j),.shr)],rfl,⟨_,rfl⟩,?_⟩;refine (q_xL (ps:=[WR.zaz y,.int (m:Nat),fl r.length fun j=>src w ts p (m,j)]) rfl).trans (sup fun hm=>?_);obtain ⟨r',q1,q2⟩:=zgh (hL y hy);rw [hm,r1] at q1;cases q1;exact q2
  exact (za7 c2).trans rfl
 ·rw [Zo h] at t
  refine ⟨s5,?_⟩;have:L.map (up1 w ts p m)=L:=by
   refine (Ze1 fun x hx=>?_).trans (List.map_id L);unfold up1;rw [if_neg]
   ·rfl
   ·intro z
    exact h (Zs.mpr ⟨x,hx,by rw [z]⟩)
  rw [this];exact (za3 (q_b t)).trans rfl
theorem zkE {w:WB.Web}{ts:List Tr}(H:Hs w ts) {p:Str}(a1:Option (PV×Fl)):∀(ms:List Nat) (L:List Ln),(∀x∈L,Val ts p x)->L.length<=100 -> ∀(s4 s5:Option (PV×Fl)),∃s4' s5',
  za2 (gN 4) whB (ms.map fun (m:Nat)=>PV.int (m:Nat)) [some (HS.hsP w ts,.shr),a1,some (.str p,.shr),some (WR.zal L,.shr),s4,s5]=some (.nx [some (HS.hsP w ts,.shr),a1,some (.str p,.shr),some (WR.zal (L.map (ups w ts p ms)),.shr),s4',s5'])
 | [],L,_,_,s4,s5=>⟨s4,s5,by
   have:L.map (ups w ts p [])=L:=(Ze1 fun x hx=>rfl).trans (List.map_id L);rw [this];rfl⟩
 | m::ms,L,hL,hl,s4,s5=>by
  obtain ⟨s5',st⟩:=zpp H a1 m L hL hl s5;obtain ⟨b4,b5,ih⟩:=zkE H a1 ms (L.map (up1 w ts p m)) (fun x hx=>by
   obtain ⟨y,hy,rfl⟩:=Zs.mp hx;exact zsz H (hL y hy) m) (by rw [Zd];exact hl) (some (.int (m:Nat),.shr)) s5'
  refine ⟨b4,b5,?_⟩;rw [Zh,zbz (ρ1:=[some (HS.hsP w ts,.shr),a1,some (.str p,.shr),some (WR.zal L,.shr),some (.int (m:Nat),.shr),s5]) rfl st,ih,Zi];rfl
def dn:Nat->List Nat
 | 0=>[0]
 | v+1=>(v+1)::dn v
theorem zpi:∀v:Nat,dwnP (v:Int) (v+1)=(dn v).map fun (m:Nat)=>PV.int (m:Nat)
 | 0=>rfl
 | v+1=>by
  unfold dwnP;rw [List.range_succ_eq_map,Zh,Zi];have:=zpi v;unfold dwnP at this;show _=PV.int ((v+1:Nat):Int)::(dn v).map _;rw [<- this];congr 1;refine Ze1 fun k _=>?_;show PV.int (((v+1:Nat):Int) - ((k+1:Nat):Int))=PV.int ((v:Int) - (k:Nat));congr 1;omega
theorem zgk {w:WB.Web}{ts:List Tr}{p:Str}{x:Ln}(h:src w ts p x=none):∀ms:List Nat,ups w ts p ms x=x
 | []=>rfl
 | m::ms=>by
  show ups w ts p ms (up1 w ts p m x)=x;have:up1 w ts p m x=x:=by unfold up1;rw [h];split<;>rfl
  rw [this,zgk h ms]
theorem zen {w:WB.Web}{ts:List Tr}(H:Hs w ts) {p:Str}:∀(m:Nat) (x:Ln),Val ts p x->x.1<=m->(ch w ts p x).getLast?=some (ups w ts p (dn m) x)
 | 0,x,hx,hm=>by
  have hs:src w ts p x=none:=by
   cases h:src w ts p x with
   | none=>rfl
   | some y =>
    have:=(zdh H hx h).2.1;omega
  rw [zg0 hs,zgk hs];rfl
 | m+1,x,hx,hm=>by
  show _=some (ups w ts p (dn m) (up1 w ts p (m+1) x));by_cases h:x.1=m+1
  ·cases hs:src w ts p x with
   | none =>
    have:up1 w ts p (m+1) x=x:=by unfold up1;rw [hs];split<;>rfl
    rw [this,zg0 hs,zgk hs];rfl
   | some y =>
    have:up1 w ts p (m+1) x=y:=by unfold up1;rw [if_pos h,hs];rfl
    obtain ⟨a,b,c,_⟩:=zdh H hx hs;rw [this,a,<- zen H m y c (by omega)];obtain ⟨l,hl⟩:=zmL H c;rw [hl,List.getLast?_cons_cons]
  ·have:up1 w ts p (m+1) x=x:=by unfold up1;rw [if_neg h]
   rw [this];exact zen H m x hx (by omega)
theorem whn {w:WB.Web}{ts:List Tr}(H:Hs w ts) {p:Str}{v:Nat}{r:WR.Row}(hr:row ts p v=some r):f_whence [HS.hsP w ts,.int (v:Nat),.str p]=some (WR.zal ((List.range r.length).map fun j=>ups w ts p (dn v) (v,j))):=by
 have rk:=(zbl H hr).1;have hlt:=zhv H hr;have hw:=H.g.2.1;refine zay (b:=false) rfl ?_ rfl;show zdy [some (HS.hsP w ts,.shr),some (.int (v:Nat),.shr),some (.str p,.shr),none,none,none]=_;unfold zdy;have c:zap [none,some 1] (itR1 (zab (xL pLen (zab (xL zbD (zab (zaa 0) (zab (zaa 1) (zab (zaa 2) lNil)))) lNil)) lNil)) (gN 0) zaC (xL zaQ (zab (zaa 1) (zab (zaa 0) lNil))) [some (HS.hsP w ts,.shr),some (.int (v:Nat),.shr),some (.str p,.shr),none,none,none]=some (WR.zal ((List.range r.length).map fun j=>(v,j))):=by
  refine (zbA (xs:=(List.range r.length).map fun (j:Nat)=>PV.int (j:Nat)) (ys:=(List.range r.length).map fun j=>WR.zaz (v,j)) ((zeM (j:=(r.length:Nat)) (q_l1 ((q_xL (q_l1 ((q_xL (ps:=[HS.hsP w ts,.int (v:Nat),.str p]) rfl).trans (rat H hr)))).trans (by show some (PV.int ((r.map PV.str).length:Nat))=_;rw [Zd]))) (by omega)).trans ?_) (by simp;omega) ?_).trans (by unfold WR.zal;rw [Zi];rfl)
  ·unfold rngP
   congr 1;refine Ze1 fun k _=>?_;congr 1;omega
  ·refine zfi (fun (j:Nat)=>PV.int (j:Nat)) _ (fun ρ=>∃s,ρ = [s,some (.int (v:Nat),.shr)]) _ _ ⟨none,rfl⟩ ?_
   rintro j _ ρ ⟨s,rfl⟩;exact ⟨[some (.int (j:Nat),.shr),some (.int (v:Nat),.shr)],rfl,⟨_,rfl⟩,rfl⟩
 refine (q_nx (za7 c)).trans ?_;obtain ⟨s4,s5,e⟩:=zkE H (some (.int (v:Nat),.shr)) (dn v) ((List.range r.length).map fun j=>(v,j)) (fun x hx=>by
  obtain ⟨j,hj,rfl⟩:=Zs.mp hx;rw [Zt] at hj;exact ⟨r[j],by show (row ts p v).bind _=_;rw [hr];exact Zc hj⟩) (by simp;omega) none none
 have it:itRD (zab (zaa 1) (zab (x1 pNeg (xC (.int (1)))) (zab (x1 pNeg (xC (.int (1)))) lNil))) [some (HS.hsP w ts,.shr),some (.int (v:Nat),.shr),some (.str p,.shr),some (WR.zal ((List.range r.length).map fun j=>(v,j)),.shr),none,none]=some ((dn v).map fun (m:Nat)=>PV.int (m:Nat)):=by
  refine (zoU (i:=(v:Nat)) (j:=-1) rfl (by omega) (by omega)).trans ?_;rw [show ((v:Int) - -1).toNat=v+1 from by omega,zpi]
 refine (q_nx ((zbM it).trans e)).trans ?_;rw [Zi] at *;rfl
def vsP (V:List (List Int×Tr)):PV:=.lst (V.map fun q=>.tup [tupZ q.1,trP q.2])
abbrev tsO (V:List (List Int×Tr)):List Tr:=V.map Prod.snd
end WH
namespace WR
open PySem L2
inductive Op where
 | kp (x:Str)|tk (x:Str)|pt (x:Str)
abbrev Deed:=Bool×Nat×Str
def zfk:Deed->PV
 | (true,n,x)=>.tup [.str "put",.int (n:Nat),.str x]
 | (false,n,x)=>.tup [.str "take",.int (n:Nat),.str x]
def zbK (D:List Deed):PV:=.lst (D.map zfk)
def zfD:List Op->Row
 | []=>[]
 | .kp x::r=>x::zfD r
 | .tk x::r=>x::zfD r
 | .pt _::r=>zfD r
def newOf:List Op->Row
 | []=>[]
 | .kp x::r=>x::newOf r
 | .tk _::r=>newOf r
 | .pt x::r=>x::newOf r
def zcK:Nat->List Op->List Deed
 | _,[]=>[]
 | i,.kp _::r=>zcK (i+1) r
 | i,.tk x::r=>(false,i,x)::zcK (i+1) r
 | i,.pt x::r=>(true,i,x)::zcK i r
theorem zdG:∀(a b:List Op) (i:Nat),zcK i (a++b)=zcK i a++zcK (i + (zfD a).length) b
 | [],b,i=>by simp [zcK,zfD]
 | .kp x::r,b,i=>by simp [zcK,zfD,zdG r b (i+1),Nat.add_assoc,Nat.add_comm,Nat.add_left_comm]
 | .tk x::r,b,i=>by simp [zcK,zfD,zdG r b (i+1),Nat.add_assoc,Nat.add_comm,Nat.add_left_comm]
 | .pt x::r,b,i=>by simp [zcK,zfD,zdG r b i]
theorem zeH {n d k:Nat}(h:k<=n):HT.sIx n d (some (k:Nat))=k:=by
 unfold HT.sIx;simp only
 first
  | omega
  | (split<;>omega)
  | (simp;omega)
theorem zrA {α:Type}(f:α->PV) (l:List α) {lo hi:Nat}(h1:lo<=l.length) (h2:hi<=l.length):cutP (l.map f) (some (lo:Nat)) (some (hi:Nat))=((l.drop lo).take (hi - lo)).map f:=by
 unfold cutP;rw [Zd,zeH h1,zeH h2,List.map_take,List.map_drop]
theorem dTk:∀(l:Row) (i:Nat),zcK i (l.map Op.tk)=(List.range l.length).map fun k=>(false,i+k,l.getD k "")
 | [],i=>rfl
 | x::l,i=>by
  rw [Zh,zcK,dTk l (i+1),Zq,List.range_succ_eq_map,Zh,Zi];refine congr (congrArg _ ?_) (Ze1 fun k _=>?_)
  ·simp
  ·simp [Nat.add_assoc,Nat.add_comm,Nat.add_left_comm]
theorem dPt:∀(l:Row) (i:Nat),zcK i (l.map Op.pt)=l.map fun x=>(true,i,x)
 | [],i=>rfl
 | x::l,i=>by rw [Zh,zcK,dPt l i];rfl
theorem oTk:∀l:Row,zfD (l.map Op.tk)=l/\newOf (l.map Op.tk) = []
 | []=>⟨rfl,rfl⟩
 | x::l=>by simp [zfD,newOf,oTk l]
def edB:VF:=(vSeq (zcb 2 (zap [none,some 0] (itR2 (zab (zaa 3) (zab (zaa 5) lNil))) (gN 0) zaC (xL zaQ (zab (xC (.str "take")) (zab (zaa 0) (zab (x2 pIxL (zaa 1) (zaa 0)) lNil))))))
 (vSeq (zcb 2 (zap [none,some 5] (itL (xSl (zaa 1) (zbq (zaa 4)) (zbq (zaa 6)))) (gN 0) zaC (xL zaQ (zab (xC (.str "put")) (zab (zaa 1) (zab (zaa 0) lNil))))))
 (vSeq (zai 3 (x2 pAdd (zaa 5) (xC (.int (1)))))
 (zai 4 (x2 pAdd (zaa 6) (xC (.int (1))))))))
abbrev edR (old new:Row) (B:List Deed) (os ns:Nat) (s5 s6:Option (PV×Fl)):PEnv:=[some (rowP old,.shr),some (rowP new,.shr),some (zbK B,.own),some (.int (os:Nat),.shr),some (.int (ns:Nat),.shr),s5,s6]
def segO (old new:Row) (os ns i j:Nat):List Op:=((old.drop os).take (i - os)).map Op.tk++((new.drop ns).take (j - ns)).map Op.pt
theorem zhj (old new:Row) {os ns i j:Nat}(h1:os<=i) (h2:i<=old.length):zcK os (segO old new os ns i j)=((List.range (i - os)).map fun k=>(false,os+k,old.getD (os+k) ""))++((new.drop ns).take (j - ns)).map fun x=>(true,i,x):=by
 have hl:((old.drop os).take (i - os)).length=i - os:=by simp;omega
 unfold segO;rw [zdG,dTk,(oTk _).1,hl,show os + (i - os)=i by omega,dPt];congr 1;refine Ze1 fun k hk=>?_;have:=Zt.mp hk;simp only [Zy,List.getElem?_take,List.getElem?_drop,this,if_true]
theorem zmu {old new:Row}{B:List Deed}{os ns i j:Nat}(h1:os<=i) (h2:i<=old.length) (h3:ns<=j) (h4:j<=new.length) (hB:B.length+old.length+new.length<=1000) :
  edB (edR old new B os ns (some (.int (i:Nat),.shr)) (some (.int (j:Nat),.shr)))=some (.nx (edR old new (B++zcK os (segO old new os ns i j)) (i+1) (j+1) (some (.int (i:Nat),.shr)) (some (.int (j:Nat),.shr)))):=by
 rw [zhj old new h1 h2];have c1:∀B' s5 s6,s5=some (.int (i:Nat),Fl.shr)->zap [none,some 0] (itR2 (zab (zaa 3) (zab (zaa 5) lNil))) (gN 0) zaC (xL zaQ (zab (xC (.str "take")) (zab (zaa 0) (zab (x2 pIxL (zaa 1) (zaa 0)) lNil)))) [some (rowP old,.shr),some (rowP new,.shr),B',some (.int (os:Nat),.shr),some (.int (ns:Nat),.shr),s5,s6]=some (.lst (((List.range (i - os)).map fun k=>(false,os+k,old.getD (os+k) "")).map zfk)):=by
  rintro B' s5 s6 rfl;refine zbA (xs:=((List.range (i - os)).map fun k=>os+k).map fun k=>.int (k:Nat)) ?_ (by simp;omega) ?_
  ·have:=zlp (f:=zab (zaa 3) (zab (zaa 5) lNil)) (ρ:=[some (rowP old,.shr),some (rowP new,.shr),B',some (.int (os:Nat),.shr),some (.int (ns:Nat),.shr),some (.int (i:Nat),.shr),s6]) (i:=(os:Nat)) (j:=(i:Nat)) (by tm_at "ev") (by omega) (by omega)
   rw [this,show ((i:Int) - (os:Int)).toNat=i - os by omega,zeI]
  ·rw [Zi,Zi]
   refine zfi _ _ (fun ρ=>∃s,ρ = [s,some (rowP old,.shr)]) _ _ ⟨none,rfl⟩ ?_;rintro k hk ρ ⟨s,rfl⟩;refine ⟨_,rfl,⟨_,rfl⟩,?_⟩;have hk:=Zt.mp hk;have hg:old[os+k]?=some (old.getD (os+k) ""):=by
    rw [Zy,Zc (show os+k < old.length by omega)];rfl
   show xL zaQ _ [some (.int ((os+k:Nat):Int),.shr),some (rowP old,.shr)]=some (zfk (false,os+k,old.getD (os+k) ""));unfold rowP
   (repeat (first|tm_at "ev" | simp (discharger:=tm_at "evd") only [zb9 hg,zfk]))
 have c2:∀B' s6,s6=some (.int (j:Nat),Fl.shr)->zap [none,some 5] (itL (xSl (zaa 1) (zbq (zaa 4)) (zbq (zaa 6)))) (gN 0) zaC (xL zaQ (zab (xC (.str "put")) (zab (zaa 1) (zab (zaa 0) lNil)))) [some (rowP old,.shr),some (rowP new,.shr),B',some (.int (os:Nat),.shr),some (.int (ns:Nat),.shr),some (.int (i:Nat),.shr),s6]=some (.lst ((((new.drop ns).take (j - ns)).map fun x=>(true,i,x)).map zfk)):=by
  rintro B' s6 rfl;have c:=zrA PV.str new (lo:=ns) (hi:=j) (by omega) h4;refine zbA (xs:=((new.drop ns).take (j - ns)).map PV.str) (zdP ?_) (by simp;omega) ?_
  ·unfold rowP
   (repeat (first|tm_at "ev" | simp (discharger:=tm_at "evd") only [c]))
  ·rw [Zi]
   refine zfi _ _ (fun ρ=>∃s,ρ = [s,some (.int (i:Nat),.shr)]) _ _ ⟨none,rfl⟩ ?_;rintro k hk ρ ⟨s,rfl⟩;refine ⟨_,rfl,⟨_,rfl⟩,?_⟩;show xL zaQ _ [some (.str k,.shr),some (.int (i:Nat),.shr)]=some (zfk (true,i,k))
   (repeat (first|tm_at "ev" | simp (discharger:=tm_at "evd") only [zfk]))
 have hn:((new.drop ns).take (j - ns)).length<=new.length:=by simp;omega
 unfold edB edR zbK
 (repeat (first|tm_at "ev" | simp (discharger:=tm_at "evd") only [c1 _ _ _ rfl,c2 _ _ rfl]))
 simp only [Zr,Zb1];rfl
theorem zq7 (ns:List Int) (k:Nat) (hk:k<=1000):∃c:Int,zaB [.scr ns,.int (k:Nat)]=some (.int c):=by
 by_cases h:k < ns.length
 ·refine ⟨ns[k],zay (b:=false) rfl ?_ rfl⟩
  show zaV [some (.scr ns,.shr),some (.int (k:Nat),.shr),none]=_;have z:decide (((k:Nat):Int) < (ns.length:Nat))=true:=Zn (by omega);have a:atI ns (k:Nat)=some ns[k]:=e_at (Zc h);unfold zaV
  (repeat (first|tm_at "ev" | simp (discharger:=tm_at "evd") only [z,a]))
 ·have z:decide (((k:Nat):Int) < (ns.length:Nat))=false:=Zo (by omega)
  by_cases h0:0 < ns.length
  ·have z0:decide ((0:Int) < (ns.length:Nat))=true:=Zn (by omega)
   have a:atI ns (0:Int)=some ns[0]:=e_at (i:=0) (Zc h0);refine ⟨(ns[0] % 65521 * 48271 + (k:Nat) * 30103) % 65521,zay (b:=false) rfl ?_ rfl⟩
   ·show zaV [some (.scr ns,.shr),some (.int (k:Nat),.shr),none]=some (.rt (.int ((ns[0] % 65521 * 48271 + (k:Nat) * 30103) % 65521)) false)
    unfold zaV
    (repeat (first|tm_at "ev" | simp (discharger:=tm_at "evd") only [z,z0,a]))
  ·have z0:decide ((0:Int) < (ns.length:Nat))=false:=Zo (by omega)
   refine ⟨(0 % 65521 * 48271 + (k:Nat) * 30103) % 65521,zay (b:=false) rfl ?_ rfl⟩
   ·show zaV [some (.scr ns,.shr),some (.int (k:Nat),.shr),none]=some (.rt (.int ((0 % 65521 * 48271 + (k:Nat) * 30103) % 65521)) false)
    unfold zaV
    (repeat (first|tm_at "ev" | simp (discharger:=tm_at "evd") only [z,z0]))
theorem ldig (ns:List Int) (k:Nat) (hk:k<=1000):∃c:Int,zaF [.scr ns,.int (k:Nat)]=some (.int c):=by
 obtain ⟨c,hc⟩:=zq7 ns k hk;by_cases h:c % 2=0
 ·refine ⟨c / 2,zay (b:=false) rfl ?_ rfl⟩
  show zaU [some (.scr ns,.shr),some (.int (k:Nat),.shr),none,none]=_;unfold zaU
  (repeat (first|tm_at "ev" | simp (discharger:=tm_at "evd") only [hc,h]))
 ·generalize h1:c * 48271 % 2147483647=s1
  have b1:0<=s1/\s1 < 2147483647:=by omega
  generalize h2:(s1 * s1+12345) % 2147483647=s2;have b2:0<=s2/\s2 < 2147483647:=by omega
  generalize h3:s2 * 16807 % 2147483647=s3;have b3:0<=s3/\s3 < 2147483647:=by omega
  refine ⟨s3 * s3 % 2147483647 * 48271+s3 / 8,zay (b:=false) rfl ?_ rfl⟩;show zaU [some (.scr ns,.shr),some (.int (k:Nat),.shr),none,none]=_;unfold zaU
  (repeat (first|tm_at "ev" | simp (discharger:=tm_at "evd") only [hc,Zo h,h1,h2,h3]))
end WR
namespace WH
open PySem L2 TR
variable [HC]
def zbu:VF:=(vSeq (zaR 2 (xL zar lNil))
 (vSeq (vFor (itR1 (zab (x2 pIxL (xL zar (fun _=>some [(.int (0)),(.int (1)),(.int (1)),(.int (2)),(.int (2)),(.int (3))])) (x2 pMod (zaa 0) (xC (.int (6))))) lNil)) (gN 3)
 (vSeq (zai 0 (x2 pAdd (x2 pDiv (zaa 0) (xC (.int (7)))) (zaa 3)))
 (vIf (bOf (x2 pGt (zaa 1) (xC (.int (0)))))
 (zao 2 (x2 pSub (x2 pSub (zaa 1) (xC (.int (1)))) (x2 pMod (zaa 0) (xL zhL (zab (zaa 1) (zab (xC (.int (4))) lNil))))))
 zak)))
 (vRet (xL znR (zab (xL zeO (zab (xVar 2) lNil)) lNil)) false)))
def zbb:List PV->Option PV:=fnM 2 4 false zbu
def zbc:VF:=(vSeq (zaR 2 (xL zar lNil))
 (vSeq (vFor (itR1 (zab (zaa 1) lNil)) (gN 3)
 (vSeq (zao 2 (x2 pIxL (xL zar (fun _=>some [(.str "a"),(.str "b"),(.str "c"),(.str "")])) (x2 pMod (zaa 0) (xC (.int (4))))))
 (zai 0 (x2 pDiv (zaa 0) (xC (.int (4)))))))
 (zb2 2)))
def zaZ:List PV->Option PV:=fnM 2 4 true zbc
def za9:VF:=(vSeq (zaR 2 (xL zar lNil))
 (vSeq (vFor (itL (zaa 0)) (gN 3)
 (vSeq (vIf (bOf (x2 pNe (x2 pMod (zaa 1) (xC (.int (5)))) (xC (.int (1)))))
 (zao 2 (zaa 3))
 zak)
 (vSeq (vIf (bOf (x2 pEq (x2 pMod (x2 pDiv (zaa 1) (xC (.int (5)))) (xC (.int (4)))) (xC (.int (2)))))
 (zao 2 (x2 pIxL (xL zar (fun _=>some [(.str "a"),(.str "b"),(.str "c"),(.str "")])) (x2 pMod (x2 pDiv (zaa 1) (xC (.int (20)))) (xC (.int (4))))))
 zak)
 (zai 1 (x2 pDiv (zaa 1) (xC (.int (80))))))))
 (vSeq (vIf (bOf (x2 pEq (x2 pMod (zaa 1) (xC (.int (3)))) (xC (.int (1)))))
 (zao 2 (x2 pIxL (xL zar (fun _=>some [(.str "a"),(.str "b"),(.str "c"),(.str "")])) (x2 pMod (x2 pDiv (zaa 1) (xC (.int (3)))) (xC (.int (4))))))
 zak)
 (vRet (xSl (xVar 2) zb3 (zbq (xC (.int (5))))) true))))
def zaK:List PV->Option PV:=fnM 2 4 true za9
def za8:VF:=(vSeq (zaR 3 (xL zar lNil))
 (vSeq (vFor (itR1 (zab (x2 pAdd (xC (.int (1))) (x2 pMod (xL WR.zaB (zab (zaa 0) (zab (zaa 1) lNil))) (zaa 2))) lNil)) (gN 4)
 (vSeq (zai 5 (xL WR.zaF (zab (zaa 0) (zab (x2 pAdd (x2 pAdd (zaa 1) (xC (.int (1)))) (x2 pMul (xC (.int (2))) (zaa 4))) lNil))))
 (vSeq (zai 6 (xL WR.zaF (zab (zaa 0) (zab (x2 pAdd (x2 pAdd (zaa 1) (xC (.int (2)))) (x2 pMul (xC (.int (2))) (zaa 4))) lNil))))
 (vSeq (zai 7 (xL zbb (zab (zaa 5) (zab (zaa 4) lNil))))
 (vSeq (zaR 8 (fun _=>some (.dct [])))
 (vSeq (vFor (itL (xL zar (fun _=>some [(.str "f"),(.str "gg")]))) (gN 9)
 (vSeq (zai 10 (zap [none,some 3,some 9] (itT (zaa 7)) (gN 0) (bOf (xDIn false (zaa 2) (x2 pIxT (x2 pIxL (xVar 1) (zaa 0)) (xC (.int (1)))))) (zbQ (x2 pIxT (x2 pIxL (xVar 1) (zaa 0)) (xC (.int (1)))) (zaa 2))))
 (vSeq (zai 11 (xL zaZ (zab (zaa 6) (zab (x2 pMod (zaa 6) (xC (.int (5)))) lNil))))
 (vSeq (vIf (bOf (x2 pGt (xL pLen (zab (zaa 10) lNil)) (xC (.int (0)))))
 (zai 11 (xL zaK (zab (x2 pIxL (zaa 10) (x2 pMod (zaa 6) (xL pLen (zab (zaa 10) lNil)))) (zab (x2 pDiv (zaa 6) (xC (.int (4)))) lNil))))
 zak)
 (vSeq (vIf (bAnd (bOf (x2 pGt (xL pLen (zab (zaa 10) lNil)) (xC (.int (1))))) (bOf (x2 pEq (x2 pMod (x2 pDiv (zaa 6) (xC (.int (7)))) (xC (.int (3)))) (xC (.int (1))))))
 (zai 11 (xSl (x2 pCat (x2 pCat (xSl (x2 pIxL (zaa 10) (xC (.int (0)))) zb3 (zbq (xC (.int (2))))) (x2 pIxL (zaa 10) (xC (.int (1))))) (xSl (x2 pIxL (zaa 10) (xC (.int (0)))) (zbq (xC (.int (2)))) zb3)) zb3 (zbq (xC (.int (5))))))
 zak)
 (vSeq (vIf (bOf (x2 pNe (x2 pMod (zaa 6) (xC (.int (9)))) (xC (.int (4)))))
 (zbU 8 (zaa 9) (zaa 11))
 zak)
 (zai 6 (x2 pAdd (x2 pDiv (zaa 6) (xC (.int (11)))) (x2 pMul (xC (.int (5))) (zaa 4))))))))))
 (zfQ 8 (zao 3 (xL zaQ (zab (zaa 7) (zab (zaa 8) lNil)))))))))))
 (zb2 3)))
def f__law_versions:List PV->Option PV:=fnM 3 12 true za8
def zbd:VF:=(zjZ 1 (fun _=>some (hist HC.c [] []))
 (ziR (dFor 1 (itL (zaa 0)) (gT [2,3])
 (dSeq (zcL 1 (zaR 4 (fun _=>some (.dct []))))
 (dSeq (zcL 1 (vFor (itD kxs 3) (gN 5)
 (zbU 4 (zaa 5) (xL zeh (zab (zbQ (zaa 3) (zaa 5)) lNil)))))
 (zf9 4 (zed HS.zan (zab (zaa 2) (zab (zaa 4) lNil)))))))
 (dEnd 1 (vRet (zaa 1) false))))
def f__law_history:List PV->Option PV:=fnM 1 6 false zbd
def L4:List Str:=["a","b","c",""]
def K2:List Str:=["f","gg"]
def R5 (r:WR.Row):Prop:=r.length<=5 /\ ∀x∈r,x∈L4
structure T5 (t:Tr):Prop where
 b:B K2 5 t
 x:∀p∈t,∀x∈p.2,x∈L4
theorem zxm {x:Str}(h:x∈L4):x∈NL:=by
 unfold L4 at h;simp at h;rcases h with rfl|rfl|rfl|rfl<;>decide
theorem zxn {x:Str}(h:x∈L4):x∈WR.L0:=by
 unfold L4 at h;simp at h;rcases h with rfl|rfl|rfl|rfl<;>decide
theorem zxo {x:Str}(h:x∈K2):x∈P0:=by
 unfold K2 at h;simp at h;rcases h with rfl|rfl<;>decide
theorem T5.nil:T5 []:=⟨B.nil,by simp⟩
theorem T5.put {t:Tr}(h:T5 t) {p:Str}(hp:p∈K2) {r:WR.Row}(hr:R5 r):T5 (put t p r):=by
 refine ⟨h.b.put hp hr.1 fun x hx=>zxm (hr.2 x hx),fun q hq=>?_⟩;rcases zlU hq with rfl|h2
 ·exact hr.2
 ·exact h.x q h2
theorem T5.ok {t:Tr}(h:T5 t):Ok t:=⟨h.b.mono (fun x hx=>zxo hx) (by omega),Nat.le_trans h.b.len (by decide)⟩
theorem T5.row {t:Tr}(h:T5 t) {p:Str}{r:WR.Row}(hr:look t p=some r):R5 r:=⟨h.b.l _ (zdA hr),h.x _ (zdA hr)⟩
theorem q_l4 {g:VX}{ρ:PEnv}{i:Int}(hg:g ρ=some (.int i)) (h0:0<=i) (h:i < 4):∃z,x2 pIxL (xL zar (fun _=>some [(.str "a"),(.str "b"),(.str "c"),(.str "")])) g ρ=some (.str z)/\z∈L4 :=
 ⟨pk L4 i,q_pk (L:=L4) (by decide) hg h0 h,ztL h0 h⟩
theorem eld {left:Int}{n:Nat}(hn:n<=40):∃e,zbb [.int left,.int (n:Nat)]=some (tupZ e)/\WB.zdV (n:Nat) e:=by
 have h6:=WB.zdw left 6 (by omega);obtain ⟨m,hm,hm3⟩:∃m:Nat,x2 pIxL (xL zar (fun _=>some [(.int (0)),(.int (1)),(.int (1)),(.int (2)),(.int (2)),(.int (3))])) (x2 pMod (zaa 0) (xC (.int (6)))) [some (.int left,.shr),some (.int (n:Nat),.shr),some (.lst [],.own),none]=some (.int (m:Nat))/\m<=3:=by
  have e:x2 pMod (zaa 0) (xC (.int (6))) [some (.int left,.shr),some (.int (n:Nat),.shr),some (.lst [],.own),none]=some (.int (left % 6)):=(q_x2 rfl rfl).trans (zc9 left 6 (by omega));generalize left % 6=k at e h6;obtain ⟨j,rfl⟩:∃j:Nat,k=(j:Int):=⟨k.toNat,by omega⟩
  have hj:j < 6:=by omega
  have go:=(q_x2 (f:=xL zar (fun _=>some [(.int (0)),(.int (1)),(.int (1)),(.int (2)),(.int (2)),(.int (3))])) (p:=.lst [(.int (0)),(.int (1)),(.int (1)),(.int (2)),(.int (2)),(.int (3))]) (g:=pIxL) rfl e)
  match j,hj with
  | 0,_=>exact ⟨0,go.trans rfl,by omega⟩
  | 1,_=>exact ⟨1,go.trans rfl,by omega⟩
  | 2,_=>exact ⟨1,go.trans rfl,by omega⟩
  | 3,_=>exact ⟨2,go.trans rfl,by omega⟩
  | 4,_=>exact ⟨2,go.trans rfl,by omega⟩
  | 5,_=>exact ⟨3,go.trans rfl,by omega⟩
 obtain ⟨ρ',e,l,L,s3,rfl,hL,hl⟩:=zfA (tg:=gN 3) (body:=(vSeq (zai 0 (x2 pAdd (x2 pDiv (zaa 0) (xC (.int (7)))) (zaa 3)))
 (vIf (bOf (x2 pGt (zaa 1) (xC (.int (0)))))
 (zao 2 (x2 pSub (x2 pSub (zaa 1) (xC (.int (1)))) (x2 pMod (zaa 0) (xL zhL (zab (zaa 1) (zab (xC (.int (4))) lNil))))))
 zak))) (xs:=rngP 0 m) (ρ:=[some (.int left,.shr),some (.int (n:Nat),.shr),some (.lst [],.own),none]) (fun i ρ=>∃l L s3,ρ = [some (.int l,.shr),some (.int (n:Nat),.shr),some (zax L,.own),s3]/\(∀x∈L,0<=x/\x < (n:Int))/\L.length<=i) ⟨left,[],none,rfl,by simp,by simp⟩ (by
  rintro i v ρ hv ⟨l,L,s3,rfl,hL,hl⟩;obtain ⟨hi,rfl⟩:=zeJ hv;have e1:=q_nx (G:=(vIf (bOf (x2 pGt (zaa 1) (xC (.int (0)))))
 (zao 2 (x2 pSub (x2 pSub (zaa 1) (xC (.int (1)))) (x2 pMod (zaa 0) (xL zhL (zab (zaa 1) (zab (xC (.int (4))) lNil))))))
 zak)) (za7 (i:=0) (f:=x2 pAdd (x2 pDiv (zaa 0) (xC (.int (7)))) (zaa 3)) (ρ:=[some (.int l,.shr),some (.int (n:Nat),.shr),some (zax L,.own),some (.int (i:Nat),.shr)]) ((q_x2 (q:=.int (i:Nat)) ((q_x2 rfl rfl).trans (zfB l 7 (by omega) (by omega))) rfl).trans (zls _ _)))
  have ct:bOf (x2 pGt (zaa 1) (xC (.int (0)))) [some (.int (l / 7 + (i:Nat)),.shr),some (.int (n:Nat),.shr),some (zax L,.own),some (.int (i:Nat),.shr)]=some (decide ((0:Int) < (n:Nat))):=q_b ((q_x2 rfl rfl).trans (q_gt _ _));by_cases h0:0 < n
  ·rw [Zn (by omega)] at ct
   have emin:xL zhL (zab (zaa 1) (zab (xC (.int (4))) lNil)) [some (.int (l / 7 + (i:Nat)),.shr),some (.int (n:Nat),.shr),some (zax L,.own),some (.int (i:Nat),.shr)]=some (.int (if (4:Int) < (n:Nat) then 4 else (n:Nat))):=rfl;have hmin:0 < (if (4:Int) < (n:Nat) then (4:Int) else (n:Nat))/\(if (4:Int) < (n:Nat) then (4:Int) else (n:Nat))<=(n:Nat):=by split<;>omega
   generalize (if (4:Int) < (n:Nat) then (4:Int) else (n:Nat))=q at emin hmin;have md:=WB.zdw (l / 7 + (i:Nat)) q hmin.1;have ev:x2 pSub (x2 pSub (zaa 1) (xC (.int (1)))) (x2 pMod (zaa 0) (xL zhL (zab (zaa 1) (zab (xC (.int (4))) lNil)))) [some (.int (l / 7 + (i:Nat)),.shr),some (.int (n:Nat),.shr),some (zax L,.own),some (.int (i:Nat),.shr)]=some (.int ((n:Nat) - 1 - (l / 7 + (i:Nat)) % q)):=(q_x2 ((q_x2 rfl rfl).trans (ztz _ _)) ((q_x2 rfl emin).trans (zc9 _ _ hmin.1))).trans (ztz _ _);refine ⟨[some (.int l,.shr),some (.int (n:Nat),.shr),some (zax L,.own),some (.int (i:Nat),.shr)],[some (.int (l / 7 + (i:Nat)),.shr),some (.int (n:Nat),.shr),some (zax (L++[(n:Nat) - 1 - (l / 7 + (i:Nat)) % q]),.own),some (.int (i:Nat),.shr)],rfl,e1.trans ((zcr ct).trans ((zkd (ps:=L.map PV.int) ev rfl (by rw [Zd];omega)).trans ?_)),l / 7 + (i:Nat),L++[(n:Nat) - 1 - (l / 7 + (i:Nat)) % q],_,rfl,?_,?_⟩
   ·unfold zax
    rw [Zr];rfl
   ·intro x hx
    rw [Zd1,Zo1] at hx;rcases hx with hx|rfl
    ·exact hL x hx
    ·omega
   ·rw [Zp,Zx];omega
  ·rw [Zo (by omega)] at ct
   exact ⟨[some (.int l,.shr),some (.int (n:Nat),.shr),some (zax L,.own),some (.int (i:Nat),.shr)],_,rfl,e1.trans ((za3 ct).trans rfl),l / 7 + (i:Nat),L,_,rfl,hL,by omega⟩)
 have hlen:(rngP 0 m).length=m:=by unfold rngP;simp
 rw [hlen] at hl;have hs:zex L=true:=by
  unfold zex;rw [Zc1];refine ⟨Zn (by omega),Zp1.mpr fun x hx=>?_⟩;have:=hL x hx;rw [Zn this.1,Zn (by omega)];rfl
 refine ⟨srtZ (ddZ L),zay (b:=false) rfl ?_ rfl,zgo (zdv _),fun x hx=>hL x ((zeV x _).mp (zcR.mp hx)),by rw [(zbW _).length_eq];have:=WB.zmB L;omega⟩;show zbu [some (.int left,.shr),some (.int (n:Nat),.shr),none,none]=_;unfold zbu;refine (q_nx (zco (p:=.lst []) rfl)).trans ?_;refine (q_nx ((zbM (zeM (j:=(m:Nat)) (q_l1 hm) (by omega))).trans e)).trans ?_;exact zcV ((q_xL (q_l1 ((q_xL (q_l1 (p:=zax L) rfl)).trans (znA hs)))).trans rfl)
theorem ltr (left:Int) {many:Nat}(hm:many<=5):∃r,zaZ [.int left,.int (many:Nat)]=some (WR.rowP r)/\R5 r:=by
 obtain ⟨ρ',e,l,L,s3,rfl,hL,hl⟩:=zfA (tg:=gN 3) (body:=(vSeq (zao 2 (x2 pIxL (xL zar (fun _=>some [(.str "a"),(.str "b"),(.str "c"),(.str "")])) (x2 pMod (zaa 0) (xC (.int (4))))))
 (zai 0 (x2 pDiv (zaa 0) (xC (.int (4))))))) (xs:=rngP 0 many) (ρ:=[some (.int left,.shr),some (.int (many:Nat),.shr),some (.lst [],.own),none]) (fun i ρ=>∃l L s3,ρ = [some (.int l,.shr),some (.int (many:Nat),.shr),some (WR.rowP L,.own),s3]/\(∀x∈L,x∈L4)/\L.length<=i) ⟨left,[],none,rfl,by simp,by simp⟩ (by
  rintro i v ρ hv ⟨l,L,s3,rfl,hL,hl⟩;obtain ⟨hi,rfl⟩:=zeJ hv;have md:=WB.zdw l 4 (by omega);obtain ⟨z,z1,z2⟩:=q_l4 (g:=x2 pMod (zaa 0) (xC (.int (4)))) (ρ:=[some (.int l,.shr),some (.int (many:Nat),.shr),some (WR.rowP L,.own),some (.int (i:Nat),.shr)]) ((q_x2 rfl rfl).trans (zc9 l 4 (by omega))) md.1 md.2;refine ⟨[some (.int l,.shr),some (.int (many:Nat),.shr),some (WR.rowP L,.own),some (.int (i:Nat),.shr)],[some (.int (l / 4),.shr),some (.int (many:Nat),.shr),some (WR.rowP (L++[z]),.own),some (.int (i:Nat),.shr)],rfl,(q_nx (zkd (ps:=L.map PV.str) z1 rfl (by rw [Zd];omega))).trans ((za7 ((q_x2 rfl rfl).trans (zfB l 4 (by omega) (by omega)))).trans ?_),l / 4,L++[z],_,rfl,?_,?_⟩
  ·unfold WR.rowP
   rw [Zr];rfl
  ·intro x hx
   rw [Zd1,Zo1] at hx;rcases hx with hx|rfl
   ·exact hL x hx
   ·exact z2
  ·rw [Zp,Zx];omega)
 have hlen:(rngP 0 many).length=many:=by unfold rngP;simp
 rw [hlen] at hl;refine ⟨L,zay (b:=true) rfl ?_ rfl,by omega,hL⟩;show zbc [some (.int left,.shr),some (.int (many:Nat),.shr),none,none]=_;unfold zbc;refine (q_nx (zco (p:=.lst []) rfl)).trans ?_;exact (q_nx ((zbM (zeM (j:=(many:Nat)) rfl (by omega))).trans e)).trans rfl
theorem zkT {l:WR.Row}(h:∀x∈l,x∈L4):R5 (l.take 5):=⟨by rw [Zq1];omega,fun x hx=>h x (List.mem_of_mem_take hx)⟩
theorem zi0 (ps:WR.Row) (z:Str):PV.lst (ps.map PV.str++[PV.str z])=WR.rowP (ps++[z]):=by unfold WR.rowP;rw [Zr];rfl
theorem smr {old:WR.Row}(ho:R5 old) (left:Int):∃r,zaK [WR.rowP old,.int left]=some (WR.rowP r)/\R5 r:=by
 obtain ⟨ρ',e,l,L,s3,rfl,hL,hl⟩:=zfA (tg:=gN 3) (body:=(vSeq (vIf (bOf (x2 pNe (x2 pMod (zaa 1) (xC (.int (5)))) (xC (.int (1)))))
 (zao 2 (zaa 3))
 zak)
 (vSeq (vIf (bOf (x2 pEq (x2 pMod (x2 pDiv (zaa 1) (xC (.int (5)))) (xC (.int (4)))) (xC (.int (2)))))
 (zao 2 (x2 pIxL (xL zar (fun _=>some [(.str "a"),(.str "b"),(.str "c"),(.str "")])) (x2 pMod (x2 pDiv (zaa 1) (xC (.int (20)))) (xC (.int (4))))))
 zak)
 (zai 1 (x2 pDiv (zaa 1) (xC (.int (80)))))))) (xs:=old.map PV.str) (ρ:=[some (WR.rowP old,.shr),some (.int left,.shr),some (.lst [],.own),none]) (fun i ρ=>∃l L s3,ρ = [some (WR.rowP old,.shr),some (.int l,.shr),some (WR.rowP L,.own),s3]/\(∀x∈L,x∈L4)/\L.length<=2 * i) ⟨left,[],none,rfl,by simp,by simp⟩ (by
  rintro i v ρ hv ⟨l,L,s3,rfl,hL,hl⟩;rw [Zj] at hv;obtain ⟨x,hx,rfl⟩:=Zb.mp hv;have hi:i < old.length:=(Zg.mp hx).1;have xm:=ho.2 x (Zw hx);have ho5:=ho.1;have a1:∃L1,(vIf (bOf (x2 pNe (x2 pMod (zaa 1) (xC (.int (5)))) (xC (.int (1))))) (zao 2 (zaa 3)) zak) [some (WR.rowP old,.shr),some (.int l,.shr),some (WR.rowP L,.own),some (.str x,.shr)]=some (.nx [some (WR.rowP old,.shr),some (.int l,.shr),some (WR.rowP L1,.own),some (.str x,.shr)])/\(∀x∈L1,x∈L4)/\L1.length<=2 * i+1:=by
   have ct:bOf (x2 pNe (x2 pMod (zaa 1) (xC (.int (5)))) (xC (.int (1)))) [some (WR.rowP old,.shr),some (.int l,.shr),some (WR.rowP L,.own),some (.str x,.shr)]=some (!decide (l % 5=1)):=q_b ((q_x2 ((q_x2 rfl rfl).trans (zc9 l 5 (by omega))) rfl).trans rfl);by_cases h:l % 5=1
   ·rw [Zn h] at ct
    exact ⟨L,(za3 ct).trans rfl,hL,by omega⟩
   ·rw [Zo h] at ct
    refine ⟨L++[x],(zcr ct).trans ((zkd (q:=.str x) (ps:=L.map PV.str) rfl rfl (by rw [Zd];omega)).trans (by rw [zi0];rfl)),?_,by rw [Zp,Zx];omega⟩;intro y hy;rw [Zd1,Zo1] at hy;rcases hy with hy|rfl
    ·exact hL y hy
    ·exact xm
  obtain ⟨L1,b1,b2,b3⟩:=a1;have a2:∃L2,(vIf (bOf (x2 pEq (x2 pMod (x2 pDiv (zaa 1) (xC (.int (5)))) (xC (.int (4)))) (xC (.int (2))))) (zao 2 (x2 pIxL (xL zar (fun _=>some [(.str "a"),(.str "b"),(.str "c"),(.str "")])) (x2 pMod (x2 pDiv (zaa 1) (xC (.int (20)))) (xC (.int (4)))))) zak) [some (WR.rowP old,.shr),some (.int l,.shr),some (WR.rowP L1,.own),some (.str x,.shr)]=some (.nx [some (WR.rowP old,.shr),some (.int l,.shr),some (WR.rowP L2,.own),some (.str x,.shr)])/\(∀x∈L2,x∈L4)/\L2.length<=2 * i+2:=by
   have ct:bOf (x2 pEq (x2 pMod (x2 pDiv (zaa 1) (xC (.int (5)))) (xC (.int (4)))) (xC (.int (2)))) [some (WR.rowP old,.shr),some (.int l,.shr),some (WR.rowP L1,.own),some (.str x,.shr)]=some (decide (l / 5 % 4=2)):=q_b ((q_x2 ((q_x2 ((q_x2 rfl rfl).trans (zfB l 5 (by omega) (by omega))) rfl).trans (zc9 _ 4 (by omega))) rfl).trans (q_eq _ _));by_cases h:l / 5 % 4=2
   ·rw [Zn h] at ct
    have md:=WB.zdw (l / 20) 4 (by omega);obtain ⟨z,z1,z2⟩:=q_l4 (g:=x2 pMod (x2 pDiv (zaa 1) (xC (.int (20)))) (xC (.int (4)))) (ρ:=[some (WR.rowP old,.shr),some (.int l,.shr),some (WR.rowP L1,.own),some (.str x,.shr)]) ((q_x2 ((q_x2 rfl rfl).trans (zfB l 20 (by omega) (by omega))) rfl).trans (zc9 _ 4 (by omega))) md.1 md.2;refine ⟨L1++[z],(zcr ct).trans ((zkd (ps:=L1.map PV.str) z1 rfl (by rw [Zd];omega)).trans (by rw [zi0];rfl)),?_,by rw [Zp,Zx];omega⟩;intro y hy;rw [Zd1,Zo1] at hy;rcases hy with hy|rfl
    ·exact b2 y hy
    ·exact z2
   ·rw [Zo h] at ct
    exact ⟨L1,(za3 ct).trans rfl,b2,by omega⟩
  obtain ⟨L2,c1,c2,c3⟩:=a2;exact ⟨[some (WR.rowP old,.shr),some (.int l,.shr),some (WR.rowP L,.own),some (.str x,.shr)],_,rfl,(q_nx b1).trans ((q_nx c1).trans (za7 ((q_x2 rfl rfl).trans (zfB l 80 (by omega) (by omega))))),l / 80,L2,some (.str x,.shr),rfl,c2,by omega⟩)
 rw [Zd] at hl;have ho5:=ho.1;have a3:∃L3,(vIf (bOf (x2 pEq (x2 pMod (zaa 1) (xC (.int (3)))) (xC (.int (1))))) (zao 2 (x2 pIxL (xL zar (fun _=>some [(.str "a"),(.str "b"),(.str "c"),(.str "")])) (x2 pMod (x2 pDiv (zaa 1) (xC (.int (3)))) (xC (.int (4)))))) zak) [some (WR.rowP old,.shr),some (.int l,.shr),some (WR.rowP L,.own),s3]=some (.nx [some (WR.rowP old,.shr),some (.int l,.shr),some (WR.rowP L3,.own),s3])/\(∀x∈L3,x∈L4):=by
  have ct:bOf (x2 pEq (x2 pMod (zaa 1) (xC (.int (3)))) (xC (.int (1)))) [some (WR.rowP old,.shr),some (.int l,.shr),some (WR.rowP L,.own),s3]=some (decide (l % 3=1)):=q_b ((q_x2 ((q_x2 rfl rfl).trans (zc9 l 3 (by omega))) rfl).trans (q_eq _ _));by_cases h:l % 3=1
  ·rw [Zn h] at ct
   have md:=WB.zdw (l / 3) 4 (by omega);obtain ⟨z,z1,z2⟩:=q_l4 (g:=x2 pMod (x2 pDiv (zaa 1) (xC (.int (3)))) (xC (.int (4)))) (ρ:=[some (WR.rowP old,.shr),some (.int l,.shr),some (WR.rowP L,.own),s3]) ((q_x2 ((q_x2 rfl rfl).trans (zfB l 3 (by omega) (by omega))) rfl).trans (zc9 _ 4 (by omega))) md.1 md.2;refine ⟨L++[z],(zcr ct).trans ((zkd (ps:=L.map PV.str) z1 rfl (by rw [Zd];omega)).trans (by rw [zi0];rfl)),?_⟩;intro y hy;rw [Zd1,Zo1] at hy;rcases hy with hy|rfl
   ·exact hL y hy
   ·exact z2
  ·rw [Zo h] at ct
   exact ⟨L,(za3 ct).trans rfl,hL⟩
 obtain ⟨L3,d1,d2⟩:=a3;refine ⟨L3.take 5,zay (b:=true) rfl ?_ rfl,zkT d2⟩;show za9 [some (WR.rowP old,.shr),some (.int left,.shr),none,none]=_;unfold za9;refine (q_nx (zco (p:=.lst []) rfl)).trans ?_;refine (q_nx ((zbM (zdP (ps:=old.map PV.str) rfl)).trans e)).trans ?_;refine (q_nx d1).trans (zcV ?_);have:=q_cg (e:=PV.str) (l:=L3) (f:=xVar 2) (lo:=zb3) (hi:=zbq (xC (.int (5)))) (ρ:=[some (WR.rowP old,.shr),some (.int l,.shr),some (WR.rowP L3,.own),s3]) (a:=none) (b:=some ((5:Nat):Int)) rfl rfl rfl;rw [zrC] at this;exact this
end WH
namespace WH
open PySem L2 TR
variable [HC]
def piB:VF:=(vSeq (zai 10 (zap [none,some 3,some 9] (itT (zaa 7)) (gN 0) (bOf (xDIn false (zaa 2) (x2 pIxT (x2 pIxL (xVar 1) (zaa 0)) (xC (.int (1)))))) (zbQ (x2 pIxT (x2 pIxL (xVar 1) (zaa 0)) (xC (.int (1)))) (zaa 2))))
 (vSeq (zai 11 (xL zaZ (zab (zaa 6) (zab (x2 pMod (zaa 6) (xC (.int (5)))) lNil))))
 (vSeq (vIf (bOf (x2 pGt (xL pLen (zab (zaa 10) lNil)) (xC (.int (0)))))
 (zai 11 (xL zaK (zab (x2 pIxL (zaa 10) (x2 pMod (zaa 6) (xL pLen (zab (zaa 10) lNil)))) (zab (x2 pDiv (zaa 6) (xC (.int (4)))) lNil))))
 zak)
 (vSeq (vIf (bAnd (bOf (x2 pGt (xL pLen (zab (zaa 10) lNil)) (xC (.int (1))))) (bOf (x2 pEq (x2 pMod (x2 pDiv (zaa 6) (xC (.int (7)))) (xC (.int (3)))) (xC (.int (1))))))
 (zai 11 (xSl (x2 pCat (x2 pCat (xSl (x2 pIxL (zaa 10) (xC (.int (0)))) zb3 (zbq (xC (.int (2))))) (x2 pIxL (zaa 10) (xC (.int (1))))) (xSl (x2 pIxL (zaa 10) (xC (.int (0)))) (zbq (xC (.int (2)))) zb3)) zb3 (zbq (xC (.int (5))))))
 zak)
 (vSeq (vIf (bOf (x2 pNe (x2 pMod (zaa 6) (xC (.int (9)))) (xC (.int (4)))))
 (zbU 8 (zaa 9) (zaa 11))
 zak)
 (zai 6 (x2 pAdd (x2 pDiv (zaa 6) (xC (.int (11)))) (x2 pMul (xC (.int (5))) (zaa 4)))))))))
abbrev pE (a0 a1 a2:Option (PV×Fl)) (V:List (List Int×Tr)) (n:Nat) (a5:Option (PV×Fl)) (m:Int) (es:List Int) (t:Tr) (s9 s10 s11:Option (PV×Fl)):PEnv:=[a0,a1,a2,some (vsP V,.own),some (.int (n:Nat),.shr),a5,some (.int m,.shr),some (tupZ es,.shr),some (trP t,.own),s9,s10,s11]
theorem zlw (a0 a1 a2 a5:Option (PV×Fl)) {V:List (List Int×Tr)}(hV:∀q∈V,T5 q.2) (m:Int) {es:List Int}(he:∀e∈es,0<=e/\e < (V.length:Nat)) (hel:es.length<=3) {t:Tr}(ht:T5 t) {p:Str}(hp:p∈K2) (s10 s11:Option (PV×Fl)) :
  ∃m' t' s10' s11',piB (pE a0 a1 a2 V V.length a5 m es t (some (.str p,.shr)) s10 s11)=some (.nx (pE a0 a1 a2 V V.length a5 m' es t' (some (.str p,.shr)) s10' s11'))/\T5 t':=by
 have A1:∃R:List WR.Row,zap [none,some 3,some 9] (itT (zaa 7)) (gN 0) (bOf (xDIn false (zaa 2) (x2 pIxT (x2 pIxL (xVar 1) (zaa 0)) (xC (.int (1)))))) (zbQ (x2 pIxT (x2 pIxL (xVar 1) (zaa 0)) (xC (.int (1)))) (zaa 2)) (pE a0 a1 a2 V V.length a5 m es t (some (.str p,.shr)) s10 s11)=some (.lst (R.map WR.rowP))/\(∀r∈R,R5 r)/\R.length<=3:=by
  refine ⟨es.filterMap fun e=>(V[e.toNat]?).bind fun q=>look q.2 p,(zbA (ys:=es.filterMap fun e=>((V[e.toNat]?).bind fun q=>look q.2 p).map WR.rowP) (zlo (ps:=es.map PV.int) rfl) (by rw [Zd];omega) ?_).trans (by rw [List.map_filterMap]),?_,Nat.le_trans (List.length_filterMap_le _ _) hel⟩
  ·refine zdt PV.int (fun ρ=>∃s,ρ = [s,some (vsP V,.bor),some (.str p,.shr)]) _ ⟨none,rfl⟩ ?_
   rintro e hm ρ ⟨s,rfl⟩;refine ⟨[some (.int e,.shr),some (vsP V,.bor),some (.str p,.shr)],rfl,⟨_,rfl⟩,?_⟩;have hb:=he e hm;obtain ⟨k,rfl⟩:∃k:Nat,e=(k:Int):=⟨e.toNat,by omega⟩
   have hk:k < V.length:=by omega
   have ek:=Zc hk;rw [Zv,ek,Option.bind_some];have tr:x2 pIxT (x2 pIxL (xVar 1) (zaa 0)) (xC (.int (1))) [some (.int (k:Int),.shr),some (vsP V,.bor),some (.str p,.shr)]=some (trP V[k].2):=(q_x2 (q:=.int 1) ((q_x2 (p:=vsP V) (q:=.int (k:Nat)) rfl rfl).trans (zb9 (f:=fun q:List Int×Tr=>PV.tup [tupZ q.1,trP q.2]) ek)) rfl).trans rfl;have cd:=zh4 (t:=V[k].2) (p:=p) false (f:=zaa 2) rfl tr;cases hlk:look V[k].2 p with
   | none =>
    rw [hlk] at cd;exact .inl ⟨q_b cd,rfl⟩
   | some r =>
    rw [hlk] at cd;exact .inr ⟨WR.rowP r,q_b cd,zd5 tr rfl hlk,rfl⟩
  ·intro r hr
   obtain ⟨e,_,h⟩:=List.mem_filterMap.mp hr;obtain ⟨q,hq,h⟩:=Za.mp h;exact (hV q (Zw hq)).row h
 obtain ⟨R,A1,hR,hRl⟩:=A1;have md:=WB.zdw m 5 (by omega);obtain ⟨r0,A2,h0⟩:=ltr m (many:=(m % 5).toNat) (by omega);rw [Int.toNat_of_nonneg md.1] at A2;have lenR:∀s11,xL pLen (zab (zaa 10) lNil) (pE a0 a1 a2 V V.length a5 m es t (some (.str p,.shr)) (some (.lst (R.map WR.rowP),.shr)) s11)=some (.int (R.length:Nat)):=fun s11=>(q_xL (q_l1 (p:=.lst (R.map WR.rowP)) rfl)).trans (by show some (PV.int ((R.map WR.rowP).length:Nat))=_;rw [Zd]);have A3:∃r1,(vIf (bOf (x2 pGt (xL pLen (zab (zaa 10) lNil)) (xC (.int (0))))) (zai 11 (xL zaK (zab (x2 pIxL (zaa 10) (x2 pMod (zaa 6) (xL pLen (zab (zaa 10) lNil)))) (zab (x2 pDiv (zaa 6) (xC (.int (4)))) lNil)))) zak) (pE a0 a1 a2 V V.length a5 m es t (some (.str p,.shr)) (some (.lst (R.map WR.rowP),.shr)) (some (WR.rowP r0,.shr)))=some (.nx (pE a0 a1 a2 V V.length a5 m es t (some (.str p,.shr)) (some (.lst (R.map WR.rowP),.shr)) (some (WR.rowP r1,.shr))))/\R5 r1:=by
  have ct:=(q_x2 (g:=pGt) (lenR (some (WR.rowP r0,.shr))) (h:=xC (.int 0)) rfl).trans (q_gt _ _);by_cases h:(0:Int) < (R.length:Nat)
  ·rw [Zn h] at ct
   have mk:=WB.zdw m (R.length:Nat) h;obtain ⟨k,hk⟩:∃k:Nat,m % (R.length:Nat)=(k:Int):=⟨(m % (R.length:Nat)).toNat,by omega⟩
   have hkl:k < R.length:=by omega
   obtain ⟨r1,s1,s2⟩:=smr (hR _ (Zz hkl)) (m / 4);refine ⟨r1,(zcr (q_b ct)).trans ((za7 ((q_xL (ps:=[WR.rowP R[k],.int (m / 4)]) (q_lc ((q_x2 (p:=.lst (R.map WR.rowP)) (q:=.int (k:Nat)) rfl ((q_x2 rfl (lenR _)).trans ((zc9 _ _ h).trans (by rw [hk])))).trans (zb9 (f:=WR.rowP) (Zc hkl))) (q_l1 ((q_x2 rfl rfl).trans (zfB m 4 (by omega) (by omega)))))).trans s1)).trans rfl),s2⟩
  ·rw [Zo h] at ct
   exact ⟨r0,(za3 (q_b ct)).trans rfl,h0⟩
 obtain ⟨r1,A3,h1⟩:=A3;have A4:∃r2,(vIf (bAnd (bOf (x2 pGt (xL pLen (zab (zaa 10) lNil)) (xC (.int (1))))) (bOf (x2 pEq (x2 pMod (x2 pDiv (zaa 6) (xC (.int (7)))) (xC (.int (3)))) (xC (.int (1))))))
 (zai 11 (xSl (x2 pCat (x2 pCat (xSl (x2 pIxL (zaa 10) (xC (.int (0)))) zb3 (zbq (xC (.int (2))))) (x2 pIxL (zaa 10) (xC (.int (1))))) (xSl (x2 pIxL (zaa 10) (xC (.int (0)))) (zbq (xC (.int (2)))) zb3)) zb3 (zbq (xC (.int (5))))))
 zak) (pE a0 a1 a2 V V.length a5 m es t (some (.str p,.shr)) (some (.lst (R.map WR.rowP),.shr)) (some (WR.rowP r1,.shr)))=some (.nx (pE a0 a1 a2 V V.length a5 m es t (some (.str p,.shr)) (some (.lst (R.map WR.rowP),.shr)) (some (WR.rowP r2,.shr))))/\R5 r2:=by
  have c1:=q_b ((q_x2 (g:=pGt) (lenR (some (WR.rowP r1,.shr))) (h:=xC (.int 1)) rfl).trans (q_gt _ _));have c2:bOf (x2 pEq (x2 pMod (x2 pDiv (zaa 6) (xC (.int (7)))) (xC (.int (3)))) (xC (.int (1)))) (pE a0 a1 a2 V V.length a5 m es t (some (.str p,.shr)) (some (.lst (R.map WR.rowP),.shr)) (some (WR.rowP r1,.shr)))=some (decide (m / 7 % 3=1)):=q_b ((q_x2 ((q_x2 ((q_x2 rfl rfl).trans (zfB m 7 (by omega) (by omega))) rfl).trans (zc9 _ 3 (by omega))) rfl).trans (q_eq _ _));by_cases h:(1:Int) < (R.length:Nat)
  ·rw [Zn h] at c1
   by_cases h2:m / 7 % 3=1
   ·rw [Zn h2] at c2
    match R,hR,hRl,h,c1,c2 with
    | [],_,_,h,_,_=>simp at h
    | [_],_,_,h,_,_=>simp at h
    | a::b::R',hR,_,_,c1,c2 =>
     have ha:=hR a (by simp);have hb:=hR b (by simp);have ha1:=ha.1;have hb1:=hb.1;generalize hρ:pE a0 a1 a2 V V.length a5 m es t (some (.str p,.shr)) (some (.lst ((a::b::R').map WR.rowP),.shr)) (some (WR.rowP r1,.shr))=ρ at c1 c2;have i0:x2 pIxL (zaa 10) (xC (.int (0))) ρ=some (WR.rowP a):=by rw [<- hρ];exact (q_x2 (p:=.lst ((a::b::R').map WR.rowP)) (q:=.int ((0:Nat):Int)) rfl rfl).trans (zb9 (l:=a::b::R') (f:=WR.rowP) rfl)
     have i1:x2 pIxL (zaa 10) (xC (.int (1))) ρ=some (WR.rowP b):=by rw [<- hρ];exact (q_x2 (p:=.lst ((a::b::R').map WR.rowP)) (q:=.int ((1:Nat):Int)) rfl rfl).trans (zb9 (l:=a::b::R') (f:=WR.rowP) rfl)
     have g1:=q_cg (e:=PV.str) (l:=a) (lo:=zb3) (hi:=zbq (xC (.int (2)))) (a:=none) (b:=some ((2:Nat):Int)) i0 rfl rfl;have g2:=q_cg (e:=PV.str) (l:=a) (lo:=zbq (xC (.int (2)))) (hi:=zb3) (a:=some ((2:Nat):Int)) (b:=none) i0 rfl rfl;rw [zrC] at g1;rw [zrD] at g2;have k1:=(q_x2 (g:=pCat) g1 i1).trans (znD _ _ (by simp;omega));have k2:=(q_x2 (g:=pCat) k1 g2).trans (znD _ _ (by simp;omega));rw [<- Zr,<- Zr] at k2;have k3:=q_cg (e:=PV.str) (l:=a.take 2++b++a.drop 2) (lo:=zb3) (hi:=zbq (xC (.int (5)))) (a:=none) (b:=some ((5:Nat):Int)) k2 rfl rfl;rw [zrC] at k3;refine ⟨(a.take 2++b++a.drop 2).take 5,(zcr ((zhz c1).trans c2)).trans ((za7 k3).trans (by rw [<- hρ];rfl)),zkT fun x hx=>?_⟩;rw [Zd1,Zd1] at hx;rcases hx with (hx|hx)|hx
     ·exact ha.2 x (List.mem_of_mem_take hx)
     ·exact hb.2 x hx
     ·exact ha.2 x (List.mem_of_mem_drop hx)
   ·rw [Zo h2] at c2
    exact ⟨r1,(za3 ((zhz c1).trans c2)).trans rfl,h1⟩
  ·rw [Zo h] at c1
   exact ⟨r1,(za3 (zlr c1)).trans rfl,h1⟩
 obtain ⟨r2,A4,h2⟩:=A4;have A5:∃t',(vIf (bOf (x2 pNe (x2 pMod (zaa 6) (xC (.int (9)))) (xC (.int (4))))) (zbU 8 (zaa 9) (zaa 11)) zak) (pE a0 a1 a2 V V.length a5 m es t (some (.str p,.shr)) (some (.lst (R.map WR.rowP),.shr)) (some (WR.rowP r2,.shr)))=some (.nx (pE a0 a1 a2 V V.length a5 m es t' (some (.str p,.shr)) (some (.lst (R.map WR.rowP),.shr)) (some (WR.rowP r2,.shr))))/\T5 t':=by
  have ct:bOf (x2 pNe (x2 pMod (zaa 6) (xC (.int (9)))) (xC (.int (4)))) (pE a0 a1 a2 V V.length a5 m es t (some (.str p,.shr)) (some (.lst (R.map WR.rowP),.shr)) (some (WR.rowP r2,.shr)))=some (!decide (m % 9=4)):=q_b ((q_x2 ((q_x2 rfl rfl).trans (zc9 m 9 (by omega))) rfl).trans rfl);by_cases h:m % 9=4
  ·rw [Zn h] at ct
   exact ⟨t,(za3 ct).trans rfl,ht⟩
  ·rw [Zo h] at ct
   have:=ht.b.len;have:K2.length=2:=rfl;exact ⟨put t p r2,(zcr ct).trans ((zfS (t:=t) (k:=p) (r:=r2) rfl rfl rfl (by omega)).trans rfl),ht.put hp h2⟩
 obtain ⟨t',A5,h3⟩:=A5;refine ⟨m / 11+5 * (V.length:Nat),t',some (.lst (R.map WR.rowP),.shr),some (WR.rowP r2,.shr),?_,h3⟩;unfold piB;refine (q_nx (za7 A1)).trans ?_;refine (q_nx (za7 ((q_xL (ps:=[.int m,.int (m % 5)]) (q_lc rfl (q_l1 ((q_x2 rfl rfl).trans (zc9 m 5 (by omega)))))).trans A2))).trans ?_;refine (q_nx A3).trans ((q_nx A4).trans ((q_nx A5).trans ?_));exact (za7 ((q_x2 ((q_x2 rfl rfl).trans (zfB m 11 (by omega) (by omega))) ((q_x2 rfl rfl).trans (zqy 5 (V.length:Nat) (by omega) (by omega)))).trans (zls _ _))).trans rfl
structure Dr (V:List (List Int×Tr)):Prop where
 g:∀(i:Nat) (e:List Int),(V.map Prod.fst)[i]?=some e->WB.zdV i e
 t:∀q∈V,T5 q.2
theorem Dr.app {V:List (List Int×Tr)}(h:Dr V) {e:List Int}{t:Tr}(he:WB.zdV (V.length:Nat) e) (ht:T5 t):Dr (V++[(e,t)]):=by
 refine ⟨?_,fun q hq=>?_⟩
 ·rw [Zr]
  exact WB.zpq h.g (by rw [Zd];exact he)
 ·rw [Zd1,Zo1] at hq
  rcases hq with hq|rfl
  ·exact h.t q hq
  ·exact ht
def pvB:VF:=(vSeq (zai 5 (xL WR.zaF (zab (zaa 0) (zab (x2 pAdd (x2 pAdd (zaa 1) (xC (.int (1)))) (x2 pMul (xC (.int (2))) (zaa 4))) lNil))))
 (vSeq (zai 6 (xL WR.zaF (zab (zaa 0) (zab (x2 pAdd (x2 pAdd (zaa 1) (xC (.int (2)))) (x2 pMul (xC (.int (2))) (zaa 4))) lNil))))
 (vSeq (zai 7 (xL zbb (zab (zaa 5) (zab (zaa 4) lNil))))
 (vSeq (zaR 8 (fun _=>some (.dct [])))
 (vSeq (vFor (itL (xL zar (fun _=>some [(.str "f"),(.str "gg")]))) (gN 9) piB)
 (zfQ 8 (zao 3 (xL zaQ (zab (zaa 7) (zab (zaa 8) lNil))))))))))
theorem zpm (t:Tr) (nd:(keys t).Nodup) (hl:t.length<=1000) (a0 a1 a2:Option (PV×Fl)):∀(suf pre:Tr) (s2:Option (PV×Fl)),nb [s2]=true->pre++suf=t -> ∃s2',nb [s2']=true/\za2 (gN 5) (zbU 4 (zaa 5) (xL zeh (zab (zbQ (zaa 3) (zaa 5)) lNil))) ((keys suf).map PV.str) [a0,a1,a2,some (trP t,.shr),some (trP pre,.own),s2]=some (.nx [a0,a1,a2,some (trP t,.shr),some (trP t,.own),s2'])
 | [],pre,s2,hn,e=>by
  rw [List.append_nil] at e;subst e;exact ⟨s2,hn,rfl⟩
 | (k,r)::suf,pre,s2,hn,e=>by
  have hm:(k,r)∈t:=by rw [<- e];simp
  have hk:k∉keys pre:=by
   have nd2:=nd;rw [<- e] at nd2;unfold keys at nd2 ⊢;rw [Zr,List.nodup_append] at nd2;intro z;exact nd2.2.2 _ z _ Zf rfl
  have hp:put pre k r=pre++[(k,r)]:=by unfold put;rw [if_neg hk]
  have hlp:pre.length<=1000000:=by
   have:=congrArg List.length e;rw [Zp] at this;omega
  obtain ⟨s',hn',h'⟩:=zpm t nd hl a0 a1 a2 suf (pre++[(k,r)]) (some (.str k,.shr)) rfl (by rw [<- e];simp);refine ⟨s',hn',?_⟩;show za2 _ _ (PV.str k::(keys suf).map PV.str) _=_;rw [zbz (ρ1:=[a0,a1,a2,some (trP t,.shr),some (trP pre,.own),some (.str k,.shr)]) (ρ':=[a0,a1,a2,some (trP t,.shr),some (trP (pre++[(k,r)]),.own),some (.str k,.shr)]) rfl,h'];rw [zfS (t:=pre) (k:=k) (r:=r) ((q_xL (q_l1 (zd5 (t:=t) (k:=k) (r:=r) rfl rfl (zl1 nd hm)))).trans rfl) rfl rfl hlp,hp];rfl
def hiB:DF:=(dSeq (zcL 1 (zaR 4 (fun _=>some (.dct []))))
 (dSeq (zcL 1 (vFor (itD kxs 3) (gN 5)
 (zbU 4 (zaa 5) (xL zeh (zab (zbQ (zaa 3) (zaa 5)) lNil)))))
 (zf9 4 (zed HS.zan (zab (zaa 2) (zab (zaa 4) lNil))))))
theorem zrh (a:Addr) {V0:PV}{w:WB.Web}{ts:List Tr}{e:List Int}{t:Tr}(hw:w.length < 40) (hl:ts.length < 1000) (he:WB.zdV (w.length:Nat) e) (ht:Ok t) (s4 s5:Option (PV×Fl)) (hn:nb [s5]=true):∃s5',nb [s5']=true /\
  hiB [some (V0,.shr),some (.adr a,.shr),some (tupZ e,.shr),some (trP t,.shr),s4,s5] (HS.hsP w ts)=some (.nx [some (V0,.shr),some (.adr a,.shr),some (tupZ e,.shr),some (trP t,.shr),some (trP t,.shr),s5'] (HS.hsP (w++[e]) (ts++[t]))):=by
 have h8:=ht.n;obtain ⟨s',hn',h⟩:=zpm t ht.b.nd (by omega) (some (V0,.shr)) (some (.adr a,.shr)) (some (tupZ e,.shr)) t [] s5 hn rfl;refine ⟨s',hn',?_⟩;have nbt:nb [some (V0,.shr),some (.adr a,.shr),some (tupZ e,.shr),some (trP t,.shr),some (trP t,.shr),s']=true:=by
  cases s' with
  | none=>rfl
  | some x=>obtain ⟨p,f⟩:=x;cases f<;>first|rfl|cases hn'
 unfold hiB;refine (HS.q_ds (HS.znB (a:=a) (zco (p:=.dct []) rfl) rfl rfl)).trans ?_;refine (HS.q_ds (HS.znB (a:=a) ((zbM (xs:=(keys t).map PV.str) (zwa (i:=3) rfl)).trans h) rfl rfl)).trans ?_;show zed HS.zan (zab (zaa 2) (zab (zaa 4) lNil)) [some (V0,.shr),some (.adr a,.shr),some (tupZ e,.shr),some (trP t,.shr),some (trP t,.shr),s'] (HS.hsP w ts)=_;unfold zed;rw [if_pos nbt,q_lc (p:=tupZ e) (ps:=[trP t]) rfl (q_l1 rfl),Option.bind_some,HS.hput hw hl he ht];rfl
theorem zmn (a:Addr) {V0:PV}:∀(V2:List (List Int×Tr)),(∀q∈V2,Ok q.2) -> ∀(w1:WB.Web) (ts1:List Tr),w1.length=ts1.length->(∀(i:Nat) (e:List Int),(w1++V2.map Prod.fst)[i]?=some e->WB.zdV i e)->w1.length+V2.length<=40 -> ∀(s2 s3 s4 s5:Option (PV×Fl)),nb [s5]=true -> ∃s2' s3' s4' s5',
  zfl 1 (gT [2,3]) hiB (V2.map fun q=>.tup [tupZ q.1,trP q.2]) [some (V0,.shr),some (.adr a,.shr),s2,s3,s4,s5] (HS.hsP w1 ts1)=some (.nx [some (V0,.shr),some (.adr a,.shr),s2',s3',s4',s5'] (HS.hsP (w1++V2.map Prod.fst) (ts1++V2.map Prod.snd)))
 | [],_,w1,ts1,_,_,_,s2,s3,s4,s5,_=>⟨s2,s3,s4,s5,by
   show _=some (DO.nx _ (HS.hsP (w1++[]) (ts1++[])));rw [List.append_nil,List.append_nil];rfl⟩
 | (e,t)::V2,ho,w1,ts1,h1,hg,hl,s2,s3,s4,s5,hn=>by
  rw [Zq] at hl;have ge:WB.zdV (w1.length:Nat) e:=hg w1.length e (by rw [List.getElem?_append_right (Nat.le_refl _),Nat.sub_self];rfl);obtain ⟨s5',hn',st⟩:=zrh a (V0:=V0) (w:=w1) (ts:=ts1) (e:=e) (t:=t) (by omega) (by omega) ge (ho (e,t) Zf) s4 s5 hn;obtain ⟨b2,b3,b4,b5,ih⟩:=zmn a (V0:=V0) V2 (fun q hq=>ho q (Ze _ hq)) (w1++[e]) (ts1++[t]) (by simp [h1]) (by rw [Zb1];exact hg) (by rw [Zp,Zx];omega) (some (tupZ e,.shr)) (some (trP t,.shr)) (some (trP t,.shr)) s5' hn';refine ⟨b2,b3,b4,b5,?_⟩;show zfl 1 (gT [2,3]) hiB (.tup [tupZ e,trP t]::V2.map fun q=>.tup [tupZ q.1,trP q.2]) [some (V0,.shr),some (.adr a,.shr),s2,s3,s4,s5] (HS.hsP w1 ts1)=_;unfold zfl;show (if a=a then (match hiB [some (V0,.shr),some (.adr a,.shr),some (tupZ e,.shr),some (trP t,.shr),s4,s5] (HS.hsP w1 ts1) with
   | some (.nx ρ2 p2)=>zfl 1 (gT [2,3]) hiB (V2.map fun q=>.tup [tupZ q.1,trP q.2]) ρ2 p2
   | some (.rt q)=>some (.rt q)
   | none=>none) else none)=_
  rw [if_pos rfl,st];show zfl 1 (gT [2,3]) hiB (V2.map fun q=>.tup [tupZ q.1,trP q.2]) _ _=_;rw [ih,Zb1,Zb1];rfl
theorem hst {V:List (List Int×Tr)}(hV:Dr V) (h40:V.length<=40):f__law_history [vsP V]=some (HS.hsP (V.map Prod.fst) (tsO V)):=by
 refine zay (b:=false) rfl ?_ rfl;show zbd [some (vsP V,.shr),none,none,none,none,none]=_;unfold zbd zjZ;rw [if_pos (show 1 < [some (vsP V,Fl.shr),none,none,none,none,none].length from (by decide:1 < 6))];show dAll _=_;refine zmG fun a=>?_;obtain ⟨s2,s3,s4,s5,e⟩:=zmn a (V0:=vsP V) V (fun q hq=>(hV.t q hq).ok) [] [] rfl hV.g (by rw [List.length_nil];omega) none none none none rfl;have ef:dFor 1 (itL (zaa 0)) (gT [2,3]) hiB [some (vsP V,.shr),some (.adr a,.shr),none,none,none,none] (hist HC.c [] [])=some (.nx [some (vsP V,.shr),some (.adr a,.shr),s2,s3,s4,s5] (HS.hsP (V.map Prod.fst) (tsO V))):=by
  unfold dFor;rw [show itL (zaa 0) [some (vsP V,.shr),some (.adr a,.shr),none,none,none,none]=some (V.map fun q=>.tup [tupZ q.1,trP q.2]) from rfl];exact e
 exact (HS.zwd ef).trans rfl
theorem zwH {V:List (List Int×Tr)}(hV:Dr V) (h0:0 < V.length) (h40:V.length<=40):Hs (V.map Prod.fst) (tsO V):=by
 refine ⟨⟨?_,?_,hV.g⟩,?_,?_,?_⟩
 ·intro z
  have:=congrArg List.length z;rw [Zd,List.length_nil] at this;omega
 ·rw [Zd];exact h40
 ·rw [Zd,Zd]
 ·intro t ht
  obtain ⟨q,hq,rfl⟩:=Zs.mp ht;exact (hV.t q hq).ok
 ·intro t ht p hp
  obtain ⟨q,hq,rfl⟩:=Zs.mp ht;refine ⟨Nat.le_trans ((hV.t q hq).b.l p hp) (by omega),fun x hx=>zxn ((hV.t q hq).x p hp x hx)⟩
end WH
namespace WH
open PySem L2 TR
variable [HC]
def zeX:VF:=(vSeq (zbE (xL zbJ (zab (zaa 0) (zab (zaa 1) (zab (zaa 2) (zab (zaa 3) lNil))))))
 (vSeq (zaR 4 (zi2 (xL zaQ (zab (zaa 1) (zab (zaa 3) lNil))) (xC (.bl true))))
 (vSeq (vFor (itL (xL WB.zfh (zab (xL HS.zaW (zab (zaa 0) lNil)) (zab (zaa 1) lNil)))) (gN 5)
 (vIf (bOf (xDIn false (zaa 2) (xL HS.zaj (zab (zaa 0) (zab (zaa 5) lNil)))))
 (vFor (itE (zab (xL zbw (zab (zaa 0) (zab (zaa 5) (zab (zaa 2) lNil)))) lNil)) (gT [6,7])
 (vIf (bOf (zg8 (zaa 7) (xVar 4)))
 (zeu 4 (xL zaQ (zab (zaa 5) (zab (zaa 6) lNil))) (xC (.bl true)))
 zak))
 zak))
 (vRet (xL zhJ (zab (xVar 4) lNil)) true))))
def f_lives:List PV->Option PV:=fnM 4 8 true zeX
def kO (x:Ln):List Key:=[.inl (x.1:Int),.inl (x.2:Int)]
theorem zo8 {x y:Ln}(h:kO x=kO y):x=y:=by
 unfold kO at h;injection h with h1 h2
 injection h2 with h2 _
 injection h1 with h1
 injection h2 with h2
 exact Prod.ext (by omega) (by omega)
def lvP (S:List Ln):PV:=.dtt (S.map fun x=>(kO x,.bl true))
theorem zpX (S:List Ln) (x:Ln):(valT (S.map fun x=>(kO x,PV.bl true)) (kO x)).isSome=decide (x∈S):=by
 induction S with
 | nil=>rfl
 | cons y S ih =>
  show (if kO y=kO x then some (PV.bl true) else valT (S.map fun x=>(kO x,PV.bl true)) (kO x)).isSome=_;by_cases h:y=x
  ·subst h;simp
  ·rw [if_neg (fun z=>h (zo8 z)),ih]
   have:¬x=y:=fun z=>h z.symm;simp [this]
def addL (S:List Ln) (x:Ln):List Ln:=if x∈S then S else S++[x]
theorem zqB (S:List Ln) (x:Ln):putT (S.map fun x=>(kO x,PV.bl true)) (kO x) (.bl true)=(addL S x).map fun x=>(kO x,PV.bl true):=by
 have e:((S.map fun x=>(kO x,PV.bl true)).any fun kv=>decide (kv.1=kO x))=decide (x∈S):=by
  rw [List.any_map]
  induction S with
  | nil=>rfl
  | cons y S ih =>
   rw [List.any_cons,ih];by_cases h:y=x
   ·subst h;simp
   ·have:¬x=y:=fun z=>h z.symm
    have h2:¬kO y=kO x:=fun z=>h (zo8 z);simp [this,h2]
 unfold putT addL;rw [e];by_cases h:x∈S
 ·rw [Zn h,if_pos rfl,if_pos h,Zi]
  refine Ze1 fun y _=>?_;show (if kO y=kO x then (kO y,PV.bl true) else (kO y,PV.bl true))=_;split<;>rfl
 ·rw [Zo h,if_neg (by decide),if_neg h,Zr]
  rfl
theorem zwF (S:List Ln) (o:Option Ln):pInT (soP o) (lvP S)=some (.bl (match o with|none=>false|some y=>decide (y∈S))):=by
 cases o with
 | none=>rfl
 | some y =>
  have e:zma [PV.int (y.1:Nat),PV.int (y.2:Nat)]=some (kO y):=rfl;show pInT (.tup [.int (y.1:Nat),.int (y.2:Nat)]) (.dtt (S.map fun x=>(kO x,PV.bl true)))=some (.bl (decide (y∈S)));simp only [pInT,e,Option.map_some,zpX]
theorem zqx {i:Nat}{f g:VX}{ρ:PEnv}{S:List Ln}{x:Ln}(hv:f ρ=some (.bl true)) (hk:g ρ=some (WR.zaz x)) (hp:ρ[i]?=some (some (lvP S,.own))) (hs:S.length<=1000000):zeu i g f ρ=some (.nx (ρ.set i (some (lvP (addL S x),.own)))):=by
 unfold lvP at hp;have hk2:znj (WR.zaz x)=some (kO x):=rfl;unfold zeu wr;rw [hv,hk];simp only [Option.bind_some,hk2,hp,Zd,q_sm hs,if_true,Option.map_some,zqB];rfl
def lv1 (w:WB.Web) (ts:List Tr) (p:Str) (m:Nat) (S:List Ln) (j:Nat):List Ln:=match src w ts p (m,j) with
 | none=>S
 | some y=>if y∈S then addL S (m,j) else S
def lvM (w:WB.Web) (ts:List Tr) (p:Str) (S:List Ln) (m:Nat):List Ln:=match row ts p m with
 | none=>S
 | some r=>(List.range r.length).foldl (lv1 w ts p m) S
theorem zl0 (w:WB.Web) (ts:List Tr) (p:Str) (m:Nat) (S:List Ln) (j:Nat):(lv1 w ts p m S j).length<=S.length+1:=by
 unfold lv1 addL;split
 ·omega
 ·split
  ·split
   ·omega
   ·rw [Zp,Zx];omega
  ·omega
theorem zlZ (w:WB.Web) (ts:List Tr) (p:Str) (m:Nat):∀(js:List Nat) (S:List Ln),(js.foldl (lv1 w ts p m) S).length<=S.length+js.length
 | [],S=>Nat.le_refl _
 | j::js,S=>by
  have a:=zlZ w ts p m js (lv1 w ts p m S j);have b:=zl0 w ts p m S j;rw [List.foldl_cons,Zq];omega
def lbB:VF:=(vIf (bOf (zg8 (zaa 7) (xVar 4)))
 (zeu 4 (xL zaQ (zab (zaa 5) (zab (zaa 6) lNil))) (xC (.bl true)))
 zak)
theorem zl8 (w:WB.Web) (ts:List Tr) (p:Str) (m:Nat) (a0 a1 a2 a3:Option (PV×Fl)):∀(n i:Nat) (S:List Ln) (s6 s7:Option (PV×Fl)),S.length+n<=1000 -> ∃s6' s7',
  za2 (gT [6,7]) lbB ((List.range' i n).map fun j=>PV.tup [.int (j:Nat),soP (src w ts p (m,j))]) [a0,a1,a2,a3,some (lvP S,.own),some (.int (m:Nat),.shr),s6,s7]=some (.nx [a0,a1,a2,a3,some (lvP ((List.range' i n).foldl (lv1 w ts p m) S),.own),some (.int (m:Nat),.shr),s6',s7'])
 | 0,i,S,s6,s7,_=>⟨s6,s7,rfl⟩
 | n+1,i,S,s6,s7,hl=>by
  have b:=zl0 w ts p m S i;obtain ⟨s6',s7',ih⟩:=zl8 w ts p m a0 a1 a2 a3 n (i+1) (lv1 w ts p m S i) (some (.int (i:Nat),.shr)) (some (soP (src w ts p (m,i)),.shr)) (by omega);refine ⟨s6',s7',?_⟩;rw [List.range'_succ,Zh,List.foldl_cons];have st:lbB [a0,a1,a2,a3,some (lvP S,.own),some (.int (m:Nat),.shr),some (.int (i:Nat),.shr),some (soP (src w ts p (m,i)),.shr)]=some (.nx [a0,a1,a2,a3,some (lvP (lv1 w ts p m S i),.own),some (.int (m:Nat),.shr),some (.int (i:Nat),.shr),some (soP (src w ts p (m,i)),.shr)]):=by
   have c:zg8 (zaa 7) (xVar 4) [a0,a1,a2,a3,some (lvP S,.own),some (.int (m:Nat),.shr),some (.int (i:Nat),.shr),some (soP (src w ts p (m,i)),.shr)]=some (.bl (match src w ts p (m,i) with|none=>false|some y=>decide (y∈S))):=(q_x2 (p:=soP (src w ts p (m,i))) (q:=lvP S) rfl rfl).trans (zwF S _);unfold lbB lv1;cases hs:src w ts p (m,i) with
   | none =>
    rw [hs] at c;exact (za3 (q_b c)).trans rfl
   | some y =>
    rw [hs] at c;by_cases hy:y∈S
    ·have c:zg8 (zaa 7) (xVar 4) _=some (.bl true):=c.trans (by show some (PV.bl (decide (y∈S)))=_;rw [Zn hy])
     refine (zcr (q_b c)).trans ?_;rw [zqx (S:=S) (x:=(m,i)) rfl rfl rfl (by omega)];simp only [hy,if_true];rfl
    ·have c:zg8 (zaa 7) (xVar 4) _=some (.bl false):=c.trans (by show some (PV.bl (decide (y∈S)))=_;rw [Zo hy])
     refine (za3 (q_b c)).trans ?_;simp only [hy,if_false];rfl
  exact (zbz (ρ:=[a0,a1,a2,a3,some (lvP S,.own),some (.int (m:Nat),.shr),s6,s7]) rfl st).trans ih
end WH
namespace WH
open PySem L2 TR
variable [HC]
theorem zrs (n:Nat) (g:Nat->Option Ln):zcj ((List.range n).map fun j=>soP (g j))=(List.range' 0 n).map fun j=>PV.tup [.int (j:Nat),soP (g j)]:=by
 unfold zcj;refine List.ext_getElem (by simp) fun k h1 h2=>?_;simp only [List.getElem_map,List.getElem_zipIdx,List.getElem_range,List.getElem_range',Nat.zero_add,Nat.one_mul]
def lmB:VF:=(vIf (bOf (xDIn false (zaa 2) (xL HS.zaj (zab (zaa 0) (zab (zaa 5) lNil)))))
 (vFor (itE (zab (xL zbw (zab (zaa 0) (zab (zaa 5) (zab (zaa 2) lNil)))) lNil)) (gT [6,7]) lbB)
 zak)
theorem zlY {w:WB.Web}{ts:List Tr}(H:Hs w ts) (p:Str) (S:List Ln) (m:Nat) {b:Nat}(hb:∀r,row ts p m=some r->r.length<=b):(lvM w ts p S m).length<=S.length+b:=by
 unfold lvM;split
 ·omega
 ·rename_i r hr
  have:=zlZ w ts p m (List.range r.length) S;rw [Zu] at this;have:=hb r hr;omega
theorem zl3 {w:WB.Web}{ts:List Tr}(H:Hs w ts) (p:Str) (a1 a3:Option (PV×Fl)):∀(D:List Nat),(∀m∈D,m < w.length) -> ∀(S:List Ln) (s5 s6 s7:Option (PV×Fl)),S.length+40 * D.length<=1000 -> ∃s5' s6' s7',
  za2 (gN 5) lmB (D.map fun (m:Nat)=>PV.int (m:Nat)) [some (HS.hsP w ts,.shr),a1,some (.str p,.shr),a3,some (lvP S,.own),s5,s6,s7]=some (.nx [some (HS.hsP w ts,.shr),a1,some (.str p,.shr),a3,some (lvP (D.foldl (lvM w ts p) S),.own),s5',s6',s7'])
 | [],_,S,s5,s6,s7,_=>⟨s5,s6,s7,rfl⟩
 | m::D,hD,S,s5,s6,s7,hl=>by
  rw [Zq] at hl;have hm:=hD m Zf;have hln:=zlY H p S m (b:=40) fun r hr=>(zbl H hr).1;obtain ⟨t,e1,e2⟩:=tr H hm p;have st:∃s6' s7',lmB [some (HS.hsP w ts,.shr),a1,some (.str p,.shr),a3,some (lvP S,.own),some (.int (m:Nat),.shr),s6,s7]=some (.nx [some (HS.hsP w ts,.shr),a1,some (.str p,.shr),a3,some (lvP (lvM w ts p S m),.own),some (.int (m:Nat),.shr),s6',s7']):=by
   have ci:=zh4 (t:=t) (p:=p) false (f:=zaa 2) (g:=xL HS.zaj (zab (zaa 0) (zab (zaa 5) lNil))) (ρ:=[some (HS.hsP w ts,.shr),a1,some (.str p,.shr),a3,some (lvP S,.own),some (.int (m:Nat),.shr),s6,s7]) rfl ((q_xL (ps:=[HS.hsP w ts,.int (m:Nat)]) rfl).trans e1);rw [e2] at ci;cases hr:row ts p m with
   | none =>
    refine ⟨s6,s7,?_⟩;rw [hr] at ci;have hz:lvM w ts p S m=S:=by unfold lvM;rw [hr]
    rw [hz];unfold lmB;exact (za3 (q_b ci)).trans rfl
   | some r =>
    rw [hr] at ci;have rk:=(zbl H hr).1;obtain ⟨s6',s7',lp⟩:=zl8 w ts p m (some (HS.hsP w ts,.shr)) a1 (some (.str p,.shr)) a3 r.length 0 S s6 s7 (by omega);refine ⟨s6',s7',?_⟩;have hz:lvM w ts p S m=(List.range' 0 r.length).foldl (lv1 w ts p m) S:=by unfold lvM;rw [hr];show List.foldl _ _ (List.range r.length)=_;rw [List.range_eq_range']
    rw [hz];unfold lmB;refine (zcr (q_b ci)).trans ?_;refine (zbM ((zwc (q_l1 ((q_xL (ps:=[HS.hsP w ts,.int (m:Nat),.str p]) rfl).trans (sou H hr)))).trans (by rw [zrs]))).trans lp
  obtain ⟨s6',s7',st⟩:=st;obtain ⟨b5,b6,b7,ih⟩:=zl3 H p a1 a3 D (fun x hx=>hD x (Ze _ hx)) (lvM w ts p S m) (some (.int (m:Nat),.shr)) s6' s7' (by omega);refine ⟨b5,b6,b7,?_⟩;rw [Zh,List.foldl_cons];exact (zbz (ρ:=[some (HS.hsP w ts,.shr),a1,some (.str p,.shr),a3,some (lvP S,.own),s5,s6,s7]) rfl st).trans ih
def dwnN (w:WB.Web) (v:Nat):List Nat:=(WB.bel w (v:Int)).map Int.toNat
theorem zjT {w:WB.Web}(v:Nat):WB.bel w (v:Int)=(dwnN w v).map fun (m:Nat)=>(m:Int):=by
 unfold dwnN;rw [Zi];refine ((Ze1 fun x hx=>?_).trans (List.map_id _)).symm;have:=(WB.zeW.mp hx).1;show ((x.toNat:Nat):Int)=x;omega
theorem zmw {w:WB.Web}{v m:Nat}(h:m∈dwnN w v):m < w.length:=by
 obtain ⟨x,hx,rfl⟩:=Zs.mp h;have:=(WB.zeW.mp hx).1;omega
theorem zjM {w:WB.Web}(v:Nat):(dwnN w v).length<=w.length:=by
 unfold dwnN WB.bel WB.vers;rw [Zd];refine Nat.le_trans (List.length_filter_le _ _) ?_;simp
def lvA (w:WB.Web) (ts:List Tr) (p:Str) (x:Ln):List Ln:=(dwnN w x.1).foldl (lvM w ts p) [x]
theorem zgN {w:WB.Web}{ts:List Tr}(H:Hs w ts) (p:Str) {b:Nat}(hb:∀m r,row ts p m=some r->r.length<=b):∀(D:List Nat) (S:List Ln),(D.foldl (lvM w ts p) S).length<=S.length+b * D.length
 | [],S=>by simp
 | m::D,S=>by
  have a:=zgN H p hb D (lvM w ts p S m);have c:=zlY H p S m (hb m);rw [List.foldl_cons,Zq,Nat.mul_succ];omega
theorem zfI {α:Type}(d:α) (S:List α):(List.range S.length).map (fun i=>S.getD i d)=S:=by
 refine List.ext_getElem (by simp) fun k h1 h2=>?_;rw [List.getElem_map,List.getElem_range,Zy,Zc h2];rfl
theorem ze6:∀S:List Ln,zdC (S.map fun x=>(kO x,PV.bl true))=some (S.map fun x=>[(x.1:Int),(x.2:Int)])
 | []=>rfl
 | x::S=>by
  show (ze9 (kO x)).bind _=_;rw [show ze9 (kO x)=some [(x.1:Int),(x.2:Int)] from rfl,Option.bind_some,ze6 S];rfl
theorem zsQ {S:List Ln}(h64:S.length < 64):∃L,zhJ [lvP S]=some (WR.zal L)/\L.Perm S:=by
 refine ⟨(zp5 (S.map fun x=>[(x.1:Int),(x.2:Int)])).map fun i=>S.getD i (0,0),?_,?_⟩
 ·show (zdC (S.map fun x=>(kO x,PV.bl true))).bind _=_
  rw [ze6,Option.bind_some];refine (if_pos ?_).trans ?_
  ·rw [Zc1]
   refine ⟨Zn (by rw [Zd];exact h64),Zp1.mpr fun n hn=>?_⟩;obtain ⟨x,_,rfl⟩:=Zs.mp hn;rfl
  ·unfold WR.zal
   congr 2;refine Eq.trans (Ze1 (g:=fun i=>WR.zaz (S.getD i (0,0))) fun i hi=>?_) (by rw [Zi];rfl);have hi2:i < S.length:=by
    have:=Zt.mp ((zcO _ _).mem_iff.mp hi);rw [Zd] at this;exact this
   show ((S.map fun x=>[(x.1:Int),(x.2:Int)]).map zp1).getD i .non=WR.zaz (S.getD i (0,0));rw [Zy,Zy,Zj,Zj,Zc hi2];rfl
 ·have h:=(zcO (fun i j=>HT.lexLt ((S.map fun x=>[(x.1:Int),(x.2:Int)]).getD i []) ((S.map fun x=>[(x.1:Int),(x.2:Int)]).getD j [])) (S.map fun x=>[(x.1:Int),(x.2:Int)]).length).map fun i=>S.getD i (0,0)
  have e:(List.range (S.map fun x=>[(x.1:Int),(x.2:Int)]).length).map (fun i=>S.getD i (0,0))=S:=by rw [Zd];exact zfI _ _
  rw [e] at h;exact h
theorem lvs {w:WB.Web}{ts:List Tr}(H:Hs w ts) {p:Str}{x:Ln}(hx:Val ts p x) (h5:w.length<=5) (hb:∀m r,row ts p m=some r->r.length<=5):∃L,f_lives [HS.hsP w ts,.int (x.1:Nat),.str p,.int (x.2:Nat)]=some (WR.zal L)/\L.Perm (lvA w ts p x):=by
 obtain ⟨r,r1,r2⟩:=zgh hx;have hlt:=zoE H hx;have dl:=zjM (w:=w) x.1;have fl:=zgN H p hb (dwnN w x.1) [x];have h64:(lvA w ts p x).length < 64:=by
  unfold lvA;rw [Zx] at fl;omega
 obtain ⟨L,l1,l2⟩:=zsQ h64;refine ⟨L,zay (b:=true) rfl ?_ rfl,l2⟩;show zeX [some (HS.hsP w ts,.shr),some (.int (x.1:Nat),.shr),some (.str p,.shr),some (.int (x.2:Nat),.shr),none,none,none,none]=_;unfold zeX;refine (q_nx (zd4 (p:=.non) ((q_xL (ps:=[HS.hsP w ts,.int (x.1:Nat),.str p,.int (x.2:Nat)]) rfl).trans (cl H r1 r2)))).trans ?_;refine (q_nx (zco (p:=lvP [x]) rfl)).trans ?_;obtain ⟨s5,s6,s7,e⟩:=zl3 H p (some (.int (x.1:Nat),.shr)) (some (.int (x.2:Nat),.shr)) (dwnN w x.1) (fun m hm=>zmw hm) [x] none none none (by rw [Zx];omega);refine (q_nx ((zbM (zdP ((q_xL (ps:=[WB.webP w,.int (x.1:Nat)]) (q_lc ((q_xL (q_l1 (p:=HS.hsP w ts) rfl)).trans (HS.hweb w ts)) (q_l1 rfl))).trans ((WB.belo H.g (by omega) (by omega)).trans (by unfold zax;rw [zjT,Zi];rfl))))).trans e)).trans ?_;exact zcV ((q_xL (q_l1 (p:=lvP (lvA w ts p x)) rfl)).trans l1)
end WH
namespace WH
open PySem L2 TR
variable [HC]
theorem zd8 {α β:Type}{f:α->Option β}{e:α}:∀{l:List α},e∈l->(∀a∈l,a≠e->f a=none)->l.findSome? f=f e
 | a::l,he,h=>by
  rw [List.findSome?_cons];by_cases ha:a=e
  ·subst ha
   cases hf:f a with
   | some b=>rfl
   | none =>
    show l.findSome? f=none;rw [List.findSome?_eq_none_iff];intro b hb;by_cases hb2:b=a
    ·rw [hb2];exact hf
    ·exact h b (Ze _ hb) hb2
  ·rw [h a Zf ha]
   have he2:e∈l:=by
    rcases Zk.mp he with z|z
    ·exact absurd z.symm ha
    ·exact z
   exact zd8 he2 fun b hb hb2=>h b (Ze _ hb) hb2
theorem zgq {w:WB.Web}{ts:List Tr}{p:Str}{n e:Nat}(he:e∈els w n) (h:∀a∈els w n,a≠e->row ts p a=none) (j:Nat):src w ts p (n,j)=kb ts p n j e:=by
 refine zd8 he fun a ha hae=>?_;unfold kb;rw [h a ha hae];rfl
theorem zp9 {l:List Ln}(h:l.Pairwise fun p q=>p.1 < q.1/\p.2 < q.2) {a b:Ln}(ha:a∈l) (hb:b∈l) (e:a.2=b.2):a=b:=by
 induction l with
 | nil=>cases ha
 | cons c l ih =>
  rw [Zm1] at h;rcases Zk.mp ha with rfl|ha2<;>rcases Zk.mp hb with rfl|hb2
  ·rfl
  ·have:=(h.1 b hb2).2;omega
  ·have:=(h.1 a ha2).2;omega
  ·exact ih h.2 ha2 hb2
theorem zme {w:WB.Web}{ts:List Tr}(H:Hs w ts) {p:Str}{n e:Nat}{old new:WR.Row}(ho:row ts p e=some old) (hn:row ts p n=some new) {i j:Nat}:kb ts p n j e=some (e,i)↔(i,j)∈kpt old new:=by
 obtain ⟨_,k2⟩:=ze4 (zbl H ho) (zbl H hn);have hk:kb ts p n j e=(((kpt old new).find? fun q=>decide (q.2=j)).map fun q=>(e,q.1)):=by unfold kb;rw [ho,hn];rfl
 rw [hk];constructor
 ·intro h
  obtain ⟨q,hq,h⟩:=Zb.mp h;have hm:=List.mem_of_find?_eq_some hq;have hj:q.2=j:=by simpa using List.find?_some hq
  have hi:q.1=i:=by injection h
  rw [<- hi,<- hj];exact hm
 ·intro h
  cases hf:(kpt old new).find? fun q=>decide (q.2=j) with
  | none =>
   have:=List.find?_eq_none.mp hf (i,j) h;simp at this
  | some q =>
   have hm:=List.mem_of_find?_eq_some hf;have hj:q.2=j:=by simpa using List.find?_some hf
   have:=zp9 k2.1 hm h hj;rw [this];rfl
theorem zgL {S:List Ln}{x y:Ln}:y∈addL S x↔y∈S\/y=x:=by
 unfold addL;split
 ·rename_i h
  constructor
  ·exact .inl
  ·rintro (z|rfl)
   ·exact z
   ·exact h
 ·rw [Zd1,Zo1]
def vn (n:Nat) (S:List Ln):List Ln:=S.filter fun y=>decide (y.1=n)
theorem zsg {n:Nat}{S:List Ln}{x:Ln}(h:x.1≠n):vn n (addL S x)=vn n S:=by
 unfold vn addL;split
 ·rfl
 ·rw [List.filter_append,List.filter_cons,Zo h];simp
theorem zse {w:WB.Web}{ts:List Tr}{p:Str}{n m:Nat}(h:m≠n) (S:List Ln) (j:Nat):vn n (lv1 w ts p m S j)=vn n S:=by
 unfold lv1;split
 ·rfl
 ·split
  ·exact zsg h
  ·rfl
theorem zkI {w:WB.Web}{ts:List Tr}{p:Str}{n m:Nat}(h:m≠n):∀(js:List Nat) (S:List Ln),vn n (js.foldl (lv1 w ts p m) S)=vn n S
 | [],S=>rfl
 | j::js,S=>by rw [List.foldl_cons,zkI h js,zse h]
theorem zsd {w:WB.Web}{ts:List Tr}{p:Str}{n m:Nat}(h:m≠n) (S:List Ln):vn n (lvM w ts p S m)=vn n S:=by
 unfold lvM;split
 ·rfl
 ·exact zkI h _ S
theorem zkJ {w:WB.Web}{ts:List Tr}{p:Str}{n:Nat}:∀(D:List Nat) (S:List Ln),n∉D->vn n (D.foldl (lvM w ts p) S)=vn n S
 | [],S,_=>rfl
 | m::D,S,h=>by
  rw [List.foldl_cons,zkJ D _ (fun z=>h (Ze _ z)),zsd (fun z=>h (by rw [z];exact Zf))]
def LI (e:Nat) (x:Ln) (S:List Ln):Prop:=x∈S /\ ∀y∈S,e<=y.1/\(y.1=e->y=x)
theorem LI.one {w:WB.Web}{ts:List Tr}(H:Hs w ts) {p:Str}{x:Ln}{m:Nat}(hm:x.1<=m) (hw:m < w.length) {S:List Ln}(h:LI x.1 x S) (j:Nat):LI x.1 x (lv1 w ts p m S j):=by
 unfold lv1;split
 ·exact h
 ·rename_i y hy
  split
  ·rename_i hs
   refine ⟨zgL.mpr (.inl h.1),fun z hz=>?_⟩;rcases zgL.mp hz with hz|rfl
   ·exact h.2 z hz
   ·refine ⟨hm,fun he=>?_⟩
    have a:=(zoJ H (x:=(m,j)) hw hy).1;have b:=(h.2 y hs).1;simp only at a he;omega
  ·exact h
theorem LI.fold {w:WB.Web}{ts:List Tr}(H:Hs w ts) {p:Str}{x:Ln}{m:Nat}(hm:x.1<=m) (hw:m < w.length):∀(js:List Nat) {S:List Ln},LI x.1 x S->LI x.1 x (js.foldl (lv1 w ts p m) S)
 | [],_,h=>h
 | j::js,_,h=>LI.fold H hm hw js (h.one H hm hw j)
theorem LI.ver {w:WB.Web}{ts:List Tr}(H:Hs w ts) {p:Str}{x:Ln}{m:Nat}(hm:x.1<=m) (hw:m < w.length) {S:List Ln}(h:LI x.1 x S):LI x.1 x (lvM w ts p S m):=by
 unfold lvM;split
 ·exact h
 ·exact LI.fold H hm hw _ h
theorem LI.all {w:WB.Web}{ts:List Tr}(H:Hs w ts) {p:Str}{x:Ln}:∀(D:List Nat),(∀m∈D,x.1<=m/\m < w.length) -> ∀{S:List Ln},LI x.1 x S->LI x.1 x (D.foldl (lvM w ts p) S)
 | [],_,_,h=>h
 | m::D,hD,_,h=>LI.all H D (fun z hz=>hD z (Ze _ hz)) (h.ver H (hD m Zf).1 (hD m Zf).2)
open Classical in
theorem zsf {w:WB.Web}{ts:List Tr}(H:Hs w ts) {p:Str}{x:Ln}{n:Nat}(hn:x.1 < n) (hw:n < w.length) (hs:∀j y,src w ts p (n,j)=some y->y.1=x.1):∀(js:List Nat),js.Nodup -> ∀{S:List Ln},LI x.1 x S->(∀j∈js,(n,j)∉S)->vn n (js.foldl (lv1 w ts p n) S)=vn n S++(js.filter fun j=>decide (src w ts p (n,j)=some x)).map fun j=>(n,j)
 | [],_,S,_,_=>by simp
 | j::js,nd,S,h,hd=>by
  rw [List.nodup_cons] at nd;rw [List.foldl_cons];have h':=h.one H (Nat.le_of_lt hn) hw j (p:=p);have hd':∀k∈js,(n,k)∉lv1 w ts p n S j:=fun k hk z=>by
   unfold lv1 at z;have no:(n,k)∉addL S (n,j):=fun z=>by
    rcases zgL.mp z with z|z
    ·exact hd k (Ze _ hk) z
    ·injection z with _ z
     exact nd.1 (z ▸ hk)
   split at z
   ·exact hd k (Ze _ hk) z
   ·split at z
    ·exact no z
    ·exact hd k (Ze _ hk) z
  rw [zsf H hn hw hs js nd.2 h' hd',List.filter_cons];by_cases e:src w ts p (n,j)=some x
  ·rw [Zn e,if_pos rfl]
   have:vn n (lv1 w ts p n S j)=vn n S++[(n,j)]:=by
    unfold lv1;rw [e];show vn n (if x∈S then addL S (n,j) else S)=_;rw [if_pos h.1];unfold addL;rw [if_neg (hd j Zf)];unfold vn;rw [List.filter_append,List.filter_cons,Zn (show ((n,j):Ln).1=n from rfl)];rfl
   rw [this,Zb1];rfl
  ·rw [Zo e,if_neg (by decide)]
   have:lv1 w ts p n S j=S:=by
    unfold lv1;split
    ·rfl
    ·rename_i y hy
     split
     ·rename_i hs2
      have:=(h.2 y hs2).2 (hs j y hy);subst this;exact absurd hy e
     ·rfl
   rw [this]
end WH
namespace WH
open PySem L2 TR
variable [HC]
theorem zrw {w:WB.Web}(v:Nat):(dwnN w v).Nodup:=by
 have h:(WB.bel w (v:Int)).Pairwise (· < ·):=(WB.zg9 w).filter _;rw [zjT] at h;rw [List.pairwise_map] at h;exact h.imp fun h2=>by omega
theorem zrx {w:WB.Web}(hw:WB.Good w) {v m:Nat}(h:m∈dwnN w v):v<=m:=by
 have hm:((m:Nat):Int)∈WB.bel w (v:Int):=by rw [zjT];exact Zs.mpr ⟨m,h,rfl⟩
 obtain ⟨hb,ha⟩:=WB.zeW.mp hm;have:=WB.zu5 hw hb.1 hb.2 ha;omega
theorem zog {w:WB.Web}(hw:WB.Good w) {n e:Nat}(hn:n < w.length) (he:e∈els w n):n∈dwnN w e:=by
 have hm:((n:Nat):Int)∈WB.bel w (e:Int):=by
  refine WB.zeW.mpr ⟨by omega,?_⟩;obtain ⟨z,hz,hze⟩:=Zs.mp he;have hg:=(WB.zby hw (v:=(n:Int)) (by omega) (by omega)).2.1 z hz;have:((e:Nat):Int)=z:=by omega
  rw [this];exact (WB.ziq hw (by omega) (by omega) z).mpr (.inr ⟨(n:Int),(WB.zi1 hw (by omega) (by omega)).2.2.2,hz⟩)
 rw [zjT] at hm;obtain ⟨m,h1,h2⟩:=Zs.mp hm;have:m=n:=by omega
 rw [<- this];exact h1
theorem zwC {w:WB.Web}{ts:List Tr}(H:Hs w ts) {p:Str}{x:Ln}{n:Nat}{new:WR.Row}(hw:n < w.length) (he:x.1∈els w n) (ho:∀a∈els w n,a≠x.1->row ts p a=none) (hr:row ts p n=some new) :
  vn n (lvA w ts p x)=((List.range new.length).filter fun j=>decide (src w ts p (n,j)=some x)).map fun j=>(n,j):=by
 have hn:=zjK H.g hw he;have hs:∀j y,src w ts p (n,j)=some y->y.1=x.1:=fun j y hy=>by
  rw [zgq he ho] at hy;exact (zra H hy).1
 obtain ⟨D1,D2,hD⟩:=List.append_of_mem (zog H.g hw he);have nd:=zrw (w:=w) x.1;rw [hD,List.nodup_append] at nd;have n1:n∉D1:=fun z=>nd.2.2 n z n Zf rfl;have n2:n∉D2:=(List.nodup_cons.mp nd.2.1).1;have b1:∀m∈D1,x.1<=m/\m < w.length:=fun m hm=>by
  have:m∈dwnN w x.1:=by rw [hD];exact List.mem_append_left _ hm
  exact ⟨zrx H.g this,zmw this⟩
 unfold lvA;rw [hD,List.foldl_append,List.foldl_cons,zkJ D2 _ n2];have li:LI x.1 x (D1.foldl (lvM w ts p) [x]):=LI.all H D1 b1 ⟨Zo1.mpr rfl,fun y hy=>by rw [Zo1] at hy;subst hy;exact ⟨Nat.le_refl _,fun _=>rfl⟩⟩;have v0:vn n (D1.foldl (lvM w ts p) [x]) = []:=by
  rw [zkJ D1 _ n1];unfold vn;rw [List.filter_cons,Zo (by omega)];rfl
 generalize D1.foldl (lvM w ts p) [x]=S at li v0;unfold lvM;rw [hr];show vn n ((List.range new.length).foldl (lv1 w ts p n) S)=_;rw [zsf H hn hw hs (List.range new.length) List.nodup_range li (fun j _ z=>by
  have:(n,j)∈vn n S:=Zh1.mpr ⟨z,by simp⟩;rw [v0] at this;cases this),v0,List.nil_append]
theorem zrk {l:List Ln}(h:l.Pairwise fun p q=>p.1 < q.1/\p.2 < q.2) {a b:Ln}(ha:a∈l) (hb:b∈l) (e:a.1=b.1):a=b:=by
 induction l with
 | nil=>cases ha
 | cons c l ih =>
  rw [Zm1] at h;rcases Zk.mp ha with rfl|ha2<;>rcases Zk.mp hb with rfl|hb2
  ·rfl
  ·have:=(h.1 b hb2).1;omega
  ·have:=(h.1 a ha2).1;omega
  ·exact ih h.2 ha2 hb2
theorem zt4 {w:WB.Web}{ts:List Tr}(H:Hs w ts) {p:Str}{x:Ln}{n:Nat}{old new:WR.Row}(hw:n < w.length) (he:x.1∈els w n) (ho:∀a∈els w n,a≠x.1->row ts p a=none) (ho2:row ts p x.1=some old) (hr:row ts p n=some new) :
  (vn n (lvA w ts p x)).length=if x.2∈(kpt old new).map (·.1) then 1 else 0:=by
 obtain ⟨_,k2⟩:=ze4 (zbl H ho2) (zbl H hr);rw [zwC H hw he ho hr,Zd];have iff:∀j,src w ts p (n,j)=some x↔(x.2,j)∈kpt old new:=fun j=>by
  rw [zgq he ho];exact zme H ho2 hr (i:=x.2)
 by_cases hm:x.2∈(kpt old new).map (·.1)
 ·rw [if_pos hm]
  obtain ⟨q,hq,hq1⟩:=Zs.mp hm;have hlt:=(k2.2 q hq).2.1;have hq2:(x.2,q.2)∈kpt old new:=by rw [<- hq1];exact hq
  have:((List.range new.length).filter fun j=>decide (src w ts p (n,j)=some x)) = [q.2]:=by
   have nd:((List.range new.length).filter fun j=>decide (src w ts p (n,j)=some x)).Nodup:=List.nodup_range.filter _;have mem:∀j,j∈((List.range new.length).filter fun j=>decide (src w ts p (n,j)=some x))↔j=q.2:=fun j=>by
    rw [Zh1,Zt,Zi1,iff];constructor
    ·rintro ⟨_,z⟩
     have:=zrk k2.1 z hq2 rfl;injection this
    ·rintro rfl
     exact ⟨hlt,hq2⟩
   match hl:((List.range new.length).filter fun j=>decide (src w ts p (n,j)=some x)),nd,mem with
   | [],_,mem=>exact absurd ((mem q.2).mpr rfl) (by simp)
   | [a],_,mem=>rw [(mem a).mp (by simp)]
   | a::b::r,nd,mem =>
    have e1:=(mem a).mp (by simp);have e2:=(mem b).mp (by simp);rw [e1,e2] at nd;simp at nd
  rw [this];rfl
 ·rw [if_neg hm,List.length_eq_zero_iff,List.filter_eq_nil_iff]
  intro j _ z;rw [Zi1,iff] at z;exact hm (Zs.mpr ⟨_,z,rfl⟩)
end WH
namespace WR
open PySem L2
end WR
namespace WH
open PySem L2 TR WR
variable [HC]
def Chn (n m:Nat):List (Nat×Nat)->Nat->Nat->Prop
 | [],os,ns=>os<=n/\ns<=m
 | (i,j)::r,os,ns=>os<=i/\ns<=j/\i < n/\j < m/\Chn n m r (i+1) (j+1)
def edD (old new:WR.Row) (z:Str):List (Nat×Nat)->Nat->Nat->List WR.Deed
 | [],os,ns=>((List.range' os (old.length - os)).map fun k=>(false,k,old.getD k z))++((List.range' ns (new.length - ns)).map fun j=>(true,old.length,new.getD j z))
 | (i,j)::r,os,ns=>((List.range' os (i - os)).map fun k=>(false,k,old.getD k z))++(((List.range' ns (j - ns)).map fun j=>(true,i,new.getD j z))++edD old new z r (i+1) (j+1))
theorem zsX {β:Type}(g:Str->β) (new:WR.Row):∀(k a:Nat),a+k<=new.length->(List.range' a k).map (fun x=>g (new.getD x ""))=((new.drop a).take k).map g
 | 0,a,h=>by simp
 | k+1,a,h=>by
  rw [List.range'_succ,Zh,zsX g new k (a+1) (by omega),List.drop_eq_getElem_cons (show a < new.length by omega),List.take_succ_cons,Zh];congr 2;simp [List.getD,Zc (show a < new.length by omega)]
theorem segD (old new:WR.Row) {os ns i j:Nat}(h1:os<=i) (h2:i<=old.length) (h3:ns<=j) (h4:j<=new.length):zcK os (segO old new os ns i j)=((List.range' os (i - os)).map fun k=>(false,k,old.getD k ""))++((List.range' ns (j - ns)).map fun j=>(true,i,new.getD j "")):=by
 rw [zhj old new h1 h2,zsX (fun x=>(true,i,x)) new (j - ns) ns (by omega),List.range'_eq_map_range,Zi];rfl
theorem zjL {old new:WR.Row}(ho:old.length<=40) (hn:new.length<=40):∀(ps:List (Nat×Nat)) (os ns:Nat) (B:List Deed) (s5 s6:Option (PV×Fl)),Chn old.length new.length ps os ns->B.length<=os+ns ->
  ∃a b t5 t6,za2 (gT [5,6]) edB (ps.map zaz++[zaz (old.length,new.length)]) (edR old new B os ns s5 s6)=some (.nx (edR old new (B++edD old new "" ps os ns) a b t5 t6))
 | [],os,ns,B,s5,s6,h,hB=>by
  have h1:=h.1;have h2:=h.2;have st:=zmu (B:=B) (old:=old) (new:=new) (os:=os) (ns:=ns) (i:=old.length) (j:=new.length) h1 (Nat.le_refl _) h2 (Nat.le_refl _) (by omega);rw [segD old new h1 (Nat.le_refl _) h2 (Nat.le_refl _)] at st;refine ⟨old.length+1,new.length+1,some (.int (old.length:Nat),.shr),some (.int (new.length:Nat),.shr),?_⟩;rw [List.map_nil,List.nil_append,zbz (ρ1:=edR old new B os ns (some (.int (old.length:Nat),.shr)) (some (.int (new.length:Nat),.shr))) rfl st];rfl
 | (i,j)::ps,os,ns,B,s5,s6,h,hB=>by
  obtain ⟨h1,h2,h3,h4,h5⟩:=h;have st:=zmu (B:=B) (old:=old) (new:=new) (os:=os) (ns:=ns) (i:=i) (j:=j) h1 (by omega) h2 (by omega) (by omega);rw [segD old new h1 (by omega) h2 (by omega)] at st;obtain ⟨a,b,t5,t6,g⟩:=zjL ho hn ps (i+1) (j+1) (B++(((List.range' os (i - os)).map fun k=>(false,k,old.getD k ""))++((List.range' ns (j - ns)).map fun j=>(true,i,new.getD j "")))) (some (.int (i:Nat),.shr)) (some (.int (j:Nat),.shr)) h5 (by simp;omega);refine ⟨a,b,t5,t6,?_⟩;rw [Zh,List.cons_append,zbz (ρ1:=edR old new B os ns (some (.int (i:Nat),.shr)) (some (.int (j:Nat),.shr))) rfl st,g];simp only [edD,Zb1]
theorem zlc {old new:WR.Row}:∀{ps:List (Nat×Nat)}{os ns:Nat},ps.Pairwise (fun p q=>p.1 < q.1/\p.2 < q.2)->(∀p∈ps,os<=p.1/\ns<=p.2/\p.1 < old.length/\p.2 < new.length)->os<=old.length->ns<=new.length->Chn old.length new.length ps os ns
 | [],_,_,_,_,h1,h2=>⟨h1,h2⟩
 | (i,j)::r,os,ns,hw,hp,h1,h2=>by
  obtain ⟨a1,a2,a3,a4⟩:=hp (i,j) Zf;simp only at a1 a2 a3 a4;refine ⟨a1,a2,a3,a4,zlc (List.Pairwise.of_cons hw) (fun p hp'=>?_) (by omega) (by omega)⟩;have:=List.rel_of_pairwise_cons hw hp';have h5:=hp p (Ze _ hp');simp only at this;exact ⟨by omega,by omega,h5.2.2⟩
theorem ediD {old new:WR.Row}(ho:zeg old) (hn:zeg new) {ps:List (Nat×Nat)}(k1:WR.zcI [WR.rowP old,WR.rowP new]=some (zal ps)) (k2:Chn old.length new.length ps 0 0):WR.zd9 [WR.rowP old,WR.rowP new]=some (zbK (edD old new "" ps 0 0)):=by
 have hol:=ho.1;have hnl:=hn.1;obtain ⟨a,b,t5,t6,g⟩:=zjL hol hnl ps 0 0 [] none none k2 (Nat.zero_le _);have hpl:ps.length<=1000:=by
  have:∀(ps:List (Nat×Nat)) (os ns:Nat),Chn old.length new.length ps os ns->ps.length+os<=old.length:=by
   intro ps
   induction ps with
   | nil=>exact fun os ns h=>by have:=h.1;simp;omega
   | cons x r ih=>exact fun os ns h=>by have:=ih _ _ h.2.2.2.2;have:=h.1;rw [Zq];omega
  have:=this ps 0 0 k2;omega
 refine zay (b:=true) rfl ?_ rfl;refine (q_nx (zco (p:=zbK []) rfl)).trans ?_;refine (q_nx (za7 (p:=.int ((0:Nat):Int)) rfl)).trans ?_;refine (q_nx (za7 (p:=.int ((0:Nat):Int)) rfl)).trans ?_;refine (q_nx (ρ':=edR old new (edD old new "" ps 0 0) a b t5 t6) ?_).trans rfl;refine (zbM (xs:=ps.map zaz++[zaz (old.length,new.length)]) (zdP ?_)).trans ?_
 ·show x2 pCat _ _ (edR old new [] 0 0 none none)=_
  have kk:zcI [WR.rowP old,WR.rowP new]=some (.lst (ps.map zaz)):=k1;have l1:xL pLen (zab (zaa 0) lNil) (edR old new [] 0 0 none none)=some (.int (old.length:Nat)):=(q_xL (q_l1 (p:=WR.rowP old) rfl)).trans (by show some (PV.int ((old.map PV.str).length:Nat))=_;rw [Zd]);have l2:xL pLen (zab (zaa 1) lNil) (edR old new [] 0 0 none none)=some (.int (new.length:Nat)):=(q_xL (q_l1 (p:=WR.rowP new) rfl)).trans (by show some (PV.int ((new.map PV.str).length:Nat))=_;rw [Zd]);exact (q_x2 (p:=.lst (ps.map zaz)) (q:=.lst [zaz (old.length,new.length)]) ((q_xL (ps:=[WR.rowP old,WR.rowP new]) rfl).trans kk) ((q_xL (q_l1 ((q_xL (q_lc l1 (q_l1 l2))).trans rfl))).trans rfl)).trans (znD _ _ (by simp;omega))
 ·rw [show zdU 7 [WR.rowP old,WR.rowP new] = [some (WR.rowP old,.shr),some (WR.rowP new,.shr),none,none,none,none,none] from rfl]
  exact g
end WH
namespace WH
open PySem L2 TR WR
theorem zmK {n m:Nat}:∀{ps:List (Nat×Nat)}{os ns:Nat},Chn n m ps os ns -> ∀q∈ps,os<=q.1/\ns<=q.2
 | [],_,_,_,q,hq=>by cases hq
 | (i,j)::r,os,ns,h,q,hq=>by
  obtain ⟨h1,h2,_,_,h5⟩:=h;rcases Zk.mp hq with rfl|hq
  ·exact ⟨h1,h2⟩
  ·have:=zmK h5 q hq
   omega
theorem zlb {a i n:Nat}(h1:a<=i) (h2:i < n):List.range' a (n - a)=List.range' a (i - a)++i::List.range' (i+1) (n - (i+1)):=by
 rw [show n - a=(i - a) + ((n - (i+1)) + 1) by omega,<- List.range'_append_1,show a + (i - a)=i by omega,List.range'_succ]
theorem zjF {a i n:Nat}{l r:List Nat}(h1:a<=i) (h2:i < n) (hl:∀q∈r,i+1<=q) (hll:l=i::r):(List.range' a (n - a)).filter (fun k=>decide (k∉l))=List.range' a (i - a)++(List.range' (i+1) (n - (i+1))).filter fun k=>decide (k∉r):=by
 subst hll;rw [zlb h1 h2,List.filter_append,List.filter_cons];have e1:(List.range' a (i - a)).filter (fun k=>decide (k∉i::r))=List.range' a (i - a):=by
  rw [List.filter_eq_self];intro k hk;have hk:=List.mem_range'_1.mp hk;refine Zn fun z=>?_;rcases Zk.mp z with z|z
  ·omega
  ·have:=hl k z;omega
 have e2:(List.range' (i+1) (n - (i+1))).filter (fun k=>decide (k∉i::r))=(List.range' (i+1) (n - (i+1))).filter fun k=>decide (k∉r):=by
  refine List.filter_congr fun k hk=>?_;have hk:=List.mem_range'_1.mp hk;refine decide_eq_decide.mpr ⟨fun z w=>z (Ze _ w),fun z w=>?_⟩;rcases Zk.mp w with w|w
  ·omega
  ·exact z w
 rw [e1,e2,Zo (by simp),if_neg (by decide)]
theorem filT {α:Type}(l:List α):(l.filter fun _=>true)=l:=List.filter_eq_self.mpr fun _ _=>rfl
theorem filF {α:Type}(l:List α):(l.filter fun _=>false) = []:=List.filter_eq_nil_iff.mpr fun _ _=>by decide
theorem zsD (old new:WR.Row) (z:Str):∀(ps:List (Nat×Nat)) (os ns:Nat),Chn old.length new.length ps os ns->((edD old new z ps os ns).filter fun d=>!d.1).map (fun d=>d.2.1)=(List.range' os (old.length - os)).filter fun k=>decide (k∉ps.map Prod.fst)
 | [],os,ns,h=>by
  unfold edD;rw [List.filter_append,Zr,List.filter_map,List.filter_map,Zi,Zi];simp [Function.comp_def,filT,filF]
 | (i,j)::r,os,ns,h=>by
  obtain ⟨h1,h2,h3,h4,h5⟩:=h;have g:=zmK h5;unfold edD;rw [List.filter_append,List.filter_append,Zr,Zr,zsD old new z r _ _ h5,List.filter_map,List.filter_map,Zi,Zi];rw [zjF (l:=((i,j)::r).map Prod.fst) (r:=r.map Prod.fst) h1 h3 (fun q hq=>by
   obtain ⟨y,hy,rfl⟩:=Zs.mp hq;exact (g y hy).1) rfl]
  simp [Function.comp_def,filT,filF]
theorem ztK (old new:WR.Row) (z:Str):∀(ps:List (Nat×Nat)) (os ns:Nat),Chn old.length new.length ps os ns->((edD old new z ps os ns).filter fun d=>d.1).map (fun d=>d.2.2)=((List.range' ns (new.length - ns)).filter fun k=>decide (k∉ps.map Prod.snd)).map fun k=>new.getD k z
 | [],os,ns,h=>by
  unfold edD;rw [List.filter_append,Zr,List.filter_map,List.filter_map,Zi,Zi];simp [Function.comp_def,filT,filF]
 | (i,j)::r,os,ns,h=>by
  obtain ⟨h1,h2,h3,h4,h5⟩:=h;have g:=zmK h5;unfold edD;rw [List.filter_append,List.filter_append,Zr,Zr,ztK old new z r _ _ h5,List.filter_map,List.filter_map,Zi,Zi];rw [zjF (l:=((i,j)::r).map Prod.snd) (r:=r.map Prod.snd) h2 h4 (fun q hq=>by
   obtain ⟨y,hy,rfl⟩:=Zs.mp hq;exact (g y hy).2) rfl]
  simp [Function.comp_def,filT,filF]
end WH
namespace WH
open PySem L2 TR
variable [HC]
theorem zvA (ns:List Int) {k:Nat}(hk:k<=100) {most:Nat}(h1:1<=most) (h5:most<=5):∃V,f__law_versions [.scr ns,.int (k:Nat),.int (most:Nat)]=some (vsP V)/\0 < V.length/\V.length<=most/\Dr V:=by
 obtain ⟨c,hc⟩:=WR.zq7 ns k (by omega);have md:=WB.zdw c (most:Nat) (by omega);obtain ⟨n,hn⟩:∃n:Nat,1+c % (most:Nat)=(n:Int):=⟨(1+c % (most:Nat)).toNat,by omega⟩
 obtain ⟨ρ',e,V,s4,s5,s6,s7,s8,s9,s10,s11,rfl,hV,hl⟩:=zfA (tg:=gN 4) (body:=pvB) (xs:=rngP 0 n) (ρ:=[some (.scr ns,.shr),some (.int (k:Nat),.shr),some (.int (most:Nat),.shr),some (.lst [],.own),none,none,none,none,none,none,none,none]) (fun i ρ=>∃V s4 s5 s6 s7 s8 s9 s10 s11,ρ = [some (.scr ns,.shr),some (.int (k:Nat),.shr),some (.int (most:Nat),.shr),some (vsP V,.own),s4,s5,s6,s7,s8,s9,s10,s11]/\Dr V/\V.length=i) ⟨[],none,none,none,none,none,none,none,none,rfl,⟨by simp,by simp⟩,rfl⟩ (by
  rintro i v ρ hv ⟨V,s4,s5,s6,s7,s8,s9,s10,s11,rfl,hV,hl⟩;obtain ⟨hi,rfl⟩:=zeJ hv;subst hl;have hn5:V.length < 5:=by omega
  obtain ⟨d1,D1⟩:=WR.ldig ns (k+1+2 * V.length) (by omega);obtain ⟨d2,D2⟩:=WR.ldig ns (k+2+2 * V.length) (by omega);obtain ⟨es,E1,E2⟩:=eld (left:=d1) (n:=V.length) (by omega);have he:∀e∈es,0<=e/\e < (V.length:Nat):=E2.2.1;obtain ⟨m1,t1,u10,u11,P1,T1⟩:=zlw (some (.scr ns,.shr)) (some (.int (k:Nat),.shr)) (some (.int (most:Nat),.shr)) (some (.int d1,.shr)) hV.t d2 he E2.2.2 T5.nil (p:="f") (by decide) s10 s11;obtain ⟨m2,t2,v10,v11,P2,T2⟩:=zlw (some (.scr ns,.shr)) (some (.int (k:Nat),.shr)) (some (.int (most:Nat),.shr)) (some (.int d1,.shr)) hV.t m1 he E2.2.2 T1 (p:="gg") (by decide) u10 u11;have lp:vFor (itL (xL zar (fun _=>some [(.str "f"),(.str "gg")]))) (gN 9) piB (pE (some (.scr ns,.shr)) (some (.int (k:Nat),.shr)) (some (.int (most:Nat),.shr)) V V.length (some (.int d1,.shr)) d2 es [] s9 s10 s11)=some (.nx (pE (some (.scr ns,.shr)) (some (.int (k:Nat),.shr)) (some (.int (most:Nat),.shr)) V V.length (some (.int d1,.shr)) m2 es t2 (some (.str "gg",.shr)) v10 v11)):=by
   refine (zbM (xs:=[.str "f",.str "gg"]) rfl).trans ?_;refine (zbz rfl P1).trans ?_;exact (zbz rfl P2).trans rfl
  refine ⟨[some (.scr ns,.shr),some (.int (k:Nat),.shr),some (.int (most:Nat),.shr),some (vsP V,.own),some (.int (V.length:Nat),.shr),s5,s6,s7,s8,s9,s10,s11],[some (.scr ns,.shr),some (.int (k:Nat),.shr),some (.int (most:Nat),.shr),some (vsP (V++[(es,t2)]),.own),some (.int (V.length:Nat),.shr),some (.int d1,.shr),some (.int m2,.shr),some (tupZ es,.shr),some (trP t2,.shr),some (.str "gg",.shr),v10,v11],rfl,?_,V++[(es,t2)],_,_,_,_,_,_,_,_,rfl,hV.app E2 T2,by rw [Zp];rfl⟩;unfold pvB;have ix:∀(j:Nat) (s5 s6:Option (PV×Fl)),x2 pAdd (x2 pAdd (zaa 1) (xC (.int (j:Nat)))) (x2 pMul (xC (.int (2))) (zaa 4)) [some (.scr ns,.shr),some (.int (k:Nat),.shr),some (.int (most:Nat),.shr),some (vsP V,.own),some (.int (V.length:Nat),.shr),s5,s6,s7,s8,s9,s10,s11]=some (.int ((k+j+2 * V.length:Nat):Int)):=by
   intro j s5 s6;refine ((q_x2 ((q_x2 rfl rfl).trans (zls _ _)) ((q_x2 rfl rfl).trans (zqy 2 (V.length:Nat) (by omega) (by omega)))).trans (zls _ _)).trans ?_;congr 2
  refine (q_nx (za7 ((q_xL (ps:=[.scr ns,.int ((k+1+2 * V.length:Nat):Int)]) (q_lc rfl (q_l1 (ix 1 s5 s6)))).trans D1))).trans ?_;refine (q_nx (za7 ((q_xL (ps:=[.scr ns,.int ((k+2+2 * V.length:Nat):Int)]) (q_lc rfl (q_l1 (ix 2 _ s6)))).trans D2))).trans ?_;refine (q_nx (za7 ((q_xL (ps:=[.int d1,.int (V.length:Nat)]) rfl).trans E1))).trans ?_;refine (q_nx (zco (p:=.dct []) rfl)).trans ?_;refine (q_nx lp).trans ?_;show zao 3 (xL zaQ (zab (zaa 7) (zab (zaa 8) lNil))) [some (.scr ns,.shr),some (.int (k:Nat),.shr),some (.int (most:Nat),.shr),some (vsP V,.own),some (.int (V.length:Nat),.shr),some (.int d1,.shr),some (.int m2,.shr),some (tupZ es,.shr),some (trP t2,.shr),some (.str "gg",.shr),v10,v11]=_;refine (zkd (q:=.tup [tupZ es,trP t2]) (ps:=V.map fun q=>.tup [tupZ q.1,trP q.2]) rfl rfl (by rw [Zd];omega)).trans ?_;unfold vsP;rw [Zr];rfl)
 have hlen:(rngP 0 n).length=n:=by unfold rngP;simp
 rw [hlen] at hl;refine ⟨V,zay (b:=true) rfl ?_ rfl,by omega,by omega,hV⟩;show za8 [some (.scr ns,.shr),some (.int (k:Nat),.shr),some (.int (most:Nat),.shr),none,none,none,none,none,none,none,none,none]=_;unfold za8;refine (q_nx (zco (p:=.lst []) rfl)).trans ?_;refine (q_nx ((zbM (zeM (j:=(n:Nat)) (q_l1 ((q_x2 rfl ((q_x2 ((q_xL (ps:=[.scr ns,.int (k:Nat)]) rfl).trans hc) rfl).trans (zc9 c (most:Nat) (by omega)))).trans ((zls _ _).trans (by rw [hn])))) (by omega))).trans e)).trans rfl
end WH
namespace WH
open PySem L2 TR
def zbY:VF:=(vSeq (zai 2 (zap [none,none,none] (itL (zaa 0)) (gT [0,1,2]) (bOf (x2 pEq (zaa 0) (xC (.str "take")))) (zaa 1)))
 (vRet (zap [none,some 2] (itR1 (zab (zaa 1) lNil)) (gN 0) (bOf (x2 (pIn true) (zaa 0) (zaa 1))) (zaa 0)) true))
def f__law_left:List PV->Option PV:=fnM 2 3 true zbY
def natI (l:List Nat):PV:=zax (l.map fun n=>((n:Nat):Int))
theorem zjv {x:Nat}{l:List Nat}:((x:Nat):Int)∈(l.map fun n=>((n:Nat):Int))↔x∈l:=by
 rw [Zs];constructor
 ·rintro ⟨a,h,e⟩
  have:a=x:=by omega
  rwa [<- this]
 ·exact fun h=>⟨x,h,rfl⟩
theorem lft (D:List WR.Deed) (hD:D.length<=1000) {n:Nat}(hn:n<=1000):f__law_left [WR.zbK D,.int (n:Nat)]=some (natI ((List.range n).filter fun k=>decide (k∉(D.filter fun d=>!d.1).map fun d=>d.2.1))):=by
 refine zay (b:=true) rfl ?_ rfl;show zbY [some (WR.zbK D,.shr),some (.int (n:Nat),.shr),none]=_;unfold zbY;have c1:zap [none,none,none] (itL (zaa 0)) (gT [0,1,2]) (bOf (x2 pEq (zaa 0) (xC (.str "take")))) (zaa 1) [some (WR.zbK D,.shr),some (.int (n:Nat),.shr),none]=some (natI ((D.filter fun d=>!d.1).map fun d=>d.2.1)):=by
  refine (zbA (ys:=(D.filter fun d=>!d.1).map fun d=>PV.int (d.2.1:Nat)) (zdP (ps:=D.map WR.zfk) rfl) (by rw [Zd];omega) ?_).trans (by unfold natI zax;rw [Zi,Zi];rfl);refine zea WR.zfk (fun d=>!d.1) _ (fun ρ=>∃s0 s1 s2,ρ = [s0,s1,s2]) _ _ ⟨none,none,none,rfl⟩ ?_;rintro ⟨b,m,x⟩ _ ρ ⟨s0,s1,s2,rfl⟩;cases b with
  | true=>exact ⟨[some (.str "put",.shr),some (.int (m:Nat),.shr),some (.str x,.shr)],rfl,⟨_,_,_,rfl⟩,q_b ((q_x2 (p:=.str "put") (q:=.str "take") rfl rfl).trans (show some (PV.bl (decide (("put" : Str) = "take")))=_ from by rw [Zo (by decide)];rfl)),rfl⟩
  | false=>exact ⟨[some (.str "take",.shr),some (.int (m:Nat),.shr),some (.str x,.shr)],rfl,⟨_,_,_,rfl⟩,q_b ((q_x2 (p:=.str "take") (q:=.str "take") rfl rfl).trans (show some (PV.bl (decide (("take" : Str) = "take")))=_ from by rw [Zn rfl];rfl)),rfl⟩
 refine (q_nx (za7 c1)).trans (zcV ?_);refine (zbA (xs:=(List.range n).map fun (j:Nat)=>PV.int (j:Nat)) (ys:=((List.range n).filter fun k=>decide (k∉(D.filter fun d=>!d.1).map fun d=>d.2.1)).map fun (k:Nat)=>PV.int (k:Nat)) ((zeM (j:=(n:Nat)) rfl (by omega)).trans ?_) (by simp;omega) ?_).trans (by unfold natI zax;rw [Zi];rfl)
 ·unfold rngP
  congr 1;refine Ze1 fun k _=>?_;congr 1;omega
 ·refine zea (fun (j:Nat)=>PV.int (j:Nat)) (fun k=>decide (k∉(D.filter fun d=>!d.1).map fun d=>d.2.1)) _ (fun ρ=>∃s0,ρ = [s0,some (natI ((D.filter fun d=>!d.1).map fun d=>d.2.1),.shr)]) _ _ ⟨none,rfl⟩ ?_
  rintro k _ ρ ⟨s0,rfl⟩;refine ⟨[some (.int (k:Nat),.shr),some (natI ((D.filter fun d=>!d.1).map fun d=>d.2.1),.shr)],rfl,⟨_,rfl⟩,?_,rfl⟩;refine q_b ((q_x2 (p:=.int (k:Nat)) (q:=natI ((D.filter fun d=>!d.1).map fun d=>d.2.1)) rfl rfl).trans ((zqz true (k:Nat) _).trans ?_));rw [if_pos rfl];congr 2;rw [<- decide_not];exact decide_eq_decide.mpr (not_congr zjv)
variable [HC]
theorem zxh {w:WB.Web}{ts:List Tr}(H:Hs w ts) {p:Str}:∀x,Val ts p x -> ∀y∈ch w ts p x,y.1<=x.1:=by
 refine zuW H (P:=fun x=>∀y∈ch w ts p x,y.1<=x.1) (fun x hx h=>?_) fun x y hx h hy hl ih=>?_
 ·intro y hy
  rw [zg0 h,Zo1] at hy;subst hy;exact Nat.le_refl _
 ·intro z hz
  rw [(zdh H hx h).1,Zk] at hz;rcases hz with rfl|hz
  ·exact Nat.le_refl _
  ·have:=ih z hz;omega
theorem zpY {w:WB.Web}{ts:List Tr}(H:Hs w ts) {p:Str}{x y:Ln}(hx:Val ts p x) (h:src w ts p x=some y):ups w ts p (dn x.1) x=ups w ts p (dn y.1) y/\(ups w ts p (dn x.1) x).1 < x.1:=by
 obtain ⟨a,b,c,_⟩:=zdh H hx h;have e1:=zen H x.1 x hx (Nat.le_refl _);have e2:=zen H y.1 y c (Nat.le_refl _);obtain ⟨l,hl⟩:=zmL H c;rw [a,hl,List.getLast?_cons_cons,<- hl,e2] at e1;have e3:ups w ts p (dn x.1) x=ups w ts p (dn y.1) y:=(Option.some.inj e1).symm;refine ⟨e3,?_⟩;rw [e3];have:=zxh H y c _ (List.mem_of_getLast? e2);omega
theorem zi6 {w:WB.Web}{ts:List Tr}{p:Str}{x:Ln}(h:src w ts p x=none):ups w ts p (dn x.1) x=x:=zgk h _
theorem zeK {l:List Nat}(h:l.Pairwise (· < ·)) {n:Nat}(hl:∀x∈l,x < n):(List.range n).filter (fun k=>decide (k∈l))=l:=by
 have h1:((List.range n).filter fun k=>decide (k∈l)).Pairwise (· < ·):=List.pairwise_lt_range.filter _;refine List.Perm.eq_of_pairwise (le:=(· < ·)) (fun a b _ _ h1 h2=>absurd h1 (by omega)) h1 h ?_;refine (List.perm_ext_iff_of_nodup (h1.imp fun h=>by omega) (h.imp fun h=>by omega)).mpr fun x=>?_;rw [Zh1,Zt,Zi1];exact ⟨fun z=>z.2,fun z=>⟨hl x z,z⟩⟩
theorem znw {l:List Ln}(h:l.Pairwise fun p q=>p.1 < q.1/\p.2 < q.2):(l.map Prod.fst).Pairwise (· < ·):=List.pairwise_map.mpr (h.imp fun h=>h.1)
theorem znv {l:List Ln}(h:l.Pairwise fun p q=>p.1 < q.1/\p.2 < q.2):(l.map Prod.snd).Pairwise (· < ·):=List.pairwise_map.mpr (h.imp fun h=>h.2)
end WH
namespace WH
open PySem L2 TR
variable [HC]
theorem zod (x y:Ln):pEqT 3 (WR.zaz x) (WR.zaz y)=some (.bl (decide (x=y))):=by
 unfold WR.zaz;simp only [pEqT];rw [if_pos (by simp [zb6,simk])];congr 2;by_cases h:x=y
 ·rw [h,Zn rfl];exact zbj.mpr rfl
 ·rw [Zo h]
  cases hp:peq (PV.lst [.int (x.1:Nat),.int (x.2:Nat)]) (PV.lst [.int (y.1:Nat),.int (y.2:Nat)]) with
  | false=>rfl
  | true =>
   have:=zbj.mp hp;injection this with this
   injection this with h1 h2
   injection h2 with h2 _
   injection h1 with h1
   injection h2 with h2
   exact absurd (Prod.ext (by omega) (by omega)) h
theorem zi8:∀(n:Nat) (a:WR.Row),zb6 n (a.map PV.str) (a.map PV.str)=true
 | _,[]=>by simp [zb6]
 | n,x::a=>by
  rw [Zh];simp only [zb6,zi8 n a,Bool.and_true];simp [simk]
theorem zrp (a:WR.Row):pEqL 3 true (WR.rowP a) (WR.rowP a)=some (.bl false):=by
 have h3:peq (WR.rowP a) (WR.rowP a)=true:=zbj.mpr rfl;show (if zb6 3 (a.map PV.str) (a.map PV.str)=true then some (PV.bl (if true=true then !peq (WR.rowP a) (WR.rowP a) else _)) else none)=_;rw [if_pos (zi8 3 a),h3];rfl
structure One (w:WB.Web) (ts:List Tr) (p:Str) (n e:Nat) (old new:WR.Row):Prop where
 lt:n < w.length
 el:e∈els w n
 no:∀a∈els w n,a≠e->row ts p a=none
 ro:row ts p e=some old
 rn:row ts p n=some new
theorem One.none {w:WB.Web}{ts:List Tr}(H:Hs w ts) {p:Str}{n e:Nat}{old new:WR.Row}(h:One w ts p n e old new) {j:Nat}(hj:j∉(kpt old new).map Prod.snd):ups w ts p (dn n) (n,j)=(n,j):=by
 refine zi6 (x:=(n,j)) ?_;rw [zgq h.el h.no];cases hk:kb ts p n j e with
 | none=>rfl
 | some y =>
  have h1:=(zra H hk).1;have:y=(e,y.2):=Prod.ext h1 rfl;rw [this] at hk;exact absurd (Zs.mpr ⟨_,(zme H h.ro h.rn).mp hk,rfl⟩) hj
theorem One.some {w:WB.Web}{ts:List Tr}(H:Hs w ts) {p:Str}{n e:Nat}{old new:WR.Row}(h:One w ts p n e old new) {q:Ln}(hq:q∈kpt old new):ups w ts p (dn n) (n,q.2)=ups w ts p (dn e) (e,q.1)/\(ups w ts p (dn n) (n,q.2)).1 < n:=by
 obtain ⟨_,k2⟩:=ze4 (zbl H h.ro) (zbl H h.rn);have hlt:=(k2.2 q hq).2.1;have hs:src w ts p (n,q.2)=.some (e,q.1):=by
  rw [zgq h.el h.no];exact (zme H h.ro h.rn).mpr hq
 exact zpY H (x:=(n,q.2)) ⟨new[q.2],by
  unfold text;rw [h.rn];exact Zc hlt⟩ hs
theorem One.iff {w:WB.Web}{ts:List Tr}(H:Hs w ts) {p:Str}{n e:Nat}{old new:WR.Row}(h:One w ts p n e old new) (j:Nat):(ups w ts p (dn n) (n,j)=(n,j)↔j∉(kpt old new).map Prod.snd)/\((ups w ts p (dn n) (n,j)).1≠n↔j∈(kpt old new).map Prod.snd):=by
 by_cases hj:j∈(kpt old new).map Prod.snd
 ·obtain ⟨q,hq,rfl⟩:=Zs.mp hj
  have:=(h.some H hq).2;refine ⟨⟨fun z=>?_,fun z=>absurd hj z⟩,fun _=>hj,fun _=>by omega⟩;rw [z] at this;exact absurd this (by simp)
 ·have:=h.none H hj
  refine ⟨⟨fun _=>hj,fun _=>this⟩,fun z=>?_,fun z=>absurd z hj⟩;rw [this] at z;exact absurd rfl z
theorem One.ris {w:WB.Web}{ts:List Tr}(H:Hs w ts) {p:Str}{n e:Nat}{old new:WR.Row}(h:One w ts p n e old new):WR.Ris old new (kpt old new) old.length new.length:=(ze4 (zbl H h.ro) (zbl H h.rn)).2
theorem One.chn {w:WB.Web}{ts:List Tr}(H:Hs w ts) {p:Str}{n e:Nat}{old new:WR.Row}(h:One w ts p n e old new):Chn old.length new.length (kpt old new) 0 0:=zlc (h.ris H).1 (fun q hq=>⟨Nat.zero_le _,Nat.zero_le _,((h.ris H).2 q hq).1,((h.ris H).2 q hq).2.1⟩) (Nat.zero_le _) (Nat.zero_le _)
theorem One.edit {w:WB.Web}{ts:List Tr}(H:Hs w ts) {p:Str}{n e:Nat}{old new:WR.Row}(h:One w ts p n e old new):WR.zd9 [WR.rowP old,WR.rowP new]=Option.some (WR.zbK (edD old new "" (kpt old new) 0 0)):=ediD (zbl H h.ro) (zbl H h.rn) (ze4 (zbl H h.ro) (zbl H h.rn)).1 (h.chn H)
theorem One.fresh {w:WB.Web}{ts:List Tr}(H:Hs w ts) {p:Str}{n e:Nat}{old new:WR.Row}(h:One w ts p n e old new):((List.range new.length).filter fun j=>decide (ups w ts p (dn n) (n,j)=(n,j))).map (fun j=>new.getD j "")=((edD old new "" (kpt old new) 0 0).filter fun d=>d.1).map fun d=>d.2.2:=by
 rw [ztK old new "" (kpt old new) 0 0 (h.chn H),Nat.sub_zero,<- List.range_eq_range'];congr 1;refine List.filter_congr fun j _=>?_;exact decide_eq_decide.mpr (h.iff H j).1
theorem One.left {w:WB.Web}{ts:List Tr}(H:Hs w ts) {p:Str}{n e:Nat}{old new:WR.Row}(h:One w ts p n e old new):((List.range old.length).filter fun k=>decide (k∉((edD old new "" (kpt old new) 0 0).filter fun d=>!d.1).map fun d=>d.2.1))=(kpt old new).map Prod.fst:=by
 rw [zsD old new "" (kpt old new) 0 0 (h.chn H),Nat.sub_zero,<- List.range_eq_range'];refine Eq.trans ?_ (zeK (znw (h.ris H).1) (n:=old.length) fun x hx=>?_)
 ·refine List.filter_congr fun k hk=>decide_eq_decide.mpr ?_
  rw [Zh1,Zi1];constructor
  ·intro z
   by_cases hm:k∈(kpt old new).map Prod.fst
   ·exact hm
   ·exact absurd ⟨hk,hm⟩ z
  ·rintro z ⟨_,z2⟩
   exact z2 z
 ·obtain ⟨q,hq,rfl⟩:=Zs.mp hx
  exact ((h.ris H).2 q hq).1
theorem One.told {w:WB.Web}{ts:List Tr}(H:Hs w ts) {p:Str}{n e:Nat}{old new:WR.Row}(h:One w ts p n e old new):(((List.range new.length).map fun j=>ups w ts p (dn n) (n,j)).filter fun x=>!decide (x.1=n))=((kpt old new).map Prod.fst).map fun k=>ups w ts p (dn e) (e,k):=by
 rw [List.filter_map];have e1:((List.range new.length).filter ((fun x:Ln=>!decide (x.1=n)) ∘ fun j=>ups w ts p (dn n) (n,j)))=(kpt old new).map Prod.snd:=by
  refine Eq.trans ?_ (zeK (znv (h.ris H).1) (n:=new.length) fun x hx=>?_)
  ·refine List.filter_congr fun k hk=>?_
   show (!decide ((ups w ts p (dn n) (n,k)).1=n))=_;rw [<- decide_not];exact decide_eq_decide.mpr (h.iff H k).2
  ·obtain ⟨q,hq,rfl⟩:=Zs.mp hx
   exact ((h.ris H).2 q hq).2.1
 rw [e1,Zi,Zi];exact Ze1 fun q hq=>(h.some H hq).1
end WH
namespace K57
open PySem L2 TR WH
variable [HC]
theorem zuM:zaB=WR.zaB:=rfl
theorem zuu:f__law_versions=WH.f__law_versions:=rfl
theorem zuK:f__law_history=WH.f__law_history:=rfl
theorem zof:f_whence=WH.f_whence:=rfl
theorem zuL:zd9=WR.zd9:=rfl
theorem zuv:zaj=HS.zaj:=rfl
theorem zuE:f__law_left=WH.f__law_left:=rfl
theorem zru:f_lives=WH.f_lives:=rfl
theorem zug (ns:List Int) (k:Nat) (hk:k<=1000):∃c:Int,zaB [.scr ns,.int (k:Nat)]=some (.int c):=by rw [zuM];exact WR.zq7 ns k hk
theorem zub (ns:List Int):∃V,f__law_versions [.scr ns,.int ((0:Nat):Int),.int ((4:Nat):Int)]=some (vsP V)/\0 < V.length/\V.length<=4/\Dr V:=by rw [zuu];exact zvA ns (by omega) (by omega) (by omega)
theorem zue {V:List (List Int×Tr)}(hV:Dr V) (h40:V.length<=40):f__law_history [vsP V]=some (HS.hsP (V.map Prod.fst) (tsO V)):=by rw [zuK];exact hst hV h40
theorem zgQ {w:WB.Web}{ts:List Tr}(H:Hs w ts) {p:Str}{v:Nat}{r:WR.Row}(hr:row ts p v=some r):f_whence [HS.hsP w ts,.int (v:Nat),.str p]=some (WR.zal ((List.range r.length).map fun j=>ups w ts p (dn v) (v,j))):=by rw [zof];exact whn H hr
theorem zo6 {w:WB.Web}{ts:List Tr}(H:Hs w ts) {v:Nat}(hv:v < w.length) (p:Str):∃t,zaj [HS.hsP w ts,.int (v:Nat)]=some (trP t)/\look t p=row ts p v:=by rw [zuv];exact tr H hv p
theorem zud (D:List WR.Deed) (hD:D.length<=1000) {n:Nat}(hn:n<=1000):f__law_left [WR.zbK D,.int (n:Nat)]=some (natI ((List.range n).filter fun k=>decide (k∉(D.filter fun d=>!d.1).map fun d=>d.2.1))):=by rw [zuE];exact lft D hD hn
theorem zrb {w:WB.Web}{ts:List Tr}(H:Hs w ts) {p:Str}{x:Ln}(hx:Val ts p x) (h5:w.length<=5) (hb:∀m r,row ts p m=some r->r.length<=5):∃L,f_lives [HS.hsP w ts,.int (x.1:Nat),.str p,.int (x.2:Nat)]=some (WR.zal L)/\L.Perm (lvA w ts p x):=by rw [zru];exact lvs H hx h5 hb
theorem zuf {w:WB.Web}{ts:List Tr}(H:Hs w ts) {p:Str}{n e:Nat}{old new:WR.Row}(h:One w ts p n e old new):zd9 [WR.rowP old,WR.rowP new]=some (WR.zbK (edD old new "" (kpt old new) 0 0)):=by rw [zuL];exact h.edit H
theorem zl6 (L:List Ln):pLen [WR.zal L]=some (.int (L.length:Nat)):=by
 show some (PV.int ((L.map WR.zaz).length:Nat))=_;rw [Zd]
theorem zl5 (L:WR.Row):pLen [WR.rowP L]=some (.int (L.length:Nat)):=by
 show some (PV.int ((L.map PV.str).length:Nat))=_;rw [Zd]
theorem ztA (i j:Int):pNe (.int i) (.int j)=some (.bl (!decide (i=j))):=rfl
theorem zeI (n:Nat):rngP 0 n=(List.range n).map fun (j:Nat)=>PV.int (j:Nat):=by
 unfold rngP;refine Ze1 fun k _=>?_;congr 1;omega
theorem zll {F:VX}{ρ:PEnv}{r:WR.Row}(h:F ρ=some (WR.rowP r)) (hl:r.length<=1000):itR1 (zab (xL pLen (zab F lNil)) lNil) ρ=some ((List.range r.length).map fun (j:Nat)=>PV.int (j:Nat)):=by
 refine (zeM (j:=(r.length:Nat)) (q_l1 ((q_xL (q_l1 h)).trans (zl5 r))) (by omega)).trans ?_;rw [Zv,zeI]
theorem zmv (old new:WR.Row):∀(ps:List (Nat×Nat)) (os ns:Nat),Chn old.length new.length ps os ns->(edD old new "" ps os ns).length<=(old.length - os) + (new.length - ns)
 | [],os,ns,h=>by simp [edD]
 | (i,j)::ps,os,ns,h=>by
  obtain ⟨h1,h2,h3,h4,h5⟩:=h;have:=zmv old new ps (i+1) (j+1) h5;simp only [edD,Zp,Zd,List.length_range'];omega
def loB:VF:=(vSeq (zai 12 (zap [none,some 1] (itL (xL f_lives (zab (zaa 0) (zab (zaa 3) (zab (zaa 2) (zab (zaa 11) lNil)))))) (gN 0) (bOf (x2 pEq (x2 pIxT (zaa 0) (xC (.int (0)))) (zaa 1))) (zaa 0)))
 (vIf (bOf (x2 pNe (xL pLen (zab (zaa 12) lNil)) (xL zlH (zab (x2 (pIn false) (zaa 11) (zaa 9)) lNil))))
 (vRet (xC (.bl false)) false)
 zak))
abbrev oE (w:WB.Web) (ts:List Tr) (n:Nat) (p:Str) (e:Nat) (a4 a5 a6 a7 a8 a9 a10 a11 a12:Option (PV×Fl)):PEnv:=[some (HS.hsP w ts,.shr),some (.int (n:Nat),.shr),some (.str p,.shr),some (.int (e:Nat),.shr),a4,a5,a6,a7,a8,a9,a10,a11,a12]
theorem zq5 {w:WB.Web}{ts:List Tr}(H:Hs w ts) {p:Str}{n e:Nat}{old new:WR.Row}(h:One w ts p n e old new) (h5:w.length<=5) (hb:∀m r,row ts p m=some r->r.length<=5) {k:Nat}(hk:k < old.length) (a4 a5 a6 a7 a8 a10 a12:Option (PV×Fl)) :
  ∃s,loB (oE w ts n p e a4 a5 a6 a7 a8 (some (natI ((kpt old new).map Prod.fst),.shr)) a10 (some (.int (k:Nat),.shr)) a12)=some (.nx (oE w ts n p e a4 a5 a6 a7 a8 (some (natI ((kpt old new).map Prod.fst),.shr)) a10 (some (.int (k:Nat),.shr)) s)):=by
 have hv:Val ts p (e,k):=⟨old[k],by unfold text;rw [h.ro];exact Zc hk⟩
 obtain ⟨L,l1,l2⟩:=zrb H hv h5 hb;have hL:L.length < 64:=by
  rw [l2.length_eq];have fl:=zgN H p hb (dwnN w e) [(e,k)];have dl:=zjM (w:=w) e;unfold lvA;rw [Zx] at fl;show (List.foldl (lvM w ts p) [(e,k)] (dwnN w e)).length < 64;omega
 have cnt:(vn n L).length=if k∈(kpt old new).map Prod.fst then 1 else 0:=by
  have:=zt4 H (x:=(e,k)) h.lt h.el h.no h.ro h.rn;rw [<- this];exact (l2.filter _).length_eq
 have c1:zap [none,some 1] (itL (xL f_lives (zab (zaa 0) (zab (zaa 3) (zab (zaa 2) (zab (zaa 11) lNil)))))) (gN 0) (bOf (x2 pEq (x2 pIxT (zaa 0) (xC (.int (0)))) (zaa 1))) (zaa 0) (oE w ts n p e a4 a5 a6 a7 a8 (some (natI ((kpt old new).map Prod.fst),.shr)) a10 (some (.int (k:Nat),.shr)) a12)=some (WR.zal (vn n L)):=by
  refine zbA (xs:=L.map WR.zaz) (zdP ((q_xL (ps:=[HS.hsP w ts,.int (e:Nat),.str p,.int (k:Nat)]) rfl).trans l1)) (by rw [Zd];omega) ?_;refine zea WR.zaz (fun y=>decide (y.1=n)) _ (fun ρ=>∃s0,ρ = [s0,some (.int (n:Nat),.shr)]) _ _ ⟨none,rfl⟩ ?_;rintro y _ ρ ⟨s0,rfl⟩;refine ⟨[some (WR.zaz y,.shr),some (.int (n:Nat),.shr)],rfl,⟨_,rfl⟩,?_,rfl⟩;refine q_b ((q_x2 (q_p0 (x:=y) rfl) rfl).trans ((q_eq _ _).trans ?_));congr 2;exact decide_eq_decide.mpr ⟨fun z=>by omega,fun z=>by omega⟩
 refine ⟨some (WR.zal (vn n L),.shr),?_⟩;unfold loB;refine (q_nx (za7 c1)).trans ?_;refine (za3 (q_b ?_)).trans rfl;refine (q_x2 ((q_xL (q_l1 (p:=WR.zal (vn n L)) rfl)).trans (zl6 _)) ((q_xL (q_l1 ((q_x2 (p:=.int (k:Nat)) (q:=natI ((kpt old new).map Prod.fst)) rfl rfl).trans (zqz false (k:Nat) _)))).trans (zpg _))).trans ((ztA _ _).trans ?_);rw [cnt];simp only [Bool.false_eq_true,if_false,Zi1,zjv];by_cases hm:k∈(kpt old new).map Prod.fst
 ·rw [if_pos hm,if_pos hm];rfl
 ·rw [if_neg hm,if_neg hm];rfl
theorem one {w:WB.Web}{ts:List Tr}(H:Hs w ts) {p:Str}{n e:Nat}{old new:WR.Row}(h:One w ts p n e old new) (h5:w.length<=5) (hb:∀m r,row ts p m=some r->r.length<=5):zbi [HS.hsP w ts,.int (n:Nat),.str p,.int (e:Nat)]=some (.bl true):=by
 obtain ⟨t1,e1,e2⟩:=zo6 H h.lt p;obtain ⟨t3,e3,e4⟩:=zo6 H (zhv H h.ro) p;rw [h.rn] at e2;rw [h.ro] at e4;have ln:=hb _ _ h.rn;have lo:=hb _ _ h.ro;have lD:=zmv old new (kpt old new) 0 0 (h.chn H);generalize hD:edD old new "" (kpt old new) 0 0=D at lD;refine zay (b:=false) rfl ?_ rfl;show zbN (oE w ts n p e none none none none none none none none none)=_;unfold zbN;refine (q_nx (za7 (zd5 ((q_xL (ps:=[HS.hsP w ts,.int (n:Nat)]) rfl).trans e1) rfl e2))).trans ?_;refine (q_nx (za7 (zd5 ((q_xL (ps:=[HS.hsP w ts,.int (e:Nat)]) rfl).trans e3) rfl e4))).trans ?_;refine (q_nx (za7 ((q_xL (ps:=[WR.rowP old,WR.rowP new]) rfl).trans (zuf H h)))).trans ?_;rw [hD];refine (q_nx (za7 ((q_xL (ps:=[HS.hsP w ts,.int (n:Nat),.str p]) rfl).trans (zgQ H h.rn)))).trans ?_;show _=_;have c1:zap [none,some 4,some 7,some 1] (itR1 (zab (xL pLen (zab (zaa 4) lNil)) lNil)) (gN 0) (bOf (x2 (pEqT 3) (x2 pIxL (zaa 2) (zaa 0)) (xL zaQ (zab (zaa 3) (zab (zaa 0) lNil))))) (x2 pIxL (zaa 1) (zaa 0)) (oE w ts n p e (some (WR.rowP new,.shr)) (some (WR.rowP old,.shr)) (some (WR.zbK D,.shr)) (some (WR.zal ((List.range new.length).map fun j=>ups w ts p (dn n) (n,j)),.shr)) none none none none none)=some (WR.rowP ((D.filter fun d=>d.1).map fun d=>d.2.2)):=by
  have ff:=h.fresh H;rw [hD] at ff;rw [<- ff];refine (zbA (ys:=((List.range new.length).filter fun j=>decide (ups w ts p (dn n) (n,j)=(n,j))).map fun j=>PV.str (new.getD j "")) (zll (r:=new) rfl (by omega)) (by rw [Zd,Zu];omega) ?_).trans (by unfold WR.rowP;rw [Zi];rfl);refine zea (fun (j:Nat)=>PV.int (j:Nat)) (fun j=>decide (ups w ts p (dn n) (n,j)=(n,j))) _ (fun ρ=>∃s0,ρ = [s0,some (WR.rowP new,.shr),some (WR.zal ((List.range new.length).map fun j=>ups w ts p (dn n) (n,j)),.shr),some (.int (n:Nat),.shr)]) _ _ ⟨none,rfl⟩ ?_;rintro j hj ρ ⟨s0,rfl⟩;rw [Zt] at hj;refine ⟨[some (.int (j:Nat),.shr),some (WR.rowP new,.shr),some (WR.zal ((List.range new.length).map fun j=>ups w ts p (dn n) (n,j)),.shr),some (.int (n:Nat),.shr)],rfl,⟨_,rfl⟩,?_,?_⟩
  ·refine q_b ((q_x2 (p:=WR.zaz (ups w ts p (dn n) (n,j))) (q:=WR.zaz (n,j)) ((q_x2 rfl rfl).trans (zb9 (f:=WR.zaz) (by rw [Zj,Zg1 hj];rfl))) rfl).trans (zod _ _))
  ·refine (q_x2 (p:=WR.rowP new) (q:=.int (j:Nat)) rfl rfl).trans (zb9 (f:=PV.str) (l:=new) ?_)
   rw [Zy,Zc hj];rfl
 refine (q_nx (za7 c1)).trans ?_;have c2:∀(a4 a5 a7 a8:Option (PV×Fl)),zap [none,none,none] (itL (zaa 6)) (gT [0,1,2]) (bOf (x2 pEq (zaa 0) (xC (.str "put")))) (zaa 2) (oE w ts n p e a4 a5 (some (WR.zbK D,.shr)) a7 a8 none none none none)=some (WR.rowP ((D.filter fun d=>d.1).map fun d=>d.2.2)):=by
  intro a4 a5 a7 a8;refine (zbA (ys:=(D.filter fun d=>d.1).map fun d=>PV.str d.2.2) (zdP (ps:=D.map WR.zfk) rfl) (by rw [Zd];omega) ?_).trans (by unfold WR.rowP;rw [Zi];rfl);refine zea WR.zfk (fun d=>d.1) _ (fun ρ=>∃s0 s1 s2,ρ = [s0,s1,s2]) _ _ ⟨none,none,none,rfl⟩ ?_;rintro ⟨b,m,x⟩ _ ρ ⟨s0,s1,s2,rfl⟩;cases b with
  | true=>exact ⟨[some (.str "put",.shr),some (.int (m:Nat),.shr),some (.str x,.shr)],rfl,⟨_,_,_,rfl⟩,q_b ((q_x2 (p:=.str "put") (q:=.str "put") rfl rfl).trans (show some (PV.bl (decide (("put" : Str) = "put")))=_ from by rw [Zn rfl])),rfl⟩
  | false=>exact ⟨[some (.str "take",.shr),some (.int (m:Nat),.shr),some (.str x,.shr)],rfl,⟨_,_,_,rfl⟩,q_b ((q_x2 (p:=.str "take") (q:=.str "put") rfl rfl).trans (show some (PV.bl (decide (("take" : Str) = "put")))=_ from by rw [Zo (by decide)])),rfl⟩
 refine (q_nx ((za3 (q_b ((q_x2 (p:=WR.rowP ((D.filter fun d=>d.1).map fun d=>d.2.2)) rfl (c2 _ _ _ _)).trans (zrp _)))).trans rfl)).trans ?_;have lf:=h.left H;rw [hD] at lf;refine (q_nx (za7 ((q_xL (ps:=[WR.zbK D,.int (old.length:Nat)]) (q_lc rfl (q_l1 ((q_xL (q_l1 (p:=WR.rowP old) rfl)).trans (zl5 old))))).trans ((zud D (by omega) (by omega)).trans (by rw [lf]))))).trans ?_;refine (q_nx (za7 ((q_xL (ps:=[HS.hsP w ts,.int (e:Nat),.str p]) rfl).trans (zgQ H h.ro)))).trans ?_;have c3:∀(a4 a5 a6 a8 a9 a10:Option (PV×Fl)),zap [none,some 1] (itL (zaa 7)) (gN 0) (bOf (x2 pNe (x2 pIxT (zaa 0) (xC (.int (0)))) (zaa 1))) (zaa 0) (oE w ts n p e a4 a5 a6 (some (WR.zal ((List.range new.length).map fun j=>ups w ts p (dn n) (n,j)),.shr)) a8 a9 a10 none none)=some (WR.zal (((kpt old new).map Prod.fst).map fun k=>ups w ts p (dn e) (e,k))):=by
  intro a4 a5 a6 a8 a9 a10;rw [<- h.told H];refine zbA (xs:=((List.range new.length).map fun j=>ups w ts p (dn n) (n,j)).map WR.zaz) (zdP rfl) (by rw [Zd,Zd,Zu];omega) ?_;refine zea WR.zaz (fun x=>!decide (x.1=n)) _ (fun ρ=>∃s0,ρ = [s0,some (.int (n:Nat),.shr)]) _ _ ⟨none,rfl⟩ ?_;rintro y _ ρ ⟨s0,rfl⟩;refine ⟨[some (WR.zaz y,.shr),some (.int (n:Nat),.shr)],rfl,⟨_,rfl⟩,?_,rfl⟩;refine q_b ((q_x2 (q_p0 (x:=y) rfl) rfl).trans ((ztA _ _).trans ?_));rw [show decide (((y.1:Nat):Int)=((n:Nat):Int))=decide (y.1=n) from decide_eq_decide.mpr ⟨fun z=>by omega,fun z=>by omega⟩]
 have hfl:∀k∈(kpt old new).map Prod.fst,k < old.length:=by
  intro k hk;obtain ⟨q,hq,rfl⟩:=Zs.mp hk;exact ((h.ris H).2 q hq).1
 have hpl:((kpt old new).map Prod.fst).length<=1000:=by
  rw [<- lf];refine Nat.le_trans (List.length_filter_le _ _) ?_;rw [Zu];omega
 have c4:∀(a4 a5 a6 a7 a8:Option (PV×Fl)),zap [none,some 10] (itL (zaa 9)) (gN 0) zaC (x2 pIxL (zaa 1) (zaa 0)) (oE w ts n p e a4 a5 a6 a7 a8 (some (natI ((kpt old new).map Prod.fst),.shr)) (some (WR.zal ((List.range old.length).map fun j=>ups w ts p (dn e) (e,j)),.shr)) none none)=some (WR.zal (((kpt old new).map Prod.fst).map fun k=>ups w ts p (dn e) (e,k))):=by
  intro a4 a5 a6 a7 a8;refine (zbA (xs:=((kpt old new).map Prod.fst).map fun (k:Nat)=>PV.int (k:Nat)) (ys:=((kpt old new).map Prod.fst).map fun k=>WR.zaz (ups w ts p (dn e) (e,k))) ((zdP rfl).trans (by rw [Zi];rfl)) (by rw [Zd];omega) ?_).trans (by unfold WR.zal;rw [Zi (g:=WR.zaz)];rfl);refine zfi (fun (k:Nat)=>PV.int (k:Nat)) _ (fun ρ=>∃s0,ρ = [s0,some (WR.zal ((List.range old.length).map fun j=>ups w ts p (dn e) (e,j)),.shr)]) _ _ ⟨none,rfl⟩ ?_;rintro k hk ρ ⟨s0,rfl⟩;refine ⟨[some (.int (k:Nat),.shr),some (WR.zal ((List.range old.length).map fun j=>ups w ts p (dn e) (e,j)),.shr)],rfl,⟨_,rfl⟩,?_⟩;exact (q_x2 (p:=WR.zal ((List.range old.length).map fun j=>ups w ts p (dn e) (e,j))) (q:=.int (k:Nat)) rfl rfl).trans (zb9 (f:=WR.zaz) (by rw [Zj,Zg1 (hfl k hk)];rfl))
 refine (q_nx ((za3 (q_b ((q_x2 (c3 _ _ _ _ _ _) (c4 _ _ _ _ _)).trans (zjG _)))).trans rfl)).trans ?_;have it:=zll (F:=zaa 5) (ρ:=oE w ts n p e (some (WR.rowP new,.shr)) (some (WR.rowP old,.shr)) (some (WR.zbK D,.shr)) (some (WR.zal ((List.range new.length).map fun j=>ups w ts p (dn n) (n,j)),.shr)) (some (WR.rowP ((D.filter fun d=>d.1).map fun d=>d.2.2),.shr)) (some (natI ((kpt old new).map Prod.fst),.shr)) (some (WR.zal ((List.range old.length).map fun j=>ups w ts p (dn e) (e,j)),.shr)) none none) (r:=old) rfl (by omega);rw [<- zeI] at it;obtain ⟨ρ,g,s11,s12,rfl⟩:=zfA (tg:=gN 11) (body:=loB) (xs:=rngP 0 old.length) (ρ:=oE w ts n p e (some (WR.rowP new,.shr)) (some (WR.rowP old,.shr)) (some (WR.zbK D,.shr)) (some (WR.zal ((List.range new.length).map fun j=>ups w ts p (dn n) (n,j)),.shr)) (some (WR.rowP ((D.filter fun d=>d.1).map fun d=>d.2.2),.shr)) (some (natI ((kpt old new).map Prod.fst),.shr)) (some (WR.zal ((List.range old.length).map fun j=>ups w ts p (dn e) (e,j)),.shr)) none none)
  (fun i ρ=>∃s11 s12,ρ=oE w ts n p e (some (WR.rowP new,.shr)) (some (WR.rowP old,.shr)) (some (WR.zbK D,.shr)) (some (WR.zal ((List.range new.length).map fun j=>ups w ts p (dn n) (n,j)),.shr)) (some (WR.rowP ((D.filter fun d=>d.1).map fun d=>d.2.2),.shr)) (some (natI ((kpt old new).map Prod.fst),.shr)) (some (WR.zal ((List.range old.length).map fun j=>ups w ts p (dn e) (e,j)),.shr)) s11 s12) ⟨none,none,rfl⟩
  (by
   rintro i x ρ hx ⟨s11,s12,rfl⟩;obtain ⟨hi,rfl⟩:=zeJ hx;obtain ⟨s,b⟩:=zq5 H h h5 hb hi (some (WR.rowP new,.shr)) (some (WR.rowP old,.shr)) (some (WR.zbK D,.shr)) (some (WR.zal ((List.range new.length).map fun j=>ups w ts p (dn n) (n,j)),.shr)) (some (WR.rowP ((D.filter fun d=>d.1).map fun d=>d.2.2),.shr)) (some (WR.zal ((List.range old.length).map fun j=>ups w ts p (dn e) (e,j)),.shr)) s12;exact ⟨_,_,rfl,b,_,s,rfl⟩)
 exact (q_nx ((zbM it).trans g)).trans rfl
end K57
namespace K57
open PySem L2 TR WH
variable [HC]
def lwB:VF:=(vSeq (vUnp (gT [5,6]) (x2 pIxL (zaa 1) (zaa 4)))
 (vIf (bOf (xDIn false (zaa 3) (zaa 6)))
 (vSeq (zai 7 (zap [none,some 3,some 1] (itT (zaa 5)) (gN 0) (bOf (xDIn false (zaa 1) (x2 pIxT (x2 pIxL (zaa 2) (zaa 0)) (xC (.int (1)))))) (zaa 0)))
 (vSeq (vIf (bOf (x2 pEq (xL pLen (zab (zaa 7) lNil)) (xC (.int (0)))))
 (vIf (bOf (x2 (pEqL 3 true) (xL f_whence (zab (zaa 2) (zab (zaa 4) (zab (zaa 3) lNil)))) (zap [none,some 4] (itR1 (zab (xL pLen (zab (zbQ (zaa 6) (zaa 3)) lNil)) lNil)) (gN 0) zaC (xL zaQ (zab (zaa 1) (zab (zaa 0) lNil))))))
 (vRet (xC (.bl false)) false)
 zak)
 zak)
 (vIf (bAnd (bOf (x2 pEq (xL pLen (zab (zaa 7) lNil)) (xC (.int (1))))) (bNot (bOf (xL zbi (zab (zaa 2) (zab (zaa 4) (zab (zaa 3) (zab (x2 pIxL (zaa 7) (xC (.int (0)))) lNil))))))))
 (vRet (xC (.bl false)) false)
 zak)))
 zak))
abbrev lE (ns:List Int) (V:List (List Int×Tr)) (p:Str) (k:Nat) (s5 s6 s7:Option (PV×Fl)):PEnv:=[some (.scr ns,.shr),some (vsP V,.shr),some (HS.hsP (V.map Prod.fst) (tsO V),.shr),some (.str p,.shr),some (.int (k:Nat),.shr),s5,s6,s7]
theorem zsT {V:List (List Int×Tr)}{k:Nat}{q:List Int×Tr}(h:V[k]?=some q) (p:Str):row (tsO V) p k=look q.2 p:=by
 unfold row;rw [Zj,h];rfl
theorem zut {V:List (List Int×Tr)}{k:Nat}{q:List Int×Tr}(h:V[k]?=some q):WB.eld (V.map Prod.fst) (k:Int)=q.1:=by
 unfold WB.eld;rw [Zv,Zj,h];rfl
theorem zn1 (l:List Nat):pLen [natI l]=some (.int (l.length:Nat)):=by
 show some (PV.int (((l.map fun n=>((n:Nat):Int)).map PV.int).length:Nat))=_;rw [Zd,Zd]
theorem zq3 (ns:List Int) {V:List (List Int×Tr)}(hV:Dr V) (h0:0 < V.length) (h4:V.length<=4) {p:Str}{k:Nat}(hk:k < V.length) (s5 s6 s7:Option (PV×Fl)):∃s5' s6' s7',lwB (lE ns V p k s5 s6 s7)=some (.nx (lE ns V p k s5' s6' s7')):=by
 have H:=zwH hV h0 (by omega);have hw:(V.map Prod.fst).length=V.length:=Zd _;obtain ⟨⟨es,t⟩,hq⟩:∃q,V[k]?=some q:=⟨_,Zc hk⟩
 have hr:=zsT hq p;have hb:∀m r,row (tsO V) p m=some r->r.length<=5:=by
  intro m r hm;unfold row at hm;obtain ⟨t',ht,hl⟩:=Za.mp hm;rw [Zj] at ht;obtain ⟨q,hq,rfl⟩:=Zb.mp ht;exact ((hV.t q (Zw hq)).row hl).1
 have ee:tupZ es=.tup ((els (V.map Prod.fst) k).map fun (e:Nat)=>PV.int (e:Nat)):=by
  have:=zpe H.g (v:=k) (by omega)
  rwa [zut hq] at this
 have u:vUnp (gT [5,6]) (x2 pIxL (zaa 1) (zaa 4)) (lE ns V p k s5 s6 s7)=some (.nx (lE ns V p k (some (tupZ es,.shr)) (some (trP t,.shr)) s7)):=by
  have eq:x2 pIxL (zaa 1) (zaa 4) (lE ns V p k s5 s6 s7)=some (.tup [tupZ es,trP t]):=(q_x2 (p:=vsP V) (q:=.int (k:Nat)) rfl rfl).trans (zb9 (f:=fun q:List Int×Tr=>PV.tup [tupZ q.1,trP q.2]) hq);unfold vUnp;rw [eq];rfl
 unfold lwB;cases hl:look t p with
 | none =>
  refine ⟨some (tupZ es,.shr),some (trP t,.shr),s7,(q_nx u).trans ?_⟩;exact (za3 (q_b ((zh4 false (p:=p) (t:=t) rfl rfl).trans (by rw [hl];rfl)))).trans rfl
 | some r =>
  have hrow:row (tsO V) p k=some r:=hr.trans hl;have c1:zap [none,some 3,some 1] (itT (zaa 5)) (gN 0) (bOf (xDIn false (zaa 1) (x2 pIxT (x2 pIxL (zaa 2) (zaa 0)) (xC (.int (1)))))) (zaa 0) (lE ns V p k (some (tupZ es,.shr)) (some (trP t,.shr)) s7)=some (natI ((els (V.map Prod.fst) k).filter fun a=>(row (tsO V) p a).isSome)):=by
   refine (zbA (xs:=(els (V.map Prod.fst) k).map fun (e:Nat)=>PV.int (e:Nat)) (ys:=((els (V.map Prod.fst) k).filter fun a=>(row (tsO V) p a).isSome).map fun (e:Nat)=>PV.int (e:Nat)) (zlo (by rw [<- ee];rfl)) ?_ ?_).trans (by unfold natI zax;rw [Zi];rfl)
   ·rw [Zd]
    unfold els;rw [Zd,zut hq];have:=(H.g.2.2 k es (by rw [Zj,hq];rfl)).2.2;show es.length<=1000000;omega
   refine zea (fun (e:Nat)=>PV.int (e:Nat)) (fun a=>(row (tsO V) p a).isSome) _ (fun ρ=>∃s0,ρ = [s0,some (.str p,.shr),some (vsP V,.shr)]) _ _ ⟨none,rfl⟩ ?_;rintro a ha ρ ⟨s0,rfl⟩;have hlt:=zjK H.g (v:=k) (by omega) ha;obtain ⟨qa,hqa⟩:∃q,V[a]?=some q:=⟨_,Zc (by omega)⟩
   refine ⟨[some (.int (a:Nat),.shr),some (.str p,.shr),some (vsP V,.shr)],rfl,⟨_,rfl⟩,?_,rfl⟩;refine q_b ((zh4 false (p:=p) (t:=qa.2) rfl ?_).trans ?_)
   ·exact (q_x2 ((q_x2 (p:=vsP V) (q:=.int (a:Nat)) rfl rfl).trans (zb9 (f:=fun q:List Int×Tr=>PV.tup [tupZ q.1,trP q.2]) hqa)) rfl).trans rfl
   ·rw [zsT hqa];rfl
  generalize hsm:((els (V.map Prod.fst) k).filter fun a=>(row (tsO V) p a).isSome)=sm at c1;have mem:∀a∈els (V.map Prod.fst) k,a∉sm->row (tsO V) p a=none:=by
   intro a ha hn;cases hra:row (tsO V) p a with
   | none=>rfl
   | some x =>
    refine absurd ?_ hn;rw [<- hsm,Zh1];exact ⟨ha,by rw [hra];rfl⟩
  refine ⟨some (tupZ es,.shr),some (trP t,.shr),some (natI sm,.shr),(q_nx u).trans ?_⟩;refine (zcr (q_b ((zh4 false (p:=p) (t:=t) rfl rfl).trans (by rw [hl];rfl)))).trans ?_;refine (q_nx (za7 c1)).trans ?_;have eL:∀c:Int,bOf (x2 pEq (xL pLen (zab (zaa 7) lNil)) (xC (.int c))) (lE ns V p k (some (tupZ es,.shr)) (some (trP t,.shr)) (some (natI sm,.shr)))=some (decide (((sm.length:Nat):Int)=c)):=fun c=>q_b ((q_x2 ((q_xL (q_l1 (p:=natI sm) rfl)).trans (zn1 sm)) rfl).trans (q_eq _ _))
  match sm,mem,hsm,eL with
  | [],mem,_,eL =>
   have hn:∀j,src (V.map Prod.fst) (tsO V) p (k,j)=none:=by
    intro j;unfold src;rw [List.findSome?_eq_none_iff];intro a ha;unfold kb;rw [mem a ha (by simp)];rfl
   have w1:xL f_whence (zab (zaa 2) (zab (zaa 4) (zab (zaa 3) lNil))) (lE ns V p k (some (tupZ es,.shr)) (some (trP t,.shr)) (some (natI [],.shr)))=some (WR.zal ((List.range r.length).map fun j=>(k,j))):=by
    refine (q_xL (ps:=[HS.hsP (V.map Prod.fst) (tsO V),.int (k:Nat),.str p]) rfl).trans ((zgQ H hrow).trans ?_);congr 2;exact Ze1 fun j _=>zi6 (x:=(k,j)) (hn j)
   have w2:zap [none,some 4] (itR1 (zab (xL pLen (zab (zbQ (zaa 6) (zaa 3)) lNil)) lNil)) (gN 0) zaC (xL zaQ (zab (zaa 1) (zab (zaa 0) lNil))) (lE ns V p k (some (tupZ es,.shr)) (some (trP t,.shr)) (some (natI [],.shr)))=some (WR.zal ((List.range r.length).map fun j=>(k,j))):=by
    refine (zbA (ys:=(List.range r.length).map fun (j:Nat)=>WR.zaz (k,j)) (zll (r:=r) (zd5 rfl rfl hl) (by have:=hb _ _ hrow;omega)) (by rw [Zd,Zu];have:=hb _ _ hrow;omega) ?_).trans (by unfold WR.zal;rw [Zi];rfl);refine zfi (fun (j:Nat)=>PV.int (j:Nat)) _ (fun ρ=>∃s0,ρ = [s0,some (.int (k:Nat),.shr)]) _ _ ⟨none,rfl⟩ ?_;rintro j _ ρ ⟨s0,rfl⟩;exact ⟨[some (.int (j:Nat),.shr),some (.int (k:Nat),.shr)],rfl,⟨_,rfl⟩,rfl⟩
   refine (q_nx ((zcr (eL 0)).trans ((za3 (q_b ((q_x2 w1 w2).trans (zjG _)))).trans rfl))).trans ?_;exact (za3 (zlr (eL 1))).trans rfl
  | [e],mem,hsm,eL =>
   have he:e∈els (V.map Prod.fst) k/\(row (tsO V) p e).isSome=true:=by
    have:e∈((els (V.map Prod.fst) k).filter fun a=>(row (tsO V) p a).isSome):=by rw [hsm];simp
    exact Zh1.mp this
   obtain ⟨old,ho⟩:=Option.isSome_iff_exists.mp he.2;have O:One (V.map Prod.fst) (tsO V) p k e old r:=⟨by omega,he.1,fun a ha hn=>mem a ha (by simpa using hn),ho,hrow⟩
   refine (q_nx ((za3 (eL 0)).trans rfl)).trans ?_;refine (za3 ((zhz (eL 1)).trans (zlm (b:=true) (q_b ((q_xL (ps:=[HS.hsP (V.map Prod.fst) (tsO V),.int (k:Nat),.str p,.int (e:Nat)]) ?_).trans (one H O (by omega) hb)))))).trans rfl;exact q_lc rfl (q_lc rfl (q_lc rfl (q_l1 ((q_x2 (p:=natI [e]) (q:=.int 0) rfl rfl).trans rfl))))
  | a::b::l,mem,hsm,eL =>
   have h2:∀c:Int,c < 2->decide ((((a::b::l).length:Nat):Int)=c)=false:=fun c hc=>Zo (by rw [Zq,Zq];omega);refine (q_nx ((za3 ((eL 0).trans (by rw [h2 0 (by omega)]))).trans rfl)).trans ?_;exact (za3 (zlr ((eL 1).trans (by rw [h2 1 (by omega)])))).trans rfl
theorem zwD (ns:List Int):zrn [.scr ns]=some (.bl true):=by
 obtain ⟨V,h1,h2,h3,hV⟩:=zub ns;obtain ⟨c,hc⟩:=zug ns 20 (by omega);have md:=WB.zdw c 2 (by omega);have hp:x2 pIxL (xL zar (fun _=>some [(.str "f"),(.str "gg")])) (x2 pMod (xL zaB (zab (zaa 0) (zab (xC (.int (20))) lNil))) (xC (.int (2)))) [some (.scr ns,.shr),some (vsP V,.shr),some (HS.hsP (V.map Prod.fst) (tsO V),.shr),none,none,none,none,none]=some (.str (pk K2 (c % 2))):=q_pk (L:=K2) (by decide) ((q_x2 ((q_xL (ps:=[.scr ns,.int ((20:Nat):Int)]) rfl).trans hc) rfl).trans (zc9 c 2 (by omega))) md.1 md.2;generalize pk K2 (c % 2)=p at hp;refine zay (b:=false) rfl ?_ rfl;show zq2 [some (.scr ns,.shr),none,none,none,none,none,none,none]=_;unfold zq2;refine (q_nx (za7 (i:=1) ((q_xL (ps:=[.scr ns,.int ((0:Nat):Int),.int ((4:Nat):Int)]) rfl).trans h1))).trans ?_;refine (q_nx (za7 (i:=2) ((q_xL (ps:=[vsP V]) rfl).trans (zue hV (by omega))))).trans ?_;refine (q_nx (za7 (i:=3) hp)).trans ?_;have eL:xL pLen (zab (zaa 1) lNil) [some (.scr ns,.shr),some (vsP V,.shr),some (HS.hsP (V.map Prod.fst) (tsO V),.shr),some (.str p,.shr),none,none,none,none]=some (.int (V.length:Nat)):=(q_xL (q_l1 (p:=vsP V) rfl)).trans (by unfold vsP;rw [zln,Zd]);obtain ⟨ρ,g,s4,s5,s6,s7,rfl⟩:=zfA (tg:=gN 4) (body:=lwB) (xs:=rngP 0 V.length) (ρ:=[some (.scr ns,.shr),some (vsP V,.shr),some (HS.hsP (V.map Prod.fst) (tsO V),.shr),some (.str p,.shr),none,none,none,none])
  (fun i ρ=>∃s4 s5 s6 s7,ρ = [some (.scr ns,.shr),some (vsP V,.shr),some (HS.hsP (V.map Prod.fst) (tsO V),.shr),some (.str p,.shr),s4,s5,s6,s7]) ⟨none,none,none,none,rfl⟩
  (by
   rintro i x ρ hx ⟨s4,s5,s6,s7,rfl⟩;obtain ⟨hi,rfl⟩:=zeJ hx;obtain ⟨s5',s6',s7',b⟩:=zq3 ns hV h2 h3 (p:=p) hi s5 s6 s7;exact ⟨_,_,rfl,b,_,s5',s6',s7',rfl⟩)
 have it:itR1 (zab (xL pLen (zab (zaa 1) lNil)) lNil) [some (.scr ns,.shr),some (vsP V,.shr),some (HS.hsP (V.map Prod.fst) (tsO V),.shr),some (.str p,.shr),none,none,none,none]=some (rngP 0 V.length):=(zeM (j:=(V.length:Nat)) (q_l1 eL) (by omega)).trans (by rw [Zv]);exact (q_nx ((zbM it).trans g)).trans rfl
end K57
namespace L2
open PySem
def zq0 (K:PySem.W.Frag):Bool:=K.all fun p=>match p.2.cls,p.2.data with
 | .type t,.seq _ _=>!(t == "list")
 | _,_=>true
theorem znV {K:PySem.W.Frag}(h:zq0 K=true) {a:Addr}{o:Obj}{its:Array Value}{n:Nat}(e:K.lookup a=some o) (hc:o.cls=.type "list") (hd:o.data=.seq its n):False:=by
 have hm:(a,o)∈K:=by
  clear h
  induction K with
  | nil=>cases e
  | cons p r ih =>
   obtain ⟨b,x⟩:=p;simp only [List.lookup] at e;split at e
   ·rename_i q;cases e;rw [beq_iff_eq.mp q];exact Zf
   ·exact Ze _ (ih e)
 have:=Zp1.mp h _ hm;simp only [hc,hd] at this;exact absurd this (by decide)
theorem zvF {K:PySem.W.Frag}{f:List PV->Option PV}(h:zq0 K=true) {H:Hp}{a:Addr}{ns:List Int}{E:XK}(hf:f [.scr ns]=some (.bl true)) (hS:SqL K H a (ns.map V.int)):spV false f [.ref a] H (fun v _=>v=.bl true) E:=by
 rcases hS with r|⟨o,its,n,e,hc,_,hd,_⟩
 ·refine ⟨fun b=>b=a,[.scr ns],.bl true,fun b hb=>?_,Reps.one (zix.mpr ⟨a,rfl,rfl,r⟩),hf,fun v H' U' _ hr=>?_⟩
  ·rw [hb];exact Rd.dom r
  ·exact (zbP (U:=U') (H:=H')).mp hr
 ·exact (znV h e hc hd).elim
section
variable {K:PySem.W.Frag}{h:Heap}{mg:Str->Option Value}{x:Str}{st:Stmt}{ps:List Str}{f fa:Addr}{oc kV doc pm cdv ct:Value}{od an:Option Addr}{osl:Array (Option Value)}
theorem zxd (X:K.In h) (G:h.Ns mainGlobals mg) (a:PySem.W.nsIn K mainGlobals x=some (some (.ref f))) (l:K.lookup f=some ⟨oc,od,.func (PySem.W.fnOf x x (zbO st) (za0 st) (zad st) .none kV doc pm an cdv ct),osl⟩) (c:PySem.W.codeIn K cdv x=true) (k:PySem.W.keepIn K (.ref f)=true)
  (hb:∀(kV doc pm:Value) (an:Option Addr) (cdv ct:Value) (us:List Value),us.length=ps.length->bindArgs (PySem.W.fnOf x x (zbO st) (za0 st) (zad st) .none kV doc pm an cdv ct) ⟨us,[]⟩=pure (ps.zip us)):Df K mg x st ps:=⟨_,_,PySem.W.mg_of X G a,zfg l c k,(zfg l c k).binds hb⟩
theorem blt0:Blt mg []:=⟨fun x h=>by cases h⟩
theorem blt1 {l:List Str}(X:K.In h) (G:h.Ns mainGlobals mg) (z:PySem.W.nsIn K mainGlobals x=some none) (r:Blt mg l):Blt mg (x::l):=⟨fun y hy=>by
 rw [List.contains_cons,Bool.or_eq_true] at hy;rcases hy with hy|hy
 ·rw [beq_iff_eq.mp hy];exact PySem.W.mg_none_of X G z
 ·exact r.h y hy⟩
theorem zri {i:Int}{tk:Tok}(X:K.In h) (G:h.Ns mainGlobals mg) (q:PySem.W.nsIn K mainGlobals x=some (some (.int i tk))):∃u,mg x=some u/\RelV (V.int i) u:=⟨_,PySem.W.mg_of X G q,tk,rfl⟩
theorem zt5 {P:Program}{w:World}{g:List PV->Option PV}{k:Nat}(X:K.In h) (G:h.Ns mainGlobals mg) (hfa:mg "law" = some (.ref fa)) (a:PySem.W.nsIn K mainGlobals "law" = some (some (.ref f))) (l:K.lookup f=some ⟨oc,od,.func (PySem.W.fnOf "law" "law" (zbO st) (za0 st) (zad st) .none kV doc pm an cdv ct),osl⟩) (c:PySem.W.codeIn K cdv "law" = true) (k':PySem.W.keepIn K (.ref f)=true)
  (hb:∀(s:Shared) (v:Value),BindsTo s (PySem.W.fnOf "law" "law" (zbO st) (za0 st) (zad st) .none kV doc pm an cdv ct) ⟨[v],[]⟩ [("script",v)]) (ok:∀(base:Heap) (a:Addr) (d:FuncData),Fun K "law" "law" st a d->FnOk P w K mg base CX0 k a d ["script"] (spV false g)) :
  ∃fd:FuncData,(∀(s:Shared) (v:Value),BindsTo s fd ⟨[v],[]⟩ [("script",v)]) /\ ∀base:Heap,K.In base->base.Ns mainGlobals mg->FnOk P w K mg base CX0 k fa fd ["script"] (spV false g):=by
 have e:=hfa.symm.trans (PySem.W.mg_of X G a);cases e;exact ⟨_,hb,fun base _ _=>ok base _ _ (zfg l c k')⟩
end
theorem zvx {l:PySem.W.OpenLaw}{q:Program}{loose:List Str}{XP:(Str->Option Value)->Heap->Prop}{YP:World->Heap->Prop}{d:DefRec}{K:Params->PySem.W.Frag}{g:List PV->Option PV}{k:Nat}(hn:l.most=some 63) (hdf:d.params.defaults = [])
  (hY:∀(w:World) (h:Heap),YP w h->(K w.params).In h) (hr:Room k callerA) (hg:∀ns:List Int,g [.scr ns]=some (.bl true)) (nl:∀w:World,zq0 (K w.params)=true)
  (F:∀(w:World) (mg:Str->Option Value) (fa:Addr) (h:Heap),(K w.params).In h->h.Ns mainGlobals mg->mg d.name=some (.ref fa) ->
   ∃fd:FuncData,(∀(s:Shared) (u:Value),BindsTo s fd ⟨[u],[]⟩ [("script",u)]) /\ ∀base:Heap,(K w.params).In base->base.Ns mainGlobals mg->FnOk l.prog w (K w.params) mg base CX0 k fa fd ["script"] (spV false g)) :
  PySem.W.WalkO q loose XP YP l.row.toRowW d [] (fun f vs=>PySem.call f vs) :=
 L2.zpr (n:=63) (k:=k) (x:="script") (CX:=fun _=>CX0) (sp:=fun w=>spV false g) hn (by decide) hdf hr hY F (fun w H a ns hl _ hS=>zvF (nl w) (hg ns) hS) fun _ _ _ _ _ z=>z
section
variable {K:PySem.W.Frag}{h:Heap}{mg:Str->Option Value}{x m qual:Str}{st:Stmt}{ps:List Str}{C f fa:Addr}{oc kV doc pm cdv ct:Value}{od an:Option Addr}{osl:Array (Option Value)}
theorem zuP (a:PySem.W.findIn K (.ref C) m=some (some (.ref f))) (i:PySem.W.isFn K (.ref f)=true) (l:K.lookup f=some ⟨oc,od,.func (PySem.W.fnOf m qual (zbO st) (za0 st) (zad st) .none kV doc pm an cdv ct),osl⟩) (c:PySem.W.codeIn K cdv qual=true) (k:PySem.W.keepIn K (.ref f)=true)
  (pg:PySem.W.plainGet K C Str.empty=true) (hd:PySem.W.hasDictIn K C=true) (po:PySem.W.plainOver K C=true) (sa:PySem.W.findIn K (.ref C) "__setattr__" = some (some (.builtin "object.__setattr__")))
  (hb:∀(kV doc pm:Value) (an:Option Addr) (cdv ct:Value) (us:List Value),us.length=ps.length->bindArgs (PySem.W.fnOf m qual (zbO st) (za0 st) (zad st) .none kV doc pm an cdv ct) ⟨us,[]⟩=pure (ps.zip us)):DfM K C m qual st ps:=⟨⟨_,_,⟨a,i,k⟩,zfg l c k,(zfg l c k).binds hb⟩,⟨pg,hd,po,sa⟩⟩
theorem zuQ (a:PySem.W.findIn K (.ref C) "__init__" = some (some (.ref f))) (i:PySem.W.isFn K (.ref f)=true) (l:K.lookup f=some ⟨oc,od,.func (PySem.W.fnOf "__init__" "History.__init__" (zbO st) (za0 st) (zad st) .none kV doc pm an cdv ct),osl⟩) (c:PySem.W.codeIn K cdv "History.__init__" = true) (k:PySem.W.keepIn K (.ref f)=true)
  (mk:PySem.W.makesIn K C=true) (kc:PySem.W.keepIn K (.ref C)=true) (pg:PySem.W.plainGet K C Str.empty=true) (hd:PySem.W.hasDictIn K C=true) (po:PySem.W.plainOver K C=true) (sa:PySem.W.findIn K (.ref C) "__setattr__" = some (some (.builtin "object.__setattr__")))
  (ne:PySem.W.findIn K (.ref C) "elders" = some none) (nt:PySem.W.findIn K (.ref C) "trees" = some none)
  (hb:∀(kV doc pm:Value) (an:Option Addr) (cdv ct:Value) (us:List Value),us.length=1->bindArgs (PySem.W.fnOf "__init__" "History.__init__" (zbO st) (za0 st) (zad st) .none kV doc pm an cdv ct) ⟨us,[]⟩=pure ((["self"]:List Str).zip us)):DfI K C st:=⟨⟨_,_,⟨mk,a,i,kc⟩,zfg l c k,(zfg l c k).binds hb⟩,⟨pg,hd,po,sa⟩,ne,nt⟩
end
end L2
local macro_rules | `(tactic| tm_at "kd") => `(tactic| first
 | ((with_reducible show L2.Df _ _ _ _ _);apply L2.zxd;assumption;assumption;k_is;k_is;k_is;k_is;first|(exact fun _ _ _ _ _ _ us hl=>(match us,hl with | [_],_=>rfl))|(exact fun _ _ _ _ _ _ us hl=>(match us,hl with | [_,_],_=>rfl))|(exact fun _ _ _ _ _ _ us hl=>(match us,hl with | [_,_,_],_=>rfl))|(exact fun _ _ _ _ _ _ us hl=>(match us,hl with | [_,_,_,_],_=>rfl)))
 | ((with_reducible show L2.DfM _ _ _ _ _ _);(show L2.DfM _ (279:PySem.Addr) _ _ _ _);apply L2.zuP;k_is;k_is;k_is;k_is;k_is;k_is;k_is;k_is;k_is;first|(exact fun _ _ _ _ _ _ us hl=>(match us,hl with | [_],_=>rfl))|(exact fun _ _ _ _ _ _ us hl=>(match us,hl with | [_,_],_=>rfl))|(exact fun _ _ _ _ _ _ us hl=>(match us,hl with | [_,_,_],_=>rfl))|(exact fun _ _ _ _ _ _ us hl=>(match us,hl with | [_,_,_,_],_=>rfl)))
 | ((with_reducible show L2.DfI _ _ _);(show L2.DfI _ (279:PySem.Addr) _);apply L2.zuQ;k_is;k_is;k_is;k_is;k_is;k_is;k_is;k_is;k_is;k_is;k_is;k_is;k_is;first|(exact fun _ _ _ _ _ _ us hl=>(match us,hl with | [_],_=>rfl))|(exact fun _ _ _ _ _ _ us hl=>(match us,hl with | [_,_],_=>rfl))|(exact fun _ _ _ _ _ _ us hl=>(match us,hl with | [_,_,_],_=>rfl))|(exact fun _ _ _ _ _ _ us hl=>(match us,hl with | [_,_,_,_],_=>rfl)))
 | (apply L2.zri;assumption;assumption;k_is)
 | (apply PySem.W.mg_of;assumption;assumption;k_is)
 | k_exc|kts_exm|kit_is|(apply PySem.W.ExCls.mk<;>k_is))
def _root_.PySem.W.Fast.tw12643713584633940518:Nat:=0
def _root_.PySem.W.Fast.tw5320637129122440561:Nat:=0
def _root_.PySem.W.Fast.tw17474160745680262851:Nat:=0
def _root_.PySem.W.Fast.tw2086758915891010246:Nat:=0
def _root_.PySem.W.Fast.tw14726756958693589900:Nat:=0
def _root_.PySem.W.Fast.tw4198001486845595804:Nat:=0
def _root_.PySem.W.Fast.tw17725843876755374555:Nat:=0
def _root_.PySem.W.Fast.tw12248835956155158648:Nat:=0
def _root_.PySem.W.Fast.tw15091488989177942468:Nat:=0
def _root_.PySem.W.Fast.tw2021913377700724209:Nat:=0
def _root_.PySem.W.Fast.tw10952975160914086978:Nat:=0
def _root_.PySem.W.Fast.tw16837260545054398:Nat:=0
def _root_.PySem.W.Fast.tw10752755839635389468:Nat:=0
def _root_.PySem.W.Fast.tw1615929637741106989:Nat:=0
def _root_.PySem.W.Fast.tw8595894270483431789:Nat:=0
def _root_.PySem.W.Fast.tw7797935039017881814:Nat:=0
def _root_.PySem.W.Fast.tw13116829250953204623:Nat:=0
def _root_.PySem.W.Fast.tw14374820993865635436:Nat:=0
def _root_.PySem.W.Fast.tw15218644042640587895:Nat:=0
def _root_.PySem.W.Fast.tw7827690821112633310:Nat:=0
def _root_.PySem.W.Fast.tw18219756386745238276:Nat:=0
def _root_.PySem.W.Fast.tw17506929667183572891:Nat:=0
def _root_.PySem.W.Fast.tw10177585266783259091:Nat:=0
def _root_.PySem.W.Fast.tw2110262435307400627:Nat:=0
def _root_.PySem.W.Fast.tw3526001829338579109:Nat:=0
def _root_.PySem.W.Fast.tw6964583822624424793:Nat:=0
def _root_.PySem.W.Fast.tw6957990588543328419:Nat:=0
def _root_.PySem.W.Fast.tw2657105508415251252:Nat:=0
def _root_.PySem.W.Fast.tw9075897014303819348:Nat:=0
def _root_.PySem.W.Fast.tw17673425646275733365:Nat:=0
def _root_.PySem.W.Fast.tw7687039520738457241:Nat:=0
def _root_.PySem.W.Fast.tw4695422276883585893:Nat:=0
def _root_.PySem.W.Fast.tw17511153882261140311:Nat:=0
def _root_.PySem.W.Fast.tw14984662593350079355:Nat:=0
def _root_.PySem.W.Fast.tw1309226354243173157:Nat:=0
def _root_.PySem.W.Fast.tw16401517937691495356:Nat:=0
def _root_.PySem.W.Fast.tw15082320614338564446:Nat:=0
def _root_.PySem.W.Fast.tw3619111624047790648:Nat:=0
def _root_.PySem.W.Fast.tw12230989934148693375:Nat:=0
def _root_.PySem.W.Fast.tw9712650940854433701:Nat:=0
open PySem PySem.W PyProof.Rows
set_option maxRecDepth 100000 in
set_option maxHeartbeats 0 in
theorem PySem.Challenge.cw_pasthall_k57_whole_whence_by_edits_holds : PySem.Challenge.rw_pasthall_k57_whole_whence_by_edits.Holds := by
 w_on;o_law;k_head;(case hw=>w_witness2)
 k_fill
 refine L2.zvx (l:=PySem.Challenge.rw_pasthall_k57_whole_whence_by_edits) (k:=10) (g:=@K57.zrn ⟨279⟩) rfl rfl (fun w h Y=>PySem.W.kIn_of Y) ⟨rfl,by decide,by decide,rfl⟩ (@K57.zwD ⟨279⟩) ?nolst ?F
 case nolst =>
  intro w
  rfl
 case F =>
  intro w mg fa h KX G hmg
  apply L2.zt5 (st:=K57.zqg) KX G hmg
  k_is
  k_is
  k_is
  k_is
  exact fun s v=>.of_eq rfl
  refine fun base a d F=>@K57.zt2 ⟨279⟩ _ _ _ _ _ ?tprg _ _ F
  apply @K57.Prg.mk ⟨279⟩
  (apply L2.blt1;assumption;assumption;k_is)
  (apply L2.blt1;assumption;assumption;k_is)
  (apply L2.blt1;assumption;assumption;k_is)
  (apply L2.blt1;assumption;assumption;k_is)
  (apply L2.blt1;assumption;assumption;k_is)
  (apply L2.blt1;assumption;assumption;k_is)
  (apply L2.blt1;assumption;assumption;k_is)
  (apply L2.blt1;assumption;assumption;k_is)
  (apply L2.blt1;assumption;assumption;k_is)
  (apply L2.blt1;assumption;assumption;k_is)
  (apply L2.blt1;assumption;assumption;k_is)
  (apply L2.blt1;assumption;assumption;k_is)
  exact L2.blt0
  all_goals (first|(show _=some (Value.ref (279:PySem.Addr));tm_at "kd")|tm_at "kd")
