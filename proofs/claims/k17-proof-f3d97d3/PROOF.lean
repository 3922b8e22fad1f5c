import PyProof.Rows.All
import Wide.All
import OpenK.AllK
import Wide.FinOn
import Lean
import PyProof.EqAt
import PyProof.EqKinds
import PyProof.TupleCall
import PySem.Challenge.RW_lonewalks_k17_refusals_apart
set_option Elab.async false
set_option linter.all false
set_option maxRecDepth 100000
noncomputable section
namespace L2
open PySem PySem.Spec PyProof.Rows
abbrev Key:=Sum Int Str
def qz:Key->Value->Bool
 | .inl k,v=>Value.isInt k v
 | .inr x,v=>Value.isStrOf x v
def vE(w:World):Key->Int
 | .inl k=>hashInt k
 | .inr x=>hashStr w x
theorem bR:∀ {k:Key} {v:Value},qz k v=true->(∃ i t,k=Sum.inl i/\v=Value.int i t)\/(∃ x t,k=Sum.inr x/\v=Value.str x t)
 | .inl i,v,h=>by
  obtain ⟨t,e⟩:=Value.isInt_shape (k:=i) (v:=v) h;exact .inl ⟨i,t,rfl,e⟩
 | .inr x,v,h=>by
  obtain ⟨t,e⟩:=Value.isStrOf_shape (x:=x) (v:=v) h;exact .inr ⟨x,t,rfl,e⟩
theorem sk(a b:Int):decide ((Sum.inl a:Key)=Sum.inl b)=(a == b):=by
 by_cases e:a=b
 ·subst e;simp
 ·have h:¬ (Sum.inl a:Key)=Sum.inl b:=fun q=>e (Sum.inl.inj q)
  rw[decide_eq_false h];exact (beq_eq_false_iff_ne.mpr e).symm
theorem so(a b:Str):decide ((Sum.inr a:Key)=Sum.inr b)=decide (a=b):=by
 by_cases e:a=b
 ·subst e;simp
 ·have h:¬ (Sum.inr a:Key)=Sum.inr b:=fun q=>e (Sum.inr.inj q)
  rw[decide_eq_false h,decide_eq_false e]
theorem sq(a:Int)(b:Str):decide ((Sum.inl a:Key)=Sum.inr b)=false:=decide_eq_false (fun q=>nomatch q)
theorem sr(a:Str)(b:Int):decide ((Sum.inr a:Key)=Sum.inl b)=false:=decide_eq_false (fun q=>nomatch q)
def l7(prog:Program)(w:World):PySem.KeyKind prog w Key where
 is:=qz
 hash:=vE w
 inj:=fun v a b ha hb=>by
  rcases bR ha with ⟨i,t,rfl,rfl⟩ | ⟨x,t,rfl,rfl⟩
  ·rcases bR hb with ⟨j,u,rfl,e⟩ | ⟨y,u,rfl,e⟩
   ·injection e with e1 _;rw[e1]
   ·exact nomatch e
  ·rcases bR hb with ⟨j,u,rfl,e⟩ | ⟨y,u,rfl,e⟩
   ·exact nomatch e
   ·injection e with e1 _;rw[e1]
 byValue:=fun k v h=>by
  rcases bR h with ⟨i,t,rfl,rfl⟩ | ⟨x,t,rfl,rfl⟩ <;> rfl
 pyHash:=fun hv h=>by
  rcases bR hv with ⟨i,t,rfl,rfl⟩ | ⟨x,t,rfl,rfl⟩
  ·exact wpAny_pyHash_int h
  ·exact wpAny_pyHash_str h
 eqBool:=fun hu hv h=>by
  rcases bR hu with ⟨i,t,rfl,rfl⟩ | ⟨x,t,rfl,rfl⟩
  ·rcases bR hv with ⟨j,u,rfl,rfl⟩ | ⟨y,u,rfl,rfl⟩
   ·rw[sk] at h;exact wpAny_eqBool_int h
   ·rw[sq] at h;exact SeqAt.EqAt.int_str i t y u _ _ _ _ h
  ·rcases bR hv with ⟨j,u,rfl,rfl⟩ | ⟨y,u,rfl,rfl⟩
   ·rw[sr] at h;exact SeqAt.EqAt.str_int x t j u _ _ _ _ h
   ·rw[so] at h;exact wpAny_eqBool_str h
 «strs»:=fun k x t v h=>by
  rcases bR h with ⟨i,u,rfl,e⟩ | ⟨y,u,rfl,e⟩
  ·exact nomatch e
  ·injection e with e1 _
   subst e1
   cases v<;>rfl
inductive V where
 |non | bl (b:Bool) | int (i:Int) | str (x:Str) | byt (b:Array UInt8) | flt (b:UInt64) | ref (a:Addr) | ty (n:String)
 deriving DecidableEq
def RelV:V->Value->Prop
 | .non,u=>u=Value.none
 | .bl b,u=>u=Value.bool b
 | .int i,u=>∃ t,u=Value.int i t
 | .str x,u=>∃ t,u=Value.str x t
 | .byt b,u=>∃ t,u=Value.bytes b t
 | .flt b,u=>∃ t,u=Value.float b t
 | .ref a,u=>u=Value.ref a
 | .ty n,u=>u=Value.type n
abbrev Vals:List V->List Value->Prop:=Paired RelV
theorem Vals.length{xs:List V}{us:List Value}(r:Vals xs us):xs.length=us.length:=Paired.length r
theorem Vals.get:∀ {xs:List V} {us:List Value} {i:Nat} {x:V},Vals xs us->xs[i]?=some x->∃ u,us[i]?=some u/\RelV x u
 |_,_,_,_,.nil,e=>by simp at e
 |_,_,0,_,.cons r _,e=>by simp at e;subst e;exact ⟨_,rfl,r⟩
 |_,_,i+1,x,.cons _ t,e=>by
  obtain ⟨u,h1,h2⟩:=Vals.get (i:=i) (x:=x) t (by simpa using e);exact ⟨u,by simpa using h1,h2⟩
theorem Vals.append:∀ {xs ys:List V} {us ws:List Value},Vals xs us->Vals ys ws->Vals (xs++ys) (us++ws)
 |_,_,_,_,.nil,s=>s
 |_,_,_,_,.cons r t,s=>.cons r (Vals.append t s)
def RelO:Option V->Option Value->Prop
 |some v,some u=>RelV v u
 |none,none=>True
 |_,_=>False
def KV{κ:Type}:List (κ × V)->List (κ × Value)->Prop:=Paired fun (p:κ × V) (q:κ × Value)=>p.1=q.1/\RelV p.2 q.2
def kV:Key->V
 | .inl i=>.int i
 | .inr x=>.str x
inductive HO where
 |lst (xs:List V)
 |tup (xs:List V)
 |dK (kvs:List (Key × V)) | dT (kvs:List (List Key × V))
 |set (S:Int->Bool) (n:Nat)
 |ins (C dx:Addr) (fs:List (Str × V))
 |own (x:Addr)
 |xd (fs:List (Str × V))
 |met (f x:Addr)
 |rng (lo hi:Int)
 |frz (o:Obj) (u:HO)
 |tbl (ps:Array Value)
 |ext (φ:Heap->Prop)
abbrev Hp:=Addr->Option HO
def upd(H:Hp)(a:Addr)(o:HO):Hp:=fun b=>if b=a then some o else H b
theorem bc{H:Hp}{a:Addr}{o:HO}:upd H a o a=some o:=by unfold upd;rw[if_pos rfl]
theorem aD{H:Hp}{a b:Addr}{o:HO}(h:b≠a):upd H a o b=H b:=by unfold upd;rw[if_neg h]
theorem aY{H:Hp}{a b:Addr}{o:HO}(h:H a=some o)(h':H b=none):a≠b:=by
 intro e;subst e;rw[h] at h';cases h'
section
variable (P:Program)(w:World)
def ObjOk(H:Hp)(h:Heap)(a:Addr):HO->Prop
 | .lst xs=>xs.length<=sizeLine/\∃ (its:List Value) (n:Nat),Vals xs its/\h.get? a=some { cls:=.type "list", data:=.seq its.toArray n }
 | .tup xs=>xs.length<=sizeLine/\∃ its:List Value,Vals xs its/\IsTup h a its.toArray
 | .dK kvs=>kvs.length<=sizeLine/\(a == sysModules)=false/\∃ vs,KV kvs vs/\h.DictOf (l7 P w) a vs
 | .dT kvs=>kvs.length<=sizeLine/\(a == sysModules)=false/\∃ xs:List (List Key × Addr × Value),
     Paired (fun (p:List Key × V) (q:List Key × Addr × Value)=>p.1=q.1/\H q.2.1=some (.tup (p.1.map kV))/\RelV p.2 q.2.2) kvs xs ∧
     ∃ o es ep,h.get? a=some o/\o.ExactDict/\o.data=.dict es ep/\es.toList=xs.map (entryOfKey (tupleKind (l7 P w)))/\(xs.map (·.1)).Nodup
 | .set S n=>h.SetOf (intKind P w) a S n
 | .ins C dx fs=>H dx=some (.own a)/\fs.length<=1000/\dx≠a/\h.get? a=some (PySem.W.instObj C dx) ∧
     ∃ mA,h.Ns1 dx mA/\(∀ f,RelO (fs.lookup f) (mA f))/\PySem.Within mA (fs.map (·.1))
 | .own _=>∃ o,h.get? a=some o
 | .xd fs=>∃ mA,h.Ns1 a mA/\∀ f,RelO (fs.lookup f) (mA f)
 | .rng lo hi=>∃ t u v,h.get? a=some { cls:=.type "range", data:=.fields #[.int lo t,.int hi u,.int 1 v] }
 | .frz o u=>h.get? a=some o/\ObjOk H h a u
 | .tbl ps=>h.get? a=some { cls:=.none,data:=.fields ps }
 | .met f x=>h.get? a=some (PySem.W.methodObj (.ref f) (.ref x))
 | .ext φ=>φ h/\(∃ o,h.get? a=some o)/\∀ h1 h2:Heap,φ h1->(∀ o,h1.get? a=some o->h2.get? a=some o)->φ h2
def HOk(H:Hp)(h:Heap):Prop:=∀ a o,H a=some o->ObjOk P w H h a o
end
section
variable {P:Program}{w:World}{H H':Hp}{h h':Heap}{a:Addr}{o:HO}
theorem ObjOk.lt(x:ObjOk P w H h a o):a<h.objs.size:=by
 cases o with
 |lst xs=>obtain ⟨_,_,_,_,e⟩:=x;exact Heap.lt_size e
 |tup xs=>obtain ⟨_,_,_,p⟩:=x;exact p.lt
 |dK kvs=>obtain ⟨_,_,_,_,o,_,_,e,_⟩:=x;exact Heap.lt_size e
 |dT kvs=>obtain ⟨_,_,_,_,o,_,_,e,_⟩:=x;exact Heap.lt_size e
 |set S n=>obtain ⟨o,_,_,_,e,_⟩:=x;exact Heap.lt_size e
 |ins C dx fs=>obtain ⟨_,_,_,e,_⟩:=x;exact Heap.lt_size e
 |own y=>obtain ⟨_,e⟩:=x;exact Heap.lt_size e
 |xd fs=>obtain ⟨_,⟨_,_,_,e,_⟩,_⟩:=x;exact Heap.lt_size e
 |rng lo hi=>obtain ⟨_,_,_,e⟩:=x;exact Heap.lt_size e
 |frz ob u=>obtain ⟨e,_⟩:=x;exact Heap.lt_size e
 |tbl ps=>exact Heap.lt_size (show h.get? a=some _ from x)
 |met f y=>exact Heap.lt_size (show h.get? a=some _ from x)
 |ext φ=>obtain ⟨_,⟨_,e⟩,_⟩:=x;exact Heap.lt_size e
theorem Paired.mapP{α β:Type}{F G:α->β->Prop}:∀ {l₁:List α} {l₂:List β},Paired F l₁ l₂->(∀ a b,F a b->G a b)->Paired G l₁ l₂
 |_,_,.nil,_=>.nil
 |_,_,.cons r t,f=>.cons (f _ _ r) (Paired.mapP t f)
theorem ObjOk.stay(x:ObjOk P w H h a o)(k:∀ b u,(b=a\/H b=some (.own a))->h.get? b=some u->h'.get? b=some u)
    (ho:∀ b,H b=some (.own a)->H' b=some (.own a)) (ht:∀ b xs,H b=some (.tup xs)->H' b=some (.tup xs)):ObjOk P w H' h' a o:=by
 induction o with
 |lst xs=>obtain ⟨z,its,n,r,e⟩:=x;exact ⟨z,its,n,r,k _ _ (.inl rfl) e⟩
 |tup xs=>obtain ⟨z,its,r,ob,e,c⟩:=x;exact ⟨z,its,r,ob,k _ _ (.inl rfl) e,c⟩
 |dK kvs=>obtain ⟨z,y,vs,r,ob,es,ep,e,c⟩:=x;exact ⟨z,y,vs,r,ob,es,ep,k _ _ (.inl rfl) e,c⟩
 |dT kvs=>
  obtain ⟨z,y,xs,r,ob,es,ep,e,c⟩:=x;exact ⟨z,y,xs,Paired.mapP r fun p q z=>⟨z.1,ht _ _ z.2.1,z.2.2⟩,ob,es,ep,k _ _ (.inl rfl) e,c⟩
 |set S n=>obtain ⟨ob,es,ep,t,e,c⟩:=x;exact ⟨ob,es,ep,t,k _ _ (.inl rfl) e,c⟩
 |ins C dx fs=>
  obtain ⟨d,z,ne,e,mA,⟨od,es,ep,e2,c⟩,r⟩:=x;exact ⟨ho _ d,z,ne,k _ _ (.inl rfl) e,mA,⟨od,es,ep,k _ _ (.inr d) e2,c⟩,r⟩
 |own y=>obtain ⟨ob,e⟩:=x;exact ⟨ob,k _ _ (.inl rfl) e⟩
 |xd fs=>obtain ⟨mA,⟨od,es,ep,e,c⟩,r⟩:=x;exact ⟨mA,⟨od,es,ep,k _ _ (.inl rfl) e,c⟩,r⟩
 |rng lo hi=>obtain ⟨t,u,v,e⟩:=x;exact ⟨t,u,v,k _ _ (.inl rfl) e⟩
 |frz ob u ih=>obtain ⟨e,q⟩:=x;exact ⟨k _ _ (.inl rfl) e,ih q⟩
 |tbl ps=>
  have e:h.get? a=some { cls:=.none,data:=.fields ps }:=x;show h'.get? a=some { cls:=.none,data:=.fields ps };exact k a _ (.inl rfl) e
 |met f y=>
  have e:h.get? a=some (PySem.W.methodObj (.ref f) (.ref y)):=x;show h'.get? a=some (PySem.W.methodObj (.ref f) (.ref y));exact k a _ (.inl rfl) e
 |ext φ=>obtain ⟨p,⟨o,e⟩,st⟩:=x;exact ⟨st _ _ p fun o q=>k _ _ (.inl rfl) q,⟨o,k _ _ (.inl rfl) e⟩,st⟩
theorem HOk.lt(x:HOk P w H h)(e:H a=some o):a<h.objs.size:=(x a o e).lt
theorem HOk.fresh(x:HOk P w H h)(e:h.objs.size<=a):H a=none:=by
 cases q:H a with
 |none=>rfl
 |some u=>exact absurd (Nat.lt_of_lt_of_le (x.lt q) e) (Nat.lt_irrefl _)
theorem HOk.kept(x:HOk P w H h)(k:∀ b u,h.get? b=some u->h'.get? b=some u):HOk P w H h':=fun a o e=>
 (x a o e).stay (fun b u _ q=>k b u q) (fun _ q=>q) fun _ _ q=>q
theorem HOk.laid(x:HOk P w H h)(k:∀ b u,h.get? b=some u->h'.get? b=some u)(hp:h.objs.size<=a)(new:ObjOk P w (upd H a o) h' a o):HOk P w (upd H a o) h':=fun b u e=>by
 have hn:=x.fresh hp;by_cases hb:b=a
 ·subst hb;rw[bc] at e;cases e;exact new
 ·rw[aD hb] at e
  exact (x b u e).stay (fun c v _ q=>k c v q) (fun c q=>by rw[aD (aY q hn)];exact q) fun c xs q=>by rw[aD (aY q hn)];exact q
end
def Rd(H:Hp)(a:Addr)(u:HO):Prop:=H a=some u\/∃ o,H a=some (.frz o u)
theorem Rd.ok{P:Program}{w:World}{H:Hp}{h:Heap}{a:Addr}{u:HO}(r:Rd H a u)(x:HOk P w H h):ObjOk P w H h a u:=by
 rcases r with r | ⟨o,r⟩
 ·exact x a u r
 ·obtain ⟨_,q⟩:=x a _ r
  exact q
def Mut:Option HO->Prop
 |some (.lst _)=>True
 |some (.dK _)=>True
 |some (.dT _)=>True
 |some (.set _ _)=>True
 |some (.ins _ _ _)=>True
 |some (.ext _)=>True
 |_=>False
section
variable {P:Program}{w:World}{H:Hp}{h h':Heap}{x e:Addr}{o':HO}
theorem HOk.write(ok:HOk P w H h)(mu:Mut (H x))(he:e=x\/H e=some (.own x))(k:∀ b u,b≠e->h.get? b=some u->h'.get? b=some u)(heo:∃ u,h'.get? e=some u)
    (new:ObjOk P w (upd H x o') h' x o'):HOk P w (upd H x o') h':=fun b u q=>by
 have nown:∀ c y,H c=some (.own y)->c≠x:=fun c y r z=>by subst z;rw[r] at mu;exact mu
 have ntup:∀ c xs,H c=some (.tup xs)->c≠x:=fun c xs r z=>by subst z;rw[r] at mu;exact mu
 by_cases hb:b=x
 ·subst hb;rw[bc] at q;cases q;exact new
 ·rw[aD hb] at q
  by_cases hbe:b=e
  ·have q':H b=some (.own x):=by
      rcases he with z | z
      ·exact absurd (hbe.trans z) hb
      ·rw[hbe];exact z
   rw[q] at q';cases q';obtain ⟨v,hv⟩:=heo;exact ⟨v,by rw[hbe];exact hv⟩
  ·refine (ok b u q).stay (fun c v hc r=>k c v ?_ r) (fun c r=>by rw[aD (nown c b r)];exact r) fun c xs r=>by rw[aD (ntup c xs r)];exact r
   rcases hc with rfl | hc
   ·exact hbe
   ·rintro rfl
    rcases he with z | z
    ·exact nown c b hc z
    ·rw[hc] at z;cases z;exact hb rfl
end
structure Un (fs ex:List Addr) (H H':Hp) (h h':Heap):Prop where
 keep:∀ b o,h.get? b=some o->H b=none->b∉fs->b∉ex->h'.get? b=some o
 slot:∀ b o,h.get? b=some o->H b=none->b∈fs->b∉ex->∃ sl,h'.get? b=some { o with slots:=sl }
 free:∀ b o,h.get? b=some o->H b=none->b∉ex->H' b=none
 there:∀ b o,h.get? b=some o->b∉ex->∃ o',h'.get? b=some o'
 tups:∀ b xs,H b=some (.tup xs)->H' b=some (.tup xs)
 frzs:∀ b o u,H b=some (.frz o u)->H' b=some (.frz o u)
 tbls:∀ b ps,H b=some (.tbl ps)->∃ more,H' b=some (.tbl (ps++more))
section
variable {fs fs' ex ex':List Addr}{H H1 H2:Hp}{h h1 h2 h':Heap}{a x e:Addr}{o:HO}
theorem Un.any(u:Un fs ex H H1 h h1){b:Addr}{ob:Obj}(q:h.get? b=some ob)(n:H b=none)(hx:b∉ex):∃ sl,h1.get? b=some { ob with slots:=sl }:=by
 by_cases hb:b∈fs
 ·exact u.slot b ob q n hb hx
 ·exact ⟨ob.slots,u.keep b ob q n hb hx⟩
theorem Un.trans(a:Un fs ex H H1 h h1)(b:Un fs ex H1 H2 h1 h2):Un fs ex H H2 h h2 where
 keep:=fun c ob q n hc hx=>b.keep c ob (a.keep c ob q n hc hx) (a.free c ob q n hx) hc hx
 slot:=fun c ob q n hc hx=>by
  obtain ⟨sl,e1⟩:=a.slot c ob q n hc hx;obtain ⟨sl',e2⟩:=b.slot c _ e1 (a.free c ob q n hx) hc hx;exact ⟨sl',e2⟩
 free:=fun c ob q n hx=>by
  obtain ⟨o',e1⟩:=a.there c ob q hx;exact b.free c o' e1 (a.free c ob q n hx) hx
 there:=fun c ob q hx=>by
  obtain ⟨o',e1⟩:=a.there c ob q hx;exact b.there c o' e1 hx
 tups:=fun c xs q=>b.tups c xs (a.tups c xs q);frzs:=fun c ob xs q=>b.frzs c ob xs (a.frzs c ob xs q);tbls:=fun c ps q=>by
  obtain ⟨m1,e1⟩:=a.tbls c ps q;obtain ⟨m2,e2⟩:=b.tbls c _ e1;exact ⟨m1++m2,by rw[e2,Array.append_assoc]⟩
theorem Un.kept(k:∀ b u,h.get? b=some u->h'.get? b=some u):Un fs ex H H h h':=
 ⟨fun b ob q _ _ _=>k b ob q,fun b ob q _ _ _=>⟨ob.slots,k b ob q⟩,fun _ _ _ n _=>n,fun b ob q _=>⟨ob,k b ob q⟩,fun _ _ q=>q,fun _ _ _ q=>q,fun _ ps q=>⟨#[],by rw[q];simp⟩⟩
theorem Un.refl:Un fs ex H H h h:=Un.kept fun _ _ q=>q
theorem Un.laid(k:∀ b u,h.get? b=some u->h'.get? b=some u)(hp:h.objs.size<=a)(hn:H a=none):Un fs ex H (upd H a o) h h' where
 keep:=fun b u q _ _ _=>k b u q
 slot:=fun b u q _ _ _=>⟨u.slots,k b u q⟩
 free:=fun b u q n _=>by rw[aD (Nat.ne_of_lt (Nat.lt_of_lt_of_le (Heap.lt_size q) hp))];exact n
 there:=fun b u q _=>⟨u,k b u q⟩
 tups:=fun b xs q=>by rw[aD (aY q hn)];exact q
 frzs:=fun b u xs q=>by rw[aD (aY q hn)];exact q
 tbls:=fun b ps q=>⟨#[],by rw[aD (aY q hn),q];simp⟩
theorem Un.write(mu:Mut (H x))(he:e=x\/H e=some (.own x))(k:∀ b u,b≠e->h.get? b=some u->h'.get? b=some u)(heo:∃ u,h'.get? e=some u):Un fs ex H (upd H x o) h h':=by
 have hx:∀ b,H b=none->b≠x:=fun b n z=>by subst z;rw[n] at mu;exact mu
 have hb:∀ b,H b=none->b≠e:=fun b n z=>by
  subst z;rcases he with r | r
  ·exact hx b n r
  ·rw[n] at r;cases r
 have hm:∀ b u,H b=some u->¬ Mut (some u)->b≠x:=fun b u q nm z=>by subst z;rw[q] at mu;exact nm mu
 refine ⟨fun b u q n _ _=>k b u (hb b n) q,fun b u q n _ _=>⟨u.slots,k b u (hb b n) q⟩,fun b u q n _=>by rw[aD (hx b n)];exact n,fun b u q _=>?_,
  fun b xs q=>by rw[aD (hm b _ q fun z=>z)];exact q,fun b u xs q=>by rw[aD (hm b _ q fun z=>z)];exact q,fun b ps q=>⟨#[],by rw[aD (hm b _ q fun z=>z),q];simp⟩⟩
 by_cases hbe:b=e
 ·subst hbe;exact heo
 ·exact ⟨u,k b u hbe q⟩
end
def trk(h:Heap)(H:Hp):List Addr:=(List.range h.objs.size).filter fun a=>(H a).isSome
def eW(h:Heap)(H:Hp):Heap:=PySem.W.hideAll h (trk h H)
theorem nH(h:Heap)(H:Hp):(eW h H).objs.size=h.objs.size:=PySem.W.hideAll_size _ _
theorem pi{h:Heap}{H:Hp}{b:Addr}{o:Obj}(e:h.get? b=some o)(n:H b=none):(eW h H).get? b=some o:=
 PySem.W.hideAll_get _ e fun hm=>by
  have q:(H b).isSome=true:=(List.mem_filter.mp hm).2;rw[n] at q;simp at q
theorem qM{h:Heap}{H:Hp}{b:Addr}{o:Obj}(e:(eW h H).get? b=some o):h.get? b=some o/\H b=none:=by
 have e':h.get? b=some o:=PySem.W.of_hideAll (trk h H) e;refine ⟨e',?_⟩
 cases q:H b with
 |none=>rfl
 |some x=>
  have hm:b∈trk h H:=List.mem_filter.mpr ⟨List.mem_range.mpr (Heap.lt_size e'),by simp[q]⟩;have z:(eW h H).get? b=none:=PySem.W.hideAll_none (trk h H) hm;rw[z] at e;cases e
def qN(g h:Heap)(L:Addr):List (Addr × Obj):=(List.range h.objs.size).filterMap fun a=>if a=L\/(g.get? a).isSome=true then none else (h.get? a).map fun o=>(a,o)
def rest(g h:Heap)(L d:Addr):List (Addr × Obj):=(qN g h L).filter fun p=>decide (p.1≠d)
structure Mod (K:PySem.W.Frag) (mg:Str->Option Value) (base:Heap):Prop where
 kin:K.In base
 glob:base.Ns mainGlobals mg
 blt:∃ mb,base.Ns builtinsNs mb/\∀ x:Str,x ≠ "__name__" -> mb x=bootBuiltins x
 nolimit:base.NoLimit
structure Cx where
 prog:Program
 w:World
 K:PySem.W.Frag
 mg:Str->Option Value
 base:Heap
 A:Around
 N:List Str
 s₀:Shared
 H₀:Hp
 env:Env
 outer:List Env
 stack:List Env
 ex:List Addr
 fn:Str->Bool
 calm:Bool
 pn:List (Addr × Obj)
 xe:Value->Shared->Prop
def frs(l:List Env):List Addr:=l.filterMap (·.frame)
abbrev Cx.fs(X:Cx):List Addr:=frs X.outer
def Vis(sc:Scope)(x:Str):Prop:=sc.names.lookup x=some .local\/sc.names.lookup x=some .cell\/sc.names.lookup x=some .free
def Loc(sc:Scope)(x:Str):Prop:=sc.names.lookup x=some .local\/sc.names.lookup x=some .cell
def vF(env:Env)(h:Heap)(m:Str->Option Value)(x:Str)(u:Value):Prop:=
 (env.kindOf x=some .local/\m x=some u)\/((env.kindOf x=some .cell\/env.kindOf x=some .free)/\∃ c,env.cells.lookup x=some c/\h.IsCell c (some u))
structure Cx.Ok (X:Cx):Prop where
 mod:Mod X.K X.mg X.base
 kind:X.env.scope.kind=.function
 glob:X.env.globals=mainGlobals
 blt:X.env.builtins=builtinsNs
 above:X.s₀.heap.objs.size<=X.env.locals
 inj:∀ x y c,X.env.cells.lookup x=some c->X.env.cells.lookup y=some c->x=y
 has:∀ x,(X.env.kindOf x=some .cell\/X.env.kindOf x=some .free)->∃ c,X.env.cells.lookup x=some c
 cab:∀ x c,X.fn x=true->X.env.cells.lookup x=some c->X.s₀.heap.objs.size<=c
 hd:X.calm=true->X.A.handled=none
 frames:X.A.frames=some X.stack
 stk:X.stack=X.outer\/(X.stack=X.env::X.outer/\X.env.frame=some X.env.locals)
 exf:∀ b∈X.ex,b≠X.env.locals/\∀ x c,X.env.cells.lookup x=some c->c≠b
 bs:∀ b o,X.base.get? b=some o->X.s₀.heap.get? b=some o/\X.H₀ b=none
 bsz:X.base.objs.size<=X.s₀.heap.objs.size
 noex:∀ b o,X.base.get? b=some o->b∉X.ex
 exfs:∀ b∈X.ex,b∉X.fs
 funs:X.s₀.heap.FunFrames X.base X.outer
 frf:∀ b∈X.fs,X.H₀ b=none
structure Inv (X:Cx) (pins:List (Addr × Obj)) (σ:List (Option V)) (H:Hp) (s:Shared):Prop where
 ok:X.Ok
 os:s.os=X.s₀.os
 bare:AllBare s.gens
 base:Un X.fs X.ex X.H₀ H X.s₀.heap s.heap
 loc:∃ m,s.heap.Ns X.env.locals m/\∀ (i:Nat) (x:Str) (v:V),X.N[i]?=some x->σ[i]?=some (some v)->Vis X.env.scope x->∃ u,RelV v u/\vF X.env s.heap m x u
 cell:∀ x c,X.env.cells.lookup x=some c->∃ v,s.heap.IsCell c v
 free:H X.env.locals=none
 freeC:∀ x c,X.env.cells.lookup x=some c->H c=none
 pin:∀ p∈X.pn++pins,s.heap.get? p.1=some p.2/\H p.1=none/\p.1≠X.env.locals/\p.1∉X.fs/\∀ v,p.2.data≠.cell v
 hok:HOk X.prog X.w H s.heap
 len:σ.length=X.N.length
section
variable {X:Cx}{pins:List (Addr × Obj)}{σ:List (Option V)}{H H':Hp}{s:Shared}{h':Heap}
theorem Cx.Ok.nofr(ok:X.Ok){b:Addr}{o:Obj}(e:X.base.get? b=some o):b∉X.fs:=fun hb=>by
 have:=(ok.funs.mem hb).1;rw[e] at this;cases this
theorem Inv.bs(I:Inv X pins σ H s):∀ b o,X.base.get? b=some o->s.heap.get? b=some o/\H b=none:=fun b o e=>
 ⟨I.base.keep b o (I.ok.bs b o e).1 (I.ok.bs b o e).2 (I.ok.nofr e) (I.ok.noex b o e),I.base.free b o (I.ok.bs b o e).1 (I.ok.bs b o e).2 (I.ok.noex b o e)⟩
theorem Inv.bk(I:Inv X pins σ H s):∀ b o,X.base.get? b=some o->s.heap.get? b=some o:=fun b o e=>(I.bs b o e).1
theorem Inv.mod(I:Inv X pins σ H s):Mod X.K X.mg X.base:=I.ok.mod
theorem Inv.kIn(I:Inv X pins σ H s):X.K.In s.heap:=I.ok.mod.kin.keeps I.bk
theorem Inv.lt(I:Inv X pins σ H s):X.env.locals<s.heap.objs.size:=let ⟨_,hn,_⟩:=I.loc;hn.lt
theorem Inv.sz(I:Inv X pins σ H s):X.s₀.heap.objs.size<=s.heap.objs.size:=Nat.le_trans I.ok.above (Nat.le_of_lt I.lt)
theorem Inv.nofs(I:Inv X pins σ H s){a:Addr}(h:s.heap.objs.size<=a):a∉X.fs:=fun hb=>by
 obtain ⟨_,o,ho,_⟩:=I.ok.funs.mem hb;exact absurd (Nat.lt_of_lt_of_le (Heap.lt_size ho) (Nat.le_trans I.sz h)) (Nat.lt_irrefl _)
theorem Inv.cne(I:Inv X pins σ H s):∀ x c,X.env.cells.lookup x=some c->c≠X.env.locals:=fun x c e z=>by
 obtain ⟨v,o,ho,hd⟩:=I.cell x c e;obtain ⟨m,⟨o',es,ep,ho',hd',_⟩,_⟩:=I.loc;rw[z,ho'] at ho;cases ho;rw[hd'] at hd;cases hd
theorem Inv.funs(I:Inv X pins σ H s):s.heap.FunFrames X.base X.outer:=by
 have all:∀ (l:List Env),(∀ b∈frs l,b∈X.fs)->X.s₀.heap.FunFrames X.base l->s.heap.FunFrames X.base l:=by
  intro l;induction l with
  |nil=>intro _ _;trivial
  |cons env r ih=>
   intro hs hl;obtain ⟨hk,⟨L,o,hf,hn,ho,hd⟩,hr⟩:=hl;have hL:L∈X.fs:=hs L (by unfold frs;rw[List.filterMap_cons,hf];exact List.mem_cons_self);obtain ⟨sl,e⟩:=I.base.slot L o ho (I.ok.frf L hL) hL fun z=>I.ok.exfs L z hL;exact ⟨hk,⟨L,_,hf,hn,e,hd⟩,ih (fun b hb=>hs b (by unfold frs;rw[List.filterMap_cons,hf];exact List.mem_cons_of_mem _ hb)) hr⟩
 exact all X.outer (fun _ hb=>hb) I.ok.funs
theorem Inv.stack(I:Inv X pins σ H s):s.heap.FunFrames X.base X.stack:=by
 rcases I.ok.stk with e | ⟨e,hf⟩
 ·rw[e];exact I.funs
 ·rw[e]
  obtain ⟨m,hn,_⟩:=I.loc;refine .cons (by rw[I.ok.kind];decide) hf hn ?_ I.funs;exact Heap.get?_none_of_le (Nat.le_trans I.ok.bsz I.ok.above)
theorem Inv.stkSub(I:Inv X pins σ H s):∀ b∈frs X.stack,b∈X.env.locals::X.fs:=fun b hb=>by
 rcases I.ok.stk with e | ⟨e,hf⟩
 ·rw[e] at hb;exact List.mem_cons_of_mem _ hb
 ·rw[e] at hb
  unfold frs at hb;rw[List.filterMap_cons,hf] at hb;exact hb
theorem Inv.stkFree(I:Inv X pins σ H s):∀ b∈frs X.stack,H b=none:=fun b hb=>by
 rcases List.mem_cons.mp (I.stkSub b hb) with e | hb
 ·rw[e];exact I.free
 ·obtain ⟨_,o,ho,_⟩:=I.ok.funs.mem hb
  exact I.base.free b o ho (I.ok.frf b hb) fun z=>I.ok.exfs b z hb
theorem Inv.step{g':Array GenState}{t':Nat}{d':Drawn}{ch:List Addr}(I:Inv X pins σ H s)
    (hch:∀ b∈ch,(b∈X.ex\/X.s₀.heap.objs.size<=b)/\b≠X.env.locals/\(∀ x c,X.env.cells.lookup x=some c->c≠b)/\∀ p∈X.pn++pins,p.1≠b)
    (keep:∀ b o,b≠X.env.locals->b∉X.fs->b∉ch->s.heap.get? b=some o->H b=none->h'.get? b=some o)
    (slot:∀ b o,b≠X.env.locals->b∈X.fs->b∉ch->s.heap.get? b=some o->H b=none->∃ sl,h'.get? b=some { o with slots:=sl }) (free:∀ b o,b∉ch->s.heap.get? b=some o->H b=none->H' b=none)
    (there:∀ b o,b∉ch->s.heap.get? b=some o->∃ o',h'.get? b=some o')
    (tups:∀ b xs,H b=some (.tup xs)->H' b=some (.tup xs)) (frzs:∀ b o u,H b=some (.frz o u)->H' b=some (.frz o u)) (tbls:∀ b ps,H b=some (.tbl ps)->∃ more,H' b=some (.tbl (ps++more)))
    (ns:∀ m,s.heap.Ns X.env.locals m->h'.Ns X.env.locals m) (hok:HOk X.prog X.w H' h') (hg:AllBare g') :
    Inv X pins σ H' { s with heap:=h',gens:=g',drawn:=d',toks:=t' }:=by
 have neL:∀ b o,X.s₀.heap.get? b=some o->b≠X.env.locals:=fun b o e=>Nat.ne_of_lt (Nat.lt_of_lt_of_le (Heap.lt_size e) I.ok.above);have neC:∀ b o,X.s₀.heap.get? b=some o->b∉X.ex->b∉ch:=fun b o e hx hb=>by
  rcases (hch b hb).1 with z | z
  ·exact hx z
  ·exact absurd (Nat.lt_of_lt_of_le (Heap.lt_size e) z) (Nat.lt_irrefl _)
 have cellK:∀ x c,X.env.cells.lookup x=some c->∀ v,s.heap.IsCell c v->h'.IsCell c v:=fun x c e v ⟨o,ho,hd⟩=>by
  have nch:c∉ch:=fun z=>(hch c z).2.2.1 x c e rfl;by_cases hc:c∈X.fs
  ·obtain ⟨sl,q⟩:=slot c o (I.cne x c e) hc nch ho (I.freeC x c e)
   exact ⟨_,q,hd⟩
  ·exact ⟨o,keep c o (I.cne x c e) hc nch ho (I.freeC x c e),hd⟩
 refine ⟨I.ok,I.os,hg,⟨fun b o e n hb hx=>?_,fun b o e n hb hx=>?_,fun b o e n hx=>?_,fun b o e hx=>?_,fun b xs e=>tups b xs (I.base.tups b xs e),fun b o xs e=>frzs b o xs (I.base.frzs b o xs e),fun b ps e=>?_⟩,?_,fun x c e=>?_,?_,fun x c e=>?_,fun p hp=>?_,hok,I.len⟩
 ·exact keep b o (neL b o e) hb (neC b o e hx) (I.base.keep b o e n hb hx) (I.base.free b o e n hx)
 ·obtain ⟨sl,e1⟩:=I.base.slot b o e n hb hx
  obtain ⟨sl',e2⟩:=slot b _ (neL b o e) hb (neC b o e hx) e1 (I.base.free b o e n hx);exact ⟨sl',e2⟩
 ·obtain ⟨o',e1⟩:=I.base.there b o e hx
  exact free b o' (neC b o e hx) e1 (I.base.free b o e n hx)
 ·obtain ⟨o',e1⟩:=I.base.there b o e hx
  exact there b o' (neC b o e hx) e1
 ·obtain ⟨m1,e1⟩:=I.base.tbls b ps e
  obtain ⟨m2,e2⟩:=tbls b _ e1;exact ⟨m1++m2,by rw[e2,Array.append_assoc]⟩
 ·obtain ⟨m,hn,hl⟩:=I.loc
  refine ⟨m,ns m hn,fun i x v e1 e2 e3=>?_⟩;obtain ⟨u,r,l⟩:=hl i x v e1 e2 e3;refine ⟨u,r,?_⟩;rcases l with l | ⟨k,c,e,z⟩
  ·exact .inl l
  ·exact .inr ⟨k,c,e,cellK x c e _ z⟩
 ·obtain ⟨v,z⟩:=I.cell x c e
  exact ⟨v,cellK x c e v z⟩
 ·obtain ⟨m,⟨o,_,_,ho,_⟩,_⟩:=I.loc
  exact free _ o (fun z=>(hch _ z).2.1 rfl) ho I.free
 ·obtain ⟨v,o,ho,hd⟩:=I.cell x c e
  exact free c o (fun z=>(hch c z).2.2.1 x c e rfl) ho (I.freeC x c e)
 ·obtain ⟨e,n,ne,nf,d⟩:=I.pin p hp
  have nch:p.1∉ch:=fun z=>(hch p.1 z).2.2.2 p hp rfl;exact ⟨keep p.1 p.2 ne nf nch e n,free p.1 p.2 nch e n,ne,nf,d⟩
theorem Inv.un{t':Nat}(I:Inv X pins σ H s)(u:Un X.fs [] H H' s.heap h')(hok:HOk X.prog X.w H' h'):Inv X pins σ H' { s with heap:=h',toks:=t' }:=by
 obtain ⟨m,⟨o,es,ep,ho,r⟩,_⟩:=id I.loc;obtain ⟨sl,hL⟩:=u.any ho I.free (by simp);exact I.step (g':=s.gens) (d':=s.drawn) (ch:=[]) (fun _ z=>nomatch z) (fun b o _ hb _ e n=>u.keep b o e n hb (by simp)) (fun b o _ hb _ e n=>u.slot b o e n hb (by simp)) (fun b o _ e n=>u.free b o e n (by simp)) (fun b o _ e=>u.there b o e (by simp)) u.tups u.frzs u.tbls (fun m' hm=>by
  obtain ⟨o',es',ep',ho',r'⟩:=hm
  rw[ho] at ho';cases ho'
  exact ⟨_,es',ep',hL,r'⟩) hok I.bare
theorem Inv.call{g':Array GenState}{t':Nat}{d':Drawn}{ch:List Addr}(I:Inv X pins σ H s)(u:Un (frs X.stack) ch H H' s.heap h')(hok:HOk X.prog X.w H' h')(hg:AllBare g')
    (hch:∀ b∈ch,(b∈X.ex\/X.s₀.heap.objs.size<=b)/\b≠X.env.locals/\(∀ x c,X.env.cells.lookup x=some c->c≠b)/\∀ p∈X.pn++pins,p.1≠b) :
    Inv X pins σ H' { s with heap:=h',gens:=g',drawn:=d',toks:=t' }:=by
 obtain ⟨m,⟨o,es,ep,ho,r⟩,_⟩:=id I.loc;obtain ⟨sl,hL⟩:=u.any ho I.free fun z=>(hch _ z).2.1 rfl;exact I.step (ch:=ch) hch (fun b o hL hb hc e n=>u.keep b o e n (fun z=>(List.mem_cons.mp (I.stkSub b z)).elim hL hb) hc) (fun b o _ _ hc e n=>u.any e n hc) (fun b o hc e n=>u.free b o e n hc) (fun b o hc e=>u.there b o e hc) u.tups u.frzs u.tbls (fun m' hm=>by
  obtain ⟨o',es',ep',ho',r'⟩:=hm
  rw[ho] at ho';cases ho'
  exact ⟨_,es',ep',hL,r'⟩) hok hg
theorem Inv.turned{t':Nat}{it:Addr}(I:Inv X pins σ H s)(k:∀ b o,b≠it->s.heap.get? b=some o->h'.get? b=some o)(hn:H it=none)(hL:it≠X.env.locals)
    (h1:it∈X.ex\/X.s₀.heap.objs.size<=it) (h2:∀ x c,X.env.cells.lookup x=some c->c≠it) (h3:∀ p∈X.pn++pins,p.1≠it):Inv X pins σ H { s with heap:=h',toks:=t' }:=by
 have nit:∀ b u,H b=some u->b≠it:=fun b u e z=>by rw[z,hn] at e;cases e
 refine I.step (g':=s.gens) (d':=s.drawn) (ch:=[it]) (fun b hb=>?_) (fun b o _ _ hc e _=>k b o (fun z=>hc (by simp[z])) e) (fun b o _ _ hc e _=>⟨o.slots,k b o (fun z=>hc (by simp[z])) e⟩) (fun _ _ _ _ n=>n)
  (fun b o hc e=>⟨o,k b o (fun z=>hc (by simp[z])) e⟩) (fun _ _ e=>e) (fun _ _ _ e=>e) (fun b ps e=>⟨#[],by rw[e];simp⟩) (fun m hm=>?_) (fun b u e=>?_) I.bare
 ·have e:b=it:=by simpa using hb
  subst e;exact ⟨h1,hL,h2,h3⟩
 ·obtain ⟨o,es,ep,ho,r⟩:=hm
  exact ⟨o,es,ep,k _ o (Ne.symm hL) ho,r⟩
 ·refine (I.hok b u e).stay (fun c v hc q=>k c v ?_ q) (fun _ q=>q) fun _ _ q=>q
  rcases hc with z | z
  ·rw[z];exact nit b u e
  ·exact nit c _ z
theorem Inv.tok(I:Inv X pins σ H s)(t:Nat):Inv X pins σ H { s with toks:=t }:=I.un (h':=s.heap) (t':=t) Un.refl I.hok
theorem Inv.kept{t':Nat}(I:Inv X pins σ H s)(k:∀ b u,s.heap.get? b=some u->h'.get? b=some u):Inv X pins σ H { s with heap:=h',toks:=t' }:=I.un (Un.kept k) (I.hok.kept k)
theorem Inv.laid{a:Addr}{o:HO}{t':Nat}(I:Inv X pins σ H s)(k:∀ b u,s.heap.get? b=some u->h'.get? b=some u)(hp:s.heap.objs.size<=a)(new:ObjOk X.prog X.w (upd H a o) h' a o) :
    Inv X pins σ (upd H a o) { s with heap:=h',toks:=t' }:=I.un (Un.laid k hp (I.hok.fresh hp)) (I.hok.laid k hp new)
theorem Inv.write{x e:Addr}{o:HO}{t':Nat}(I:Inv X pins σ H s)(mu:Mut (H x))(he:e=x\/H e=some (.own x))(k:∀ b u,b≠e->s.heap.get? b=some u->h'.get? b=some u)(heo:∃ u,h'.get? e=some u)
    (new:ObjOk X.prog X.w (upd H x o) h' x o):Inv X pins σ (upd H x o) { s with heap:=h',toks:=t' }:=I.un (Un.write mu he k heo) (I.hok.write mu he k heo new)
theorem Inv.pins_of{pins':List (Addr × Obj)}(I:Inv X pins σ H s)(h:∀ p∈pins',s.heap.get? p.1=some p.2/\H p.1=none/\p.1≠X.env.locals/\p.1∉X.fs/\∀ v,p.2.data≠.cell v):Inv X pins' σ H s:=
 ⟨I.ok,I.os,I.bare,I.base,I.loc,I.cell,I.free,I.freeC,fun p hp=>(List.mem_append.mp hp).elim (fun z=>I.pin p (List.mem_append_left _ z)) (h p),I.hok,I.len⟩
theorem k7{N:List Str}(hN:N.Nodup){i j:Nat}{x:Str}(a:N[i]?=some x)(b:N[j]?=some x):i=j:=by
 obtain ⟨h1,e1⟩:=List.getElem?_eq_some_iff.mp a;obtain ⟨h2,e2⟩:=List.getElem?_eq_some_iff.mp b;exact (List.getElem_inj hN).mp (e1.trans e2.symm)
theorem gP{M:Model}{A:Around}{E:Value->Shared->Prop}{i:Nat}{x:Str}{v:V}{u:Value}{Q:Unit->Shared->Prop}(I:Inv X pins σ H s)(hN:X.N.Nodup)(hi:X.N[i]?=some x)(hx:Loc X.env.scope x)(r:RelV v u)
    (h:∀ s',Inv X pins (σ.set i (some v)) H s'->(∃ a,Heap.SameBut a s.heap s'.heap/\(a=X.env.locals\/X.env.cells.lookup x=some a))->Q () s') (hf:X.fn x=true\/X.env.scope.names.lookup x=some .local:=by first | exact .inl rfl | exact .inr rfl | assumption):wpAny M A (storeName X.env x u) Q E s:=by
 obtain ⟨m,hn,hl⟩:=id I.loc;have hcls:(X.env.scope.kind == .class||(X.env.scope.kind == .module&&X.env.locals != X.env.globals))=false:=by rw[I.ok.kind];rfl
 have hiσ:i<σ.length:=by rw[I.len];exact (List.getElem?_eq_some_iff.mp hi).1
 have cne:=I.cne;have tracked:∀ {a:Addr} {h':Heap},(∃ o,s.heap.get? a=some o/\H a=none)->Heap.SameBut a s.heap h'->HOk X.prog X.w H h':=fun {a h'} ha hs b ob e=>by
  obtain ⟨_,_,hfree⟩:=ha;refine (I.hok b ob e).stay (fun c w' hc q=>(hs.2 c ?_).trans q) (fun _ q=>q) fun _ _ q=>q;rintro rfl;rcases hc with rfl | hc
  ·rw[hfree] at e;cases e
  ·rw[hfree] at hc;cases hc
 rcases hx with hk | hk
 ·refine wpAny_storeName_local hk hn (fun h' hn' hs=>?_) hcls
  obtain ⟨oL,_,_,hoL,_⟩:=id hn;refine h _ ⟨I.ok,I.os,I.bare,⟨fun b o e n hb hx=>?_,fun b o e n hb hx=>?_,I.base.free,fun b o e hx=>?_,I.base.tups,I.base.frzs,I.base.tbls⟩,⟨_,hn',fun j y v' e1 e2 e3=>?_⟩,fun y c e=>?_,I.free,I.freeC,fun p hp=>?_,tracked ⟨oL,hoL,I.free⟩ hs,by simpa using I.len⟩ ⟨_,hs,.inl rfl⟩
  ·exact (hs.2 b (Nat.ne_of_lt (Nat.lt_of_lt_of_le (Heap.lt_size e) I.ok.above))).trans (I.base.keep b o e n hb hx)
  ·obtain ⟨sl,e1⟩:=I.base.slot b o e n hb hx
   exact ⟨sl,(hs.2 b (Nat.ne_of_lt (Nat.lt_of_lt_of_le (Heap.lt_size e) I.ok.above))).trans e1⟩
  ·obtain ⟨o',e1⟩:=I.base.there b o e hx
   exact ⟨o',(hs.2 b (Nat.ne_of_lt (Nat.lt_of_lt_of_le (Heap.lt_size e) I.ok.above))).trans e1⟩
  ·by_cases hj:j=i
   ·subst hj
    rw[hi] at e1;cases e1;rw[List.getElem?_set_self hiσ] at e2
    cases e2
    exact ⟨u,r,.inl ⟨hk,by simp⟩⟩
   ·rw[List.getElem?_set_ne (Ne.symm hj)] at e2
    obtain ⟨u',r',q⟩:=hl j y v' e1 e2 e3;refine ⟨u',r',?_⟩;rcases q with ⟨k,e⟩ | ⟨k,c,e,z⟩
    ·refine .inl ⟨k,?_⟩
     have:y≠x:=fun e=>hj (k7 hN e1 (e ▸ hi));simp[this,e]
    ·exact .inr ⟨k,c,e,z.sameBut hs (cne y c e)⟩
  ·obtain ⟨w',z⟩:=I.cell y c e
   exact ⟨w',z.sameBut hs (cne y c e)⟩
  ·obtain ⟨e,n,ne,nf,d⟩:=I.pin p hp
   exact ⟨(hs.2 p.1 ne).trans e,n,ne,nf,d⟩
 ·have hfn:X.fn x=true:=by
     rcases hf with z | z
     ·exact z
     ·rw[z] at hk;cases hk
  obtain ⟨c,hc⟩:=I.ok.has x (.inl hk);obtain ⟨w',z⟩:=I.cell x c hc;refine wpAny_storeName_cell I.ok.kind hk hc z (fun h' hc' hs=>?_);obtain ⟨oc,hoc,hocd⟩:=id z
  refine h { s with heap:=h' } ⟨I.ok,I.os,I.bare,⟨fun b o e n hb hx=>?_,fun b o e n hb hx=>?_,I.base.free,fun b o e hx=>?_,I.base.tups,I.base.frzs,I.base.tbls⟩,⟨m,hn.sameBut hs (Ne.symm (cne x c hc)),fun j y v' e1 e2 e3=>?_⟩,fun y c' e=>?_,I.free,I.freeC,fun p hp=>?_,tracked ⟨oc,hoc,I.freeC x c hc⟩ hs,by simpa using I.len⟩ ⟨c,hs,.inr hc⟩
  ·exact (hs.2 b (Nat.ne_of_lt (Nat.lt_of_lt_of_le (Heap.lt_size e) (I.ok.cab x c hfn hc)))).trans (I.base.keep b o e n hb hx)
  ·obtain ⟨sl,e1⟩:=I.base.slot b o e n hb hx
   exact ⟨sl,(hs.2 b (Nat.ne_of_lt (Nat.lt_of_lt_of_le (Heap.lt_size e) (I.ok.cab x c hfn hc)))).trans e1⟩
  ·obtain ⟨o',e1⟩:=I.base.there b o e hx
   exact ⟨o',(hs.2 b (Nat.ne_of_lt (Nat.lt_of_lt_of_le (Heap.lt_size e) (I.ok.cab x c hfn hc)))).trans e1⟩
  ·by_cases hj:j=i
   ·subst hj
    rw[hi] at e1;cases e1;rw[List.getElem?_set_self hiσ] at e2
    cases e2
    exact ⟨u,r,.inr ⟨.inl hk,c,hc,hc'⟩⟩
   ·rw[List.getElem?_set_ne (Ne.symm hj)] at e2
    obtain ⟨u',r',q⟩:=hl j y v' e1 e2 e3;refine ⟨u',r',?_⟩;rcases q with q | ⟨k,c',e,z'⟩
    ·exact .inl q
    ·refine .inr ⟨k,c',e,z'.sameBut hs ?_⟩
     rintro rfl;exact hj (k7 hN e1 (I.ok.inj _ _ _ e hc ▸ hi))
  ·by_cases hcc:c'=c
   ·subst hcc;exact ⟨_,hc'⟩
   ·obtain ⟨w2,z2⟩:=I.cell y c' e
    exact ⟨w2,z2.sameBut hs hcc⟩
  ·obtain ⟨e,n,ne,nf,d⟩:=I.pin p hp
   refine ⟨(hs.2 p.1 ?_).trans e,n,ne,nf,d⟩;intro q;rw[q,hoc] at e;have q':oc=p.2:=Option.some.inj e;exact d w' (by rw[<- q'];exact hocd)
theorem eX{M:Model}{A:Around}{E:Value->Shared->Prop}{i:Nat}{x:Str}{v:V}{u:Value}{Q:Unit->Shared->Prop}(I:Inv X pins σ H s)(hN:X.N.Nodup)(hi:X.N[i]?=some x)(hx:Loc X.env.scope x)(r:RelV v u)
    (h:∀ s',Inv X pins (σ.set i (some v)) H s'->Q () s') (hf:X.fn x=true\/X.env.scope.names.lookup x=some .local:=by first | exact .inl rfl | exact .inr rfl | assumption):wpAny M A (storeName X.env x u) Q E s:=
 gP I hN hi hx r (fun s' I' _=>h s' I') hf
theorem Inv.call'{s':Shared}{ch:List Addr}(I:Inv X pins σ H s)(ho:s'.os=s.os)(u:Un (frs X.stack) ch H H' s.heap s'.heap)(hok:HOk X.prog X.w H' s'.heap)(hg:AllBare s'.gens)
    (hch:∀ b∈ch,(b∈X.ex\/X.s₀.heap.objs.size<=b)/\b≠X.env.locals/\(∀ x c,X.env.cells.lookup x=some c->c≠b)/\∀ p∈X.pn++pins,p.1≠b):Inv X pins σ H' s':=by
 obtain ⟨h',g',d',t',o'⟩:=s';have e:o'=s.os:=ho;subst e;exact I.call (g':=g') (t':=t') (d':=d') u hok hg hch
end
abbrev XK:=Value->Option Addr->Hp->Prop
abbrev St:=List (Option V)
abbrev VK:=V->Hp->Prop
abbrev TE:=St->Hp->VK->Prop
abbrev TT:=St->Hp->(Bool->Hp->Prop)->Prop
abbrev TA:=St->Hp->(List V->Hp->Prop)->Prop
structure Ends where
 nx:St->Hp->Prop
 rt:VK
 bk:St->Hp->Prop:=fun _ _=>False
 ct:St->Hp->Prop:=fun _ _=>False
abbrev TS:=Ends->St->Hp->Prop
def EP(X:Cx)(pins:List (Addr × Obj))(σ:St)(Q:VK)(u:Value)(s':Shared):Prop:=∃ v H',Inv X pins σ H' s'/\RelV v u/\Q v H'
def TP(X:Cx)(pins:List (Addr × Obj))(σ:St)(Q:Bool->Hp->Prop)(b:Bool)(s':Shared):Prop:=∃ H',Inv X pins σ H' s'/\Q b H'
def AP(X:Cx)(pins:List (Addr × Obj))(σ:St)(Q:List V->Hp->Prop)(us:List Value)(s':Shared):Prop:=∃ vs H',Inv X pins σ H' s'/\Vals vs us/\Q vs H'
def SP(X:Cx)(pins:List (Addr × Obj))(D:Ends)(f:Flow)(s':Shared):Prop:=
 match f with
 | .next=>∃ σ' H',Inv X pins σ' H' s'/\D.nx σ' H'
 | .brk=>∃ σ' H',Inv X pins σ' H' s'/\D.bk σ' H'
 | .cont=>∃ σ' H',Inv X pins σ' H' s'/\D.ct σ' H'
 | .ret u=>∃ v σ' H',Inv X pins σ' H' s'/\RelV v u/\D.rt v H'
def PE(X:Cx)(e:Expr)(t:TE):Prop:=
 ∀ (pins:List (Addr × Obj)) (s:Shared) (σ:St) (H:Hp) (Q:VK),Inv X pins σ H s->t σ H Q->wpAny (model X.prog X.w) X.A (eval e X.env) (EP X pins σ Q) X.xe s
def PT(X:Cx)(e:Expr)(t:TT):Prop:=
 ∀ (pins:List (Addr × Obj)) (s:Shared) (σ:St) (H:Hp) (Q:Bool->Hp->Prop),Inv X pins σ H s->t σ H Q->wpAny (model X.prog X.w) X.A (isTrue e X.env (eval e X.env)) (TP X pins σ Q) X.xe s
def PW(X:Cx)(e:Expr)(t:TT):Prop:=
 ∀ (whole:Sem Value) (pins:List (Addr × Obj)) (s:Shared) (σ:St) (H:Hp) (Q:Bool->Hp->Prop),Inv X pins σ H s->t σ H Q->wpAny (model X.prog X.w) X.A (isTrue e X.env whole) (TP X pins σ Q) X.xe s
theorem PW.pt{X:Cx}{e:Expr}{t:TT}(h:PW X e t):PT X e t:=h _
def PA(X:Cx)(es:List Expr)(t:TA):Prop:=
 ∀ (pos:Pos) (pins:List (Addr × Obj)) (s:Shared) (σ:St) (H:Hp) (Q:List V->Hp->Prop),Inv X pins σ H s->t σ H Q->wpAny (model X.prog X.w) X.A (spliced (backTo pos (starEach es X.env))) (AP X pins σ Q) X.xe s
def PS(X:Cx)(st:Stmt)(t:TS):Prop:=
 ∀ (pins:List (Addr × Obj)) (s:Shared) (σ:St) (H:Hp) (D:Ends),Inv X pins σ H s->t D σ H->wpAny (model X.prog X.w) X.A (exec st X.env) (SP X pins D) X.xe s
def PSs(X:Cx)(st:List Stmt)(t:TS):Prop:=
 ∀ (pins:List (Addr × Obj)) (s:Shared) (σ:St) (H:Hp) (D:Ends),Inv X pins σ H s->t D σ H->wpAny (model X.prog X.w) X.A (execs st X.env) (SP X pins D) X.xe s
theorem thn{α:Type}{t:Sem α}{Q Q':α->Shared->Prop}{M:Model}{A:Around}{E:Value->Shared->Prop}{s:Shared}(h:wpAny M A t Q E s)(hQ:∀ a s,Q a s->Q' a s):wpAny M A t Q' E s:=wpAny_mono h hQ fun _ _ x=>x
section
variable {X:Cx}
def su(i:Nat):TE:=fun σ H Q=>∃ v,σ[i]?=some (some v)/\Q v H
def tC(v:V):TE:=fun _ H Q=>Q v H
theorem sv{i:Nat}{x:Str}{pos:Pos}(hN:X.N[i]?=some x)(hv:Vis X.env.scope x)(hd:(x == ("__debug__" : Str))=false:=by decide)(hcd:(x == ("__classdict__" : Str))=false:=by decide):PE X (.Name x pos) (su i):=by
 intro pins s σ H Q I h;obtain ⟨v,e,h⟩:=h;obtain ⟨m,hn,hl⟩:=I.loc;obtain ⟨u,r,l⟩:=hl i x v hN e hv;have fin:EP X pins σ Q u s:=⟨v,H,I,r,h⟩
 rcases l with ⟨hk,hm⟩ | ⟨hk,c,hc,hcell⟩
 ·exact wpAny_Name (wpAny_loadName_local I.ok.kind hk hn hm fin) hd
 ·rcases hk with hk | hk
  ·exact wpAny_Name (wpAny_loadName_cell I.ok.kind hk hc hcell fin) hd
  ·exact wpAny_Name (wpAny_loadName_free I.ok.kind hk hc hcell fin hcd) hd
theorem sw{i j pos}:PE X (.Constant (.int i) j pos) (tC (.int i)):=fun _ _ _ H _ I h=>wpAny_Constant_int ⟨.int i,H,I.tok _,⟨_,rfl⟩,h⟩
theorem uI{b j pos}:PE X (.Constant (.bool b) j pos) (tC (.bl b)):=fun _ _ _ H _ I h=>Constant_bool ⟨.bl b,H,I,rfl,h⟩
theorem sx{j pos}:PE X (.Constant .none j pos) (tC .non):=fun _ _ _ H _ I h=>Constant_none ⟨.non,H,I,rfl,h⟩
theorem k8{x j pos}:PE X (.Constant (.str x) j pos) (tC (.str x)):=fun _ _ _ H _ I h=>Calls.Constant_str ⟨.str x,H,I.tok _,⟨_,rfl⟩,h⟩
def Gl(X:Cx)(x:Str):Prop:=X.env.kindOf x=some .globalImplicit
theorem du{E:Value->Shared->Prop}{pins:List (Addr × Obj)}{s:Shared}{σ:St}{H:Hp}{x:Str}{u:Value}{pos:Pos}{Q:Value->Shared->Prop}(I:Inv X pins σ H s)(hg:Gl X x)(hm:X.mg x=some u)(h:Q u s)
    (hd:(x == ("__debug__" : Str))=false:=by decide):wpAny (model X.prog X.w) X.A (eval (.Name x pos) X.env) Q E s:=
 Calls.Name_function_global I.ok.kind hg (Calls.loadGlobal_global (by rw[I.ok.glob];exact I.mod.glob.keeps I.bk) hm h) hd
theorem eY{E:Value->Shared->Prop}{pins:List (Addr × Obj)}{s:Shared}{σ:St}{H:Hp}{x:Str}{u:Value}{pos:Pos}{Q:Value->Shared->Prop}(I:Inv X pins σ H s)(hg:Gl X x)(hm:X.mg x=none)(hv:bootBuiltins x=some u)(h:Q u s)
    (hn:x ≠ "__name__" := by decide) (hd:(x == ("__debug__" : Str))=false:=by decide):wpAny (model X.prog X.w) X.A (eval (.Name x pos) X.env) Q E s:=by
 obtain ⟨mb,h1,h2⟩:=I.mod.blt;exact Calls.Name_function_global I.ok.kind hg (Calls.loadGlobal_builtin (by rw[I.ok.glob];exact I.mod.glob.keeps I.bk) hm (by rw[I.ok.blt];exact h1.keeps I.bk) ((h2 x hn).trans hv) h) hd
theorem eQ{x:Str}{v:V}{u:Value}{pos:Pos}(hg:Gl X x)(hm:X.mg x=some u)(r:RelV v u)(hd:(x == ("__debug__" : Str))=false:=by decide):PE X (.Name x pos) (tC v):=
 fun _ _ _ H _ I h=>du I hg hm ⟨v,H,I,r,h⟩ hd
theorem qO{x:Str}{v:V}{u:Value}{pos:Pos}(hg:Gl X x)(hm:X.mg x=none)(hv:bootBuiltins x=some u)(r:RelV v u)(hn:x ≠ "__name__" := by decide)(hd:(x == ("__debug__" : Str))=false:=by decide):PE X (.Name x pos) (tC v):=
 fun _ _ _ H _ I h=>eY I hg hm hv ⟨v,H,I,r,h⟩ hn hd
variable {a b:Expr}{ta tb:TE}{pos:Pos}
def tB(t:TE):TT:=fun σ H Q=>t σ H fun x H1=>∃ c,x=.bl c/\Q c H1
theorem sy{e:Expr}{t:TE}(h:PE X e t)(he:∀ whole,isTrue e X.env whole=(do let v <- whole;standAt e.pos;holding [v] (truthy v)):=by intro _;rfl):PT X e (tB t):=by
 intro pins s σ H Q I hw;refine isTrue_plain (thn (h pins s σ H _ I hw) fun v s1 ⟨x,H1,I1,r1,q1⟩=>?_) (he _);obtain ⟨d,rfl,q⟩:=q1
 cases r1
 exact wpAny_truthy_bool ⟨H1,I1,q⟩
variable {tA tB':TT}{rest:List Expr}
def vG(t u:TT):TT:=fun σ H Q=>t σ H fun c H1=>if c=true then u σ H1 Q else Q false H1
def tOr(t u:TT):TT:=fun σ H Q=>t σ H fun c H1=>if c=true then Q true H1 else u σ H1 Q
def vH(t:TT):TT:=fun σ H Q=>t σ H fun c H1=>Q (!c) H1
theorem qP(ha:PT X a tA):PW X (.BoolOp .And [a] pos) tA:=by
 intro wh pins s σ H Q I h;refine isTrue_and (thn (ha pins s σ H Q I h) fun c s1 e=>?_)
 cases c with
 |true=>exact isTrue_and_nil e
 |false=>exact e
theorem sA(ha:PT X a tA):PW X (.BoolOp .Or [a] pos) tA:=by
 intro wh pins s σ H Q I h;refine isTrue_or (thn (ha pins s σ H Q I h) fun c s1 e=>?_)
 cases c with
 |false=>exact isTrue_or_nil e
 |true=>exact e
theorem sC(ha:PT X a tA)(hb:PW X (.BoolOp .And (b::rest) pos) tB'):PW X (.BoolOp .And (a::b::rest) pos) (vG tA tB'):=by
 intro wh pins s σ H Q I h;refine isTrue_and (thn (ha pins s σ H _ I h) fun c s1 ⟨H1,I1,q1⟩=>?_)
 cases c with
 |true=>exact hb wh pins s1 σ H1 Q I1 q1
 |false=>exact ⟨H1,I1,q1⟩
theorem uJ(ha:PT X a tA)(hb:PW X (.BoolOp .Or (b::rest) pos) tB'):PW X (.BoolOp .Or (a::b::rest) pos) (tOr tA tB'):=by
 intro wh pins s σ H Q I h;refine isTrue_or (thn (ha pins s σ H _ I h) fun c s1 ⟨H1,I1,q1⟩=>?_)
 cases c with
 |true=>exact ⟨H1,I1,q1⟩
 |false=>exact hb wh pins s1 σ H1 Q I1 q1
theorem sD(ha:PT X a tA):PT X (.UnaryOp .Not a pos) (vH tA):=by
 intro pins s σ H Q I h;exact isTrue_not (ha pins s σ H (fun c H1=>Q (!c) H1) I h)
def uK(ta tb:TE):TE:=fun σ H Q=>ta σ H fun x H1=>∃ c,x=.bl c/\if c=true then tb σ H1 Q else Q (.bl false) H1
theorem sE{op}{t:TE}(h:PE X a t):PE X (.BoolOp op [a] pos) t:=fun pins s σ H Q I hw=>BoolOp_one (h pins s σ H Q I hw)
theorem sF(ha:PE X a ta)(hb:PE X (.BoolOp .And (b::rest) pos) tb):PE X (.BoolOp .And (a::b::rest) pos) (uK ta tb):=by
 intro pins s σ H Q I h;refine BoolOp_and (thn (ha pins s σ H _ I h) fun v s1 ⟨x,H1,I1,r1,q1⟩=>?_);obtain ⟨c,rfl,q1⟩:=q1
 cases r1
 refine wpAny_truthy_bool ?_
 cases c with
 |true=>exact hb pins s1 σ H1 Q I1 q1
 |false=>exact ⟨.bl false,H1,I1,rfl,q1⟩
def tIf(t:TT)(ta tb:TE):TE:=fun σ H Q=>t σ H fun c H1=>if c=true then ta σ H1 Q else tb σ H1 Q
theorem pj{c:Expr}(hc:PT X c tA)(ha:PE X a ta)(hb:PE X b tb):PE X (.IfExp c a b pos) (tIf tA ta tb):=by
 intro pins s σ H Q I h;refine wpAny_IfExp (thn (hc pins s σ H _ I h) fun d s1 ⟨H1,I1,q1⟩=>?_)
 cases d with
 |true=>exact ha pins s1 σ H1 Q I1 q1
 |false=>exact hb pins s1 σ H1 Q I1 q1
end
def SqL(K:PySem.W.Frag)(H:Hp)(a:Addr)(xs:List V):Prop:=
 Rd H a (.lst xs) ∨
  ∃ (o:Obj) (its:Array Value) (n:Nat),K.lookup a=some o/\o.cls=.type "list" /\ o.dict=none/\o.data=.seq its n/\its.size<=sizeLine/\Vals xs its.toList
def SqT(K:PySem.W.Frag)(H:Hp)(a:Addr)(xs:List V):Prop:=
 Rd H a (.tup xs) ∨
  ∃ (o:Obj) (its:Array Value) (n:Nat),K.lookup a=some o/\o.cls=.type "tuple" /\ o.data=.seq its n/\its.size<=sizeLine/\Vals xs its.toList
def vI:Value->Option V
 | .none=>some .non
 | .bool b=>some (.bl b)
 | .int i _=>some (.int i)
 | .str x _=>some (.str x)
 | .bytes b _=>some (.byt b)
 | .float b _=>some (.flt b)
 | .ref a=>some (.ref a)
 | .type n=>some (.ty n)
 |_=>none
theorem RelV.abs{x:V}{u:Value}(r:RelV x u):vI u=some x:=by
 cases x with
 |non=>cases r;rfl
 |bl _=>cases r;rfl
 |int _=>obtain ⟨t,rfl⟩:=r;rfl
 |str _=>obtain ⟨t,rfl⟩:=r;rfl
 |byt _=>obtain ⟨t,rfl⟩:=r;rfl
 |flt _=>obtain ⟨t,rfl⟩:=r;rfl
 |ref _=>cases r;rfl
 |ty _=>cases r;rfl
theorem RelV.inj{x y:V}{u:Value}(r:RelV x u)(q:RelV y u):x=y:=Option.some.inj (r.abs.symm.trans q.abs)
theorem Vals.inj:∀ {xs ys:List V} {us:List Value},Vals xs us->Vals ys us->xs=ys
 |_,_,_,.nil,.nil=>rfl
 |_,_,_,.cons r t,.cons r' t'=>by rw[r.inj r',Vals.inj t t']
section
variable {X:Cx}{pins:List (Addr × Obj)}{σ:St}{H:Hp}{s:Shared}{a:Addr}{xs ys:List V}
theorem SqL.of{K:PySem.W.Frag}(h:H a=some (.lst xs)):SqL K H a xs:=.inl (.inl h)
theorem SqT.of{K:PySem.W.Frag}(h:H a=some (.tup xs)):SqT K H a xs:=.inl (.inl h)
theorem Inv.list(I:Inv X pins σ H s)(h:SqL X.K H a xs):∃ its:List Value,Vals xs its/\PlainL s.heap a its.toArray/\xs.length<=sizeLine:=by
 rcases h with h | ⟨o,its,n,hk,hc,hd,hs,hz,r⟩
 ·obtain ⟨z,its,n,r,e⟩:=h.ok I.hok
  exact ⟨its,r,⟨_,n,e,rfl,rfl,rfl⟩,z⟩
 ·refine ⟨its.toList,r,⟨o,n,I.kIn a o hk,hc,hd,by simpa using hs⟩,?_⟩
  have e:=r.length;simp only[Array.length_toList] at e;omega
theorem Inv.tuple(I:Inv X pins σ H s)(h:SqT X.K H a xs):∃ its:List Value,Vals xs its/\IsTup s.heap a its.toArray/\xs.length<=sizeLine:=by
 rcases h with h | ⟨o,its,n,hk,hc,hs,hz,r⟩
 ·obtain ⟨z,its,r,p⟩:=h.ok I.hok
  exact ⟨its,r,p,z⟩
 ·refine ⟨its.toList,r,⟨o,I.kIn a o hk,hc,n,by simpa using hs⟩,?_⟩
  have e:=r.length;simp only[Array.length_toList] at e;omega
theorem Inv.list_inj(I:Inv X pins σ H s)(h:SqL X.K H a xs)(h':SqL X.K H a ys):xs=ys:=by
 obtain ⟨its,r,⟨o,n,e,_,_,d⟩,_⟩:=I.list h;obtain ⟨its',r',⟨o',n',e',_,_,d'⟩,_⟩:=I.list h';rw[e] at e';cases e';rw[d] at d';injection d' with d1 _;have:its=its':=by simpa using congrArg Array.toList d1
 subst this;exact r.inj r'
theorem Inv.tuple_inj(I:Inv X pins σ H s)(h:SqT X.K H a xs)(h':SqT X.K H a ys):xs=ys:=by
 obtain ⟨its,r,⟨o,e,_,n,d⟩,_⟩:=I.tuple h;obtain ⟨its',r',⟨o',e',_,n',d'⟩,_⟩:=I.tuple h';rw[e] at e';cases e';rw[d] at d';injection d' with d1 _;have:its=its':=by simpa using congrArg Array.toList d1
 subst this;exact r.inj r'
end
section
variable {X:Cx}{pins:List (Addr × Obj)}{σ:St}{H:Hp}{s:Shared}{E:Value->Shared->Prop}
end
section
variable {X:Cx}{st:Stmt}{rest:List Stmt}{t u:TS}{e:Expr}{te:TE}{pos:Pos}
def uL:TS:=fun D σ H=>D.nx σ H
def sG(t u:TS):TS:=fun D σ H=>t { D with nx:=u D } σ H
theorem qQ:PSs X [] uL:=fun _ _ σ H _ I h=>wpAny_execs_nil ⟨σ,H,I,h⟩
theorem pk(h1:PS X st t)(h2:PSs X rest u):PSs X (st::rest) (sG t u):=by
 intro pins s σ H D I h;refine wpAny_execs_cons (thn (h1 pins s σ H { D with nx:=u D } I h) fun f s1 q=>?_)
 cases f with
 |next=>
  obtain ⟨σ',H',I',q⟩:=q;exact h2 pins s1 σ' H' D I' q
 |ret v=>exact q
 |brk=>exact q
 |cont=>exact q
theorem qR(h1:PS X st t):PSs X [st] t:=by
 intro pins s σ H D I h;refine wpAny_execs_cons (thn (h1 pins s σ H D I h) fun f s1 q=>?_)
 cases f with
 |next=>exact wpAny_execs_nil q
 |ret v=>exact q
 |brk=>exact q
 |cont=>exact q
theorem Inv.quiet{pins:List (Addr × Obj)}{σ:St}{H:Hp}{s:Shared}(I:Inv X pins σ H s):interactive X.env=false:=by simp[interactive,I.ok.kind]
def uM(te:TE):TS:=fun D σ H=>te σ H fun _ H1=>D.nx σ H1
theorem jU(he:PE X e te)(hs:swapsWith e none pos.line X.env=pure false:=by rfl):PS X (.Expr e pos) (uM te):=by
 intro pins s σ H D I h;exact wpAny_Expr_any (thn (he pins s σ H _ I h) fun v s1 ⟨x,H1,I1,r1,q1⟩=>⟨σ,H1,I1,q1⟩) I.quiet hs
def vJ(te:TE):TS:=fun D σ H=>te σ H D.rt
theorem nI(he:PE X e te):PS X (.Return (some e) pos) (vJ te):=by
 intro pins s σ H D I h;exact wpAny_Return_some (thn (he pins s σ H _ I h) fun v s1 ⟨x,H1,I1,r1,q1⟩=>⟨x,σ,H1,I1,r1,q1⟩)
def vK(c:TT)(t u:TS):TS:=fun D σ H=>c σ H fun b H1=>if b=true then t D σ H1 else u D σ H1
theorem uN{c:Expr}{a b:List Stmt}{tc:TT}(hc:PT X c tc)(ha:PSs X a t)(hb:PSs X b u):PS X (.If c a b pos) (vK tc t u):=by
 intro pins s σ H D I h;refine wpAny_If (thn (hc pins s σ H _ I h) fun d s1 ⟨H1,I1,q1⟩=>?_)
 cases d with
 |true=>exact ha pins s1 σ H1 D I1 q1
 |false=>exact hb pins s1 σ H1 D I1 q1
end
abbrev TG:=V->St->Hp->(St->Hp->Prop)->Prop
abbrev TGs:=List V->St->Hp->(St->Hp->Prop)->Prop
def PG(X:Cx)(target:Expr)(t:TG):Prop:=
 ∀ (pins:List (Addr × Obj)) (s:Shared) (σ:St) (H:Hp) (v:V) (u:Value) (Q:St->Hp->Prop),Inv X pins σ H s->RelV v u->t v σ H Q →
  wpAny (model X.prog X.w) X.A (assign target X.env u) (fun _ s'=>∃ σ' H',Inv X pins σ' H' s'/\Q σ' H') X.xe s
def PGs(X:Cx)(ts:List Expr)(t:TGs):Prop:=
 ∀ (pins:List (Addr × Obj)) (s:Shared) (σ:St) (H:Hp) (vs:List V) (us:List Value) (Q:St->Hp->Prop),Inv X pins σ H s->Vals vs us->t vs σ H Q →
  wpAny (model X.prog X.w) X.A (assignInOrder ((assignEach ts X.env).map (·.2)) us) (fun _ s'=>∃ σ' H',Inv X pins σ' H' s'/\Q σ' H') X.xe s
section
variable {X:Cx}{pos:Pos}
def kW(i:Nat):TG:=fun v σ H Q=>Q (σ.set i (some v)) H
theorem l8{i:Nat}{x:Str}(hN:X.N.Nodup)(hi:X.N[i]?=some x)(hx:Loc X.env.scope x)(hf:X.fn x=true\/X.env.scope.names.lookup x=some .local:=by first | exact .inl rfl | exact .inr rfl | assumption):PG X (.Name x pos) (kW i):=by
 intro pins s σ H v u Q I r h;exact wpAny_assign_Name (eX I hN hi hx r (fun s' I'=>⟨_,H,I',h⟩) hf)
def vL:TGs:=fun vs σ H Q=>vs=[]/\Q σ H
def uO(t:TG)(u:TGs):TGs:=fun vs σ H Q=>∃ v r,vs=v::r/\t v σ H fun σ' H'=>u r σ' H' Q
theorem qS:PGs X [] vL:=by
 intro pins s σ H vs us Q I r h;obtain ⟨e,h⟩:=h;subst e
 cases r
 exact assignInOrder_nil ⟨σ,H,I,h⟩
theorem pq{e:Expr}{es:List Expr}{t:TG}{u:TGs}(h1:PG X e t)(h2:PGs X es u)
    (hs:(assignEach (e::es) X.env).map (·.2)=assign e X.env::(assignEach es X.env).map (·.2):=by rfl):PGs X (e::es) (uO t u):=by
 intro pins s σ H vs us Q I r h;obtain ⟨v,vr,e1,h⟩:=h;subst e1
 cases r with
 |cons r rr=>
  rw[hs];refine assignInOrder_cons (thn (h1 pins s σ H _ _ _ I r h) fun _ s1 ⟨σ1,H1,I1,q1⟩=>?_);exact h2 pins s1 σ1 H1 _ _ Q I1 rr q1
def vM(K:PySem.W.Frag)(n:Nat)(t:TGs):TG:=fun v σ H Q=>∃ a xs,v=.ref a/\SqT K H a xs/\xs.length=n/\t xs σ H Q
theorem sI{es:List Expr}{k:Nat}{t:TGs}{n:Nat}(hc:X.calm=true)(h:PGs X es t)
    (hn:(assignEach es X.env).length=n:=by rfl) (hst:(assignEach es X.env).findIdx? (·.1)=none:=by rfl):PG X (.Tuple es k pos) (vM X.K n t):=by
 intro pins s σ H v u Q I r hw;obtain ⟨a,xs,e1,hq,hl,hw⟩:=hw;subst e1
 cases r
 obtain ⟨its,rv,ht,hz⟩:=I.tuple hq;refine assign_Tuple_tuple (I.ok.hd hc) ht (by simp[hn,<- hl,rv.length]) hst fun h' hx=>?_;have I1:Inv X pins σ H { s with heap:=h' }:=I.kept (t':=s.toks) fun b o e=>hx b o (Nat.ne_of_lt (Heap.lt_size e)) e;exact h pins _ σ H xs _ Q I1 (by simpa using rv) hw
def sJ(te:TE)(g:TG):TS:=fun D σ H=>te σ H fun x H1=>g x σ H1 D.nx
theorem sK{i:Nat}{x:Str}{e:Expr}{te:TE}{pos':Pos}(hN:X.N.Nodup)(hi:X.N[i]?=some x)(hx:Loc X.env.scope x)(he:PE X e te)(hs:swapsWith e (some (.Name x pos')) pos.line X.env=pure false:=by rfl)(hf:X.fn x=true\/X.env.scope.names.lookup x=some .local:=by first | exact .inl rfl | exact .inr rfl | assumption) :
    PS X (.Assign [.Name x pos'] e pos) (sJ te (kW i)):=by
 intro pins s σ H D I h;refine wpAny_Assign_Name (thn (he pins s σ H _ I h) fun v s1 ⟨y,H1,I1,r1,q1⟩=>?_) hs;exact eX I1 hN hi hx r1 (fun s2 I2=>⟨_,H1,I2,q1⟩) hf
def vN(i j:Nat)(ta:TA):TS:=fun D σ H=>ta σ H fun vs H1=>∃ v w,vs=[v,w]/\D.nx ((σ.set i (some v)).set j (some w)) H1
theorem sL{i j:Nat}{x y:Str}{a b:Expr}{ta:TA}{px py pt:Pos}{kt k2 pt2}(hc:X.calm=true)(hN:X.N.Nodup)(hi:X.N[i]?=some x)(hj:X.N[j]?=some y)(hij:i≠j)
    (hx:X.env.scope.names.lookup x=some .local) (hy:X.env.scope.names.lookup y=some .local) (ha:PA X [a,b] ta)
    (hw:swappedStores [.Tuple [.Name x px,.Name y py] kt pt] (.Tuple [a,b] k2 pt2) X.env=pure (some [x,y]))
    (hs:swapsWithSole [.Tuple [.Name x px,.Name y py] kt pt] (.Tuple [a,b] k2 pt2) pos.line X.env=pure false:=by rfl) :
    PS X (.Assign [.Tuple [.Name x px,.Name y py] kt pt] (.Tuple [a,b] k2 pt2) pos) (vN i j ta):=by
 intro pins s σ H D I h;rw[exec_Assign_arm];refine wpAny_bind (wpAny_standAt ?_);rw[hs];refine wpAny_bind (wpAny_pure ?_);rw[if_neg (by decide)];refine wpAny_bind (Tuple_ (thn (ha _ pins s σ H _ I h) fun us s1 ⟨vs,H1,I1,r1,q1⟩=>?_));obtain ⟨v,w,e1,q1⟩:=q1;subst e1;obtain ⟨u1,u2,rfl,rv,rw'⟩:∃ u1 u2,us=[u1,u2]/\RelV v u1/\RelV w u2:=by
  cases r1 with
  |cons p q=>
   cases q with
   |cons p' q'=>
    cases q'
    exact ⟨_,_,rfl,p,p'⟩
 refine wpAny_newObj_type ?_ (by show 2<=sizeLine;decide);have I2:Inv X pins σ H1 { s1 with heap:=s1.heap.push { cls:=.type "tuple", data:=.seq [u1,u2].toArray } }:=I1.kept (t':=s1.toks) fun b o e=>Heap.get?_push_of_some _ e;rw[hw];refine wpAny_bind (wpAny_pure ?_)
 show wpAny (model X.prog X.w) X.A (do rule "assign.swapped-stores"; let items <- unpackItems (.ref s1.heap.objs.size) 2 none;assignInOrder [fun v=>bindName X.env y v,fun v=>bindName X.env x v] items.reverse;pure Flow.next) _ _ _;refine wpAny_bind (wpAny_rule (wpAny_bind (unpackItems_tuple (items:=#[u1,u2]) (I.ok.hd hc) (IsTup.new s1.heap _) fun h' hx'=>?_)))
 have I3:=I2.kept (h':=h') (t':=s1.toks) fun b o e=>hx' b o (Nat.ne_of_lt (Heap.lt_size e)) e;show wpAny _ _ (assignInOrder [fun v=>bindName X.env y v,fun v=>bindName X.env x v] [u2,u1] >>= fun _=>pure Flow.next) _ _ _;refine wpAny_bind (assignInOrder_cons (wpAny_bindName (eX I3 hN hj (.inl hy) rw' (fun s2 I4=>?_) (.inr hy))))
 refine assignInOrder_cons (wpAny_bindName (eX I4 hN hi (.inl hx) rv (fun s3 I5=>assignInOrder_nil (wpAny_pure ?_)) (.inr hx)));rw[List.set_comm _ _ (Ne.symm hij)] at I5;exact ⟨_,H1,I5,q1⟩
end
section
variable {X:Cx}{pos:Pos}
end
structure It where
 go:Nat->Hp->Prop
 yld:Nat->Hp->V->Hp->Prop
 stop:Nat->Hp->Prop
def cQ(X:Cx)(pins:List (Addr × Obj))(H:Hp)(b:Addr):Prop:=
 H b=none/\b≠X.env.locals/\b∉X.fs/\(b∈X.ex\/X.s₀.heap.objs.size<=b)/\(∀ x c,X.env.cells.lookup x=some c->c≠b)/\∀ p∈X.pn++pins,p.1≠b
theorem Inv.fpOk{X:Cx}{pins:List (Addr × Obj)}{σ:St}{H H':Hp}{s:Shared}{b:Addr}(I:Inv X pins σ H s)(hb:s.heap.objs.size<=b)(hn:H' b=none):cQ X pins H' b:=by
 refine ⟨hn,Nat.ne_of_gt (Nat.lt_of_lt_of_le I.lt hb),I.nofs hb,.inr (Nat.le_trans I.sz hb),fun x c e z=>?_,fun p hp z=>?_⟩
 ·obtain ⟨v,q⟩:=I.cell x c e
  exact absurd (Nat.lt_of_lt_of_le q.lt (by rw[z];exact hb)) (Nat.lt_irrefl _)
 ·exact absurd (Nat.lt_of_lt_of_le (Heap.lt_size (I.pin p hp).1) (by rw[z];exact hb)) (Nat.lt_irrefl _)
structure Turn (P:Program) (w:World) (K:PySem.W.Frag) (tg:Expr) (J:It) (fp:List Addr) (it:Addr) (tn:Nat->Heap->Prop):Prop where
 mem:it∈fp
 obj:∀ i h,tn i h->∀ b∈fp,∃ o,h.get? b=some o/\∀ v,o.data≠.cell v
 keep:∀ i h h',tn i h->(∀ b∈fp,∀ o,h.get? b=some o->h'.get? b=some o)->tn i h'
 item:∀ (X:Cx),X.prog=P->X.w=w->X.K=K->X.calm=true->∀ (i:Nat) (pins:List (Addr × Obj)) (s:Shared) (σ:St) (H:Hp) (E:Value->Shared->Prop),Inv X pins σ H s->(∀ b∈fp,cQ X pins H b)->tn i s.heap->J.go i H →
  wpAny (model P w) X.A (pyNext (.ref it)) (fun r s1=>∃ u,r=some u ∧
   wpAny (model P w) X.A (letOwnedTupleGo tg (.ref it) u) (fun _ s2=>∃ x H',Inv X pins σ H' s2/\RelV x u/\J.yld i H x H'/\tn (i+1) s2.heap/\∀ b∈fp,H' b=none) E s1) E s
 done:∀ (X:Cx),X.prog=P->X.w=w->X.K=K->X.calm=true->∀ (i:Nat) (pins:List (Addr × Obj)) (s:Shared) (σ:St) (H:Hp) (E:Value->Shared->Prop),Inv X pins σ H s->(∀ b∈fp,cQ X pins H b)->tn i s.heap->J.stop i H →
  wpAny (model P w) X.A (pyNext (.ref it)) (fun r s1=>r=none/\Inv X pins σ H s1) E s
 self:∀ (A:Around) (i:Nat) (s:Shared) (Q:Value->Shared->Prop) (E:Value->Shared->Prop),tn i s.heap->Q (.ref it) s->wpAny (model P w) A (pyIter (.ref it)) Q E s
abbrev TI:=St->Hp->(It->Hp->Prop)->Prop
def PIE(X:Cx)(pins:List (Addr × Obj))(σ:St)(tg:Expr)(R:It->Hp->Prop)(itv:Value)(s2:Shared):Prop:=
 ∃ (it:Addr) (fp:List Addr) (tn:Nat->Heap->Prop) (J:It) (H':Hp),itv=.ref it/\Inv X pins σ H' s2/\Turn X.prog X.w X.K tg J fp it tn/\tn 0 s2.heap/\(∀ b∈fp,cQ X pins H' b)/\R J H'
def PI(X:Cx)(tg iter:Expr)(wi:TI):Prop:=
 ∀ (pins:List (Addr × Obj)) (s:Shared) (σ:St) (H:Hp) (R:It->Hp->Prop),Inv X pins σ H s->wi σ H R →
  wpAny (model X.prog X.w) X.A (eval iter X.env) (fun v s1=>wpAny (model X.prog X.w) X.A (pyIter v) (PIE X pins σ tg R) X.xe s1) X.xe s
theorem kX{M:Model}{A:Around}{E:Value->Shared->Prop}{s:Shared}{tg:Expr}{it:Addr}{u:Value}{o:Obj}{n:String}{vs:Array Value}{Q:Unit->Shared->Prop}(ho:s.heap.get? it=some o)(hc:o.cls=.type n)(hd:o.data=.fields vs)
    (hn:["enumerate", "zip", "dict_itemiterator", "dict_reverseitemiterator", "odict_iterator", "itertools.zip_longest", "itertools.pairwise"].contains n=false) (hQ:Q () s):wpAny M A (letOwnedTupleGo tg (.ref it) u) Q E s:=by
 unfold letOwnedTupleGo
 cases tg<;>first
  |exact wpAny_pure hQ
  | (cases u<;>first
      |exact wpAny_pure hQ
      | (refine wpAny_bind (wpAny_load ho ?_)
         rw[hc,hd]
         show wpAny M A (if (["enumerate", "zip", "dict_itemiterator", "dict_reverseitemiterator", "odict_iterator", "itertools.zip_longest", "itertools.pairwise"].contains n&&vs[0]? == some (rawInt _))=true then _ else _) Q E s
         rw[if_neg (by intro h;rw[hn,Bool.false_and] at h;cases h)]
         exact wpAny_pure hQ))
def Itl(K:PySem.W.Frag)(a:Addr):It:=
 ⟨fun i H=>∃ xs x,SqL K H a xs/\xs[i]?=some x,fun i H x H'=>H'=H/\∀ xs,SqL K H a xs->xs[i]?=some x,fun i H=>∃ xs,SqL K H a xs/\xs.length<=i⟩
def Itt(K:PySem.W.Frag)(a:Addr):It:=
 ⟨fun i H=>∃ xs x,SqT K H a xs/\xs[i]?=some x,fun i H x H'=>H'=H/\∀ xs,SqT K H a xs->xs[i]?=some x,fun i H=>∃ xs,SqT K H a xs/\xs.length<=i⟩
def Itr(lo:Int)(n:Nat):It:=⟨fun i _=>i<n,fun i H x H'=>H'=H/\x=.int (lo+i),fun i _=>n<=i⟩
theorem nJ{P:Program}{w:World}{K:PySem.W.Frag}{tg:Expr}(a it:Addr):Turn P w K tg (Itl K a) [it] it (fun i h=>h.IsListIter it a i) where
 mem:=by simp
 obj:=fun i h st b hb=>by
  have e:b=it:=by simpa using hb
  subst e;obtain ⟨o,e,c,d⟩:=st;exact ⟨o,e,fun v z=>by rw[d] at z;cases z⟩
 keep:=fun i h h' st k=>st.at fun o e=>k it (by simp) o e;item:=by
  intro X hP hw hK hc i pins s σ H E I hf st hg;subst hP hw hK;obtain ⟨xs,x,hq,hx⟩:=hg;obtain ⟨its,rv,p,hz⟩:=I.list hq;obtain ⟨u,hu,ru⟩:=rv.get hx;obtain ⟨f0,f1,f2,f3,f4,f5⟩:=hf it (by simp);refine wpAny_pyNext_list_item st p.isList (x:=u) (by simpa using hu) fun h' st' sb=>?_;have I1:Inv X pins σ H { s with heap:=h' }:=I.turned (t':=s.toks) (fun b o hb e=>(sb.2 b hb).trans e) f0 f1 f3 f4 f5
  obtain ⟨o,e,c,d⟩:=id st';exact ⟨u,rfl,kX (s:={ s with heap:=h' }) e c d (by decide) ⟨x,H,I1,ru,⟨rfl,fun ys hy=>by rw[I.list_inj hy hq];exact hx⟩,st',fun b hb=>(hf b hb).1⟩⟩
 done:=by
  intro X hP hw hK hc i pins s σ H E I hf st hg;subst hP hw hK;obtain ⟨xs,hq,hx⟩:=hg;obtain ⟨its,rv,p,hz⟩:=I.list hq;obtain ⟨f0,f1,f2,f3,f4,f5⟩:=hf it (by simp);have hl:=rv.length;exact wpAny_pyNext_list_end (I.ok.hd hc) st p.isList (by simp;omega) fun h' eb=>⟨rfl,I.turned (t':=s.toks) (fun b o hb e=>eb b o hb e) f0 f1 f3 f4 f5⟩
 self:=fun _ _ _ _ _ st h=>wpAny_pyIter_listiter st h
theorem mJ{P:Program}{w:World}{K:PySem.W.Frag}{tg:Expr}(a it:Addr):Turn P w K tg (Itt K a) [it] it (fun i h=>h.IsTupleIter it a i) where
 mem:=by simp
 obj:=fun i h st b hb=>by
  have e:b=it:=by simpa using hb
  subst e;obtain ⟨o,e,c,d⟩:=st;exact ⟨o,e,fun v z=>by rw[d] at z;cases z⟩
 keep:=fun i h h' st k=>st.at fun o e=>k it (by simp) o e;item:=by
  intro X hP hw hK hc i pins s σ H E I hf st hg;subst hP hw hK;obtain ⟨xs,x,hq,hx⟩:=hg;obtain ⟨its,rv,p,hz⟩:=I.tuple hq;obtain ⟨u,hu,ru⟩:=rv.get hx;obtain ⟨f0,f1,f2,f3,f4,f5⟩:=hf it (by simp);refine wpAny_pyNext_tuple_item st (show s.heap.IsTuple a its.toArray from p) (x:=u) (by simpa using hu) fun h' st' sb=>?_
  have I1:Inv X pins σ H { s with heap:=h' }:=I.turned (t':=s.toks) (fun b o hb e=>(sb.2 b hb).trans e) f0 f1 f3 f4 f5;obtain ⟨o,e,c,d⟩:=id st';exact ⟨u,rfl,kX (s:={ s with heap:=h' }) e c d (by decide) ⟨x,H,I1,ru,⟨rfl,fun ys hy=>by rw[I.tuple_inj hy hq];exact hx⟩,st',fun b hb=>(hf b hb).1⟩⟩
 done:=by
  intro X hP hw hK hc i pins s σ H E I hf st hg;subst hP hw hK;obtain ⟨xs,hq,hx⟩:=hg;obtain ⟨its,rv,p,hz⟩:=I.tuple hq;obtain ⟨f0,f1,f2,f3,f4,f5⟩:=hf it (by simp);have hl:=rv.length;exact wpAny_pyNext_tuple_end (I.ok.hd hc) st (show s.heap.IsTuple a its.toArray from p) (by simp;omega) fun h' eb=>⟨rfl,I.turned (t':=s.toks) (fun b o hb e=>eb b o hb e) f0 f1 f3 f4 f5⟩
 self:=fun _ _ _ _ _ st h=>wpAny_pyIter_tupleiter st h
theorem mK{P:Program}{w:World}{K:PySem.W.Frag}{tg:Expr}(it:Addr)(lo:Int)(n:Nat):Turn P w K tg (Itr lo n) [it] it (fun i h=>IsRangeIter h it (lo+(i:Nat)*1) ((n:Int) - (i:Nat)) 1) where
 mem:=by simp
 obj:=fun i h st b hb=>by
  have e:b=it:=by simpa using hb
  subst e;exact ⟨_,st,fun v z=>by
   have z':Data.fields _=Data.cell v:=z
   cases z'⟩
 keep:=fun i h h' st k=>k it (by simp) _ st;item:=by
  intro X hP hw hK hc i pins s σ H E I hf st hg;subst hP hw hK;obtain ⟨f0,f1,f2,f3,f4,f5⟩:=hf it (by simp);have W:=Walks.range (prog:=X.prog) (w:=X.w) (I.ok.hd hc) it lo 1 n;refine W.item i s _ _ hg st fun v h' tk hv st' kk=>?_;obtain ⟨t,rfl⟩:=hv;have I1:Inv X pins σ H { s with heap:=h',toks:=tk }:=I.turned (fun b o hb e=>kk b o (by simpa using hb) e) f0 f1 f3 f4 f5
  refine ⟨_,rfl,kX (s:={ s with heap:=h',toks:=tk }) (n := "range_iterator") st' rfl rfl (by decide) ⟨.int (lo+i),H,I1,⟨t,?_⟩,⟨rfl,rfl⟩,st',fun b hb=>(hf b hb).1⟩⟩;rw[Int.mul_one]
 done:=by
  intro X hP hw hK hc i pins s σ H E I hf st hg;subst hP hw hK;obtain ⟨f0,f1,f2,f3,f4,f5⟩:=hf it (by simp);exact wpAny_pyNext_range_end (I.ok.hd hc) st (by have:n<=i:=hg;omega) fun h' eb=>⟨rfl,I.turned (t':=s.toks) (fun b o hb e=>eb b o hb e) f0 f1 f3 f4 f5⟩
 self:=fun _ _ _ _ _ st h=>wpAny_pyIter_rangeiter st h
section
variable {X:Cx}{tg:Expr}
theorem pu{pins:List (Addr × Obj)}{σ:St}{H:Hp}{s:Shared}{R:It->Hp->Prop}{E:Value->Shared->Prop}{lo hi:Int}{t u v:Tok}{tk:Nat}(I:Inv X pins σ H s)(h1:-(2 ^ 62)<=lo)(h2:lo<2 ^ 62)(h3:-(2 ^ 62)<=hi)(h4:hi<2 ^ 62)
    (q:R (Itr lo (hi - lo).toNat) H):wpAny (model X.prog X.w) X.A (pyIter (.ref s.heap.objs.size)) (PIE X pins σ tg R) E { s with heap:=s.heap.push { cls:=.type "range", data:=.fields #[.int lo t,.int hi u,.int 1 v] },toks:=tk }:=by
 refine wpAny_pyIter_range (IsRange.new ..) (small_one h1 h2 h3 h4) ?_;have I1:Inv X pins σ H { s with heap:=s.heap.push { cls:=.type "range", data:=.fields #[.int lo t,.int hi u,.int 1 v] },toks:=tk }:=I.kept fun b o e=>Heap.get?_push_of_some _ e
 refine ⟨(s.heap.push { cls:=.type "range", data:=.fields #[.int lo t,.int hi u,.int 1 v] }).objs.size,[(s.heap.push { cls:=.type "range", data:=.fields #[.int lo t,.int hi u,.int 1 v] }).objs.size],_,_,H,rfl,
  I1.kept (t':=tk) fun b o e=>Heap.get?_push_of_some _ e,mK _ lo (hi - lo).toNat,?_,fun b hb=>?_,q⟩
 ·have e1:lo+((0:Nat):Int)*1=lo:=by simp
  have e2:(((hi - lo).toNat:Nat):Int) - ((0:Nat):Int)=Builtin.Range.rangeSize lo hi 1:=by rw[rangeSize_one];split<;>omega
  show IsRangeIter _ _ (lo+((0:Nat):Int)*1) ((((hi - lo).toNat:Nat):Int) - ((0:Nat):Int)) 1;rw[e1,e2];exact Heap.get?_push_size _ rfl
 ·have e:b=(s.heap.push { cls:=.type "range", data:=.fields #[.int lo t,.int hi u,.int 1 v] }).objs.size:=by simpa using hb
  subst e;exact I1.fpOk (Nat.le_refl _) (I1.hok.fresh (Nat.le_refl _))
def uP(ta:TA):TI:=fun σ H R=>ta σ H fun vs H1=>∃ j:Int,vs=[.int j]/\-(2 ^ 62)<=j/\j<2 ^ 62/\R (Itr 0 j.toNat) H1
theorem nK{a:Expr}{ta:TA}{p pos:Pos}(hg:Gl X "range")(hm:X.mg "range" = none)(ha:PA X [a] ta)(hs:starEach [a] X.env=[(false,eval a X.env)]:=by rfl):PI X tg (.Call (.Name "range" p) [a] [] pos) (uP ta):=by
 intro pins s σ H R I h;refine Call_ (eY I hg hm boot_range (PyProof.Rows.callWith_type1 (thn (ha pos pins s σ H _ I h) fun us s1 ⟨vs,H1,I1,r1,q1⟩=>?_) hs rfl));obtain ⟨j,e,q1,q2,q⟩:=q1;subst e
 cases r1 with
 |cons r rr=>
  cases rr
  obtain ⟨t,rfl⟩:=r;exact call_range_1 (pu I1 (by omega) (by omega) q1 q2 (by simpa using q))
def vO(wi:TI)(g:TG)(tb:TS):TS:=fun D σ H=>wi σ H fun J H1=>∃ W:Nat->Nat->St->Hp->Prop,(∃ m,W 0 m σ H1)/\∀ i m σ H,W i m σ H →
 (J.stop i H/\D.nx σ H)\/(J.go i H/\∃ N:St->Hp->Prop,(∀ σ' H',N σ' H'->∃ m',m'<m/\W (i+1) m' σ' H')/\∀ x H',J.yld i H x H'->g x σ H' fun σ2 H2=>tb { D with nx:=N,ct:=N,bk:=D.nx } σ2 H2)
def fW(fp:List Addr)(h:Heap):List (Addr × Obj):=fp.filterMap fun b=>(h.get? b).map fun o=>(b,o)
theorem cY{fp:List Addr}{h:Heap}{b:Addr}{o:Obj}(hb:b∈fp)(e:h.get? b=some o):(b,o)∈fW fp h:=List.mem_filterMap.mpr ⟨b,hb,by rw[e];rfl⟩
theorem nL{fp:List Addr}{h:Heap}{p:Addr × Obj}(hp:p∈fW fp h):p.1∈fp/\h.get? p.1=some p.2:=by
 obtain ⟨b,hb,e⟩:=List.mem_filterMap.mp hp
 cases q:h.get? b with
 |none=>rw[q] at e;cases e
 |some o=>
  rw[q] at e;have e':(b,o)=p:=Option.some.inj e;subst e';exact ⟨hb,q⟩
theorem Inv.pinned{pins:List (Addr × Obj)}{σ:St}{H:Hp}{s:Shared}{fp:List Addr}(I:Inv X pins σ H s)(hf:∀ b∈fp,cQ X pins H b)(ho:∀ b∈fp,∃ o,s.heap.get? b=some o/\∀ v,o.data≠.cell v):Inv X (pins++fW fp s.heap) σ H s:=
 I.pins_of fun p hp=>(List.mem_append.mp hp).elim (fun z=>I.pin p (List.mem_append_right _ z)) fun z=>by
  obtain ⟨hb,e⟩:=nL z;obtain ⟨f0,f1,f2,_⟩:=hf p.1 hb;obtain ⟨o,e',d⟩:=ho p.1 hb;rw[e] at e';cases e';exact ⟨e,f0,f1,f2,d⟩
theorem Inv.unpinned{pins pl:List (Addr × Obj)}{σ:St}{H:Hp}{s:Shared}(I:Inv X (pins++pl) σ H s):Inv X pins σ H s:=I.pins_of fun p hp=>I.pin p (List.mem_append_right _ (List.mem_append_left _ hp))
theorem sM{iter:Expr}{body:List Stmt}{wi:TI}{g:TG}{tb:TS}{pos:Pos}(hp:PassesOwn (model X.prog X.w) X.A X.env X.xe)(hc:X.calm=true)(hi:PI X tg iter wi)(hg:PG X tg g)(hb:PSs X body tb)
    (hs:∀ x,foldedSetIterable iter X.env x=pure x:=by intro _;rfl):PS X (.For tg iter body [] pos) (vO wi g tb):=by
 intro pins s σ H D I h;refine wpAny_For (thn (hi pins s σ H _ I h) fun v s1 h1=>thn h1 fun itv s2 h2=>?_) hs;obtain ⟨it,fp,tn,J,H2,e,I2,T,st2,f2,W,⟨m0,w0⟩,turn⟩:=h2;subst e;have stat:∀ {H':Hp},(∀ b∈fp,H' b=none)->∀ b∈fp,cQ X pins H' b:=fun hn b hb=>⟨hn b hb,(f2 b hb).2⟩
 refine codeAny_forLoop_any (fun n s'=>∃ i σ' H',Inv X pins σ' H' s'/\tn i s'.heap/\(∀ b∈fp,H' b=none)/\W i n σ' H') ?_ m0 ⟨0,σ,H2,I2,st2,fun b hb=>(f2 b hb).1,w0⟩;rintro n s3 ⟨i,σ3,H3,I3,st3,fr3,w3⟩;rcases turn i n σ3 H3 w3 with ⟨stop,qn⟩ | ⟨go,N,hN,step⟩
 ·refine wpAny_passesOwn hp (thn (T.done X rfl rfl rfl hc i pins s3 σ3 H3 X.xe I3 (stat fr3) st3 stop) fun r s4 ⟨hr,I4⟩=>?_)
  subst hr;exact wpAny_execs_nil ⟨σ3,H3,I4,qn⟩
 ·refine wpAny_passesOwn hp (thn (T.item X rfl rfl rfl hc i pins s3 σ3 H3 X.xe I3 (stat fr3) st3 go) fun r s4 ⟨u,hr,h4⟩=>?_)
  subst hr;refine wpAny_passesOwn hp (thn h4 fun _ s5 ⟨x,H5,I5,r5,y5,st5,fr5⟩=>?_);have I5':=I5.pinned (stat fr5) (T.obj _ _ st5);refine wpAny_passesOwn hp (thn (hg _ s5 σ3 H5 x u _ I5' r5 (step x H5 y5)) fun _ s6 ⟨σ6,H6,I6,q6⟩=>?_);refine wpAny_passesOwn hp (thn (hb _ s6 σ6 H6 _ I6 q6) fun f s7 q7=>?_)
  have again:∀ {σ7:St} {H7:Hp},Inv X (pins++fW fp s5.heap) σ7 H7 s7->N σ7 H7->∃ m,m<n/\∃ i σ' H',Inv X pins σ' H' s7/\tn i s7.heap/\(∀ b∈fp,H' b=none)/\W i m σ' H':=fun {σ7 H7} I7 n7=>by
   obtain ⟨m',hm,w7⟩:=hN σ7 H7 n7;refine ⟨m',hm,i+1,σ7,H7,I7.unpinned,T.keep _ _ _ st5 fun b hb o e=>(I7.pin (b,o) (List.mem_append_right _ (List.mem_append_right _ (cY hb e)))).1,fun b hb=>?_,w7⟩;obtain ⟨o,e,d⟩:=T.obj _ _ st5 b hb;exact (I7.pin (b,o) (List.mem_append_right _ (List.mem_append_right _ (cY hb e)))).2.1
  cases f with
  |next=>obtain ⟨σ7,H7,I7,n7⟩:=q7;exact again I7 n7
  |cont=>obtain ⟨σ7,H7,I7,n7⟩:=q7;exact again I7 n7
  |brk=>obtain ⟨σ7,H7,I7,q7⟩:=q7;exact ⟨σ7,H7,I7.unpinned,q7⟩
  |ret v=>obtain ⟨x7,σ7,H7,I7,r7,q7⟩:=q7;exact ⟨x7,σ7,H7,I7.unpinned,r7,q7⟩
end
abbrev R2:=V->V->Hp->VK->Prop
def OpR(X:Cx)(f:Value->Value->Sem Value)(r:R2):Prop:=
 ∀ (pins:List (Addr × Obj)) (s:Shared) (σ:St) (H:Hp) (x y:V) (v u:Value) (Q:VK),Inv X pins σ H s->RelV x v->RelV y u->r x y H Q →
  wpAny (model X.prog X.w) X.A (f v u) (EP X pins σ Q) X.xe s
def UnR(X:Cx)(f:Value->Sem Value)(r:V->Hp->VK->Prop):Prop:=
 ∀ (pins:List (Addr × Obj)) (s:Shared) (σ:St) (H:Hp) (x:V) (v:Value) (Q:VK),Inv X pins σ H s->RelV x v->r x H Q →
  wpAny (model X.prog X.w) X.A (f v) (EP X pins σ Q) X.xe s
def CallR(X:Cx)(f:Value)(r:List V->Hp->VK->Prop):Prop:=
 ∀ (pins:List (Addr × Obj)) (s:Shared) (σ:St) (H:Hp) (xs:List V) (us:List Value) (Q:VK),Inv X pins σ H s->Vals xs us->r xs H Q →
  wpAny (model X.prog X.w) X.A (call f us) (EP X pins σ Q) X.xe s
def tOp(r:R2)(ta tb:TE):TE:=fun σ H Q=>ta σ H fun x H1=>tb σ H1 fun y H2=>r x y H2 Q
def tUn(r:V->Hp->VK->Prop)(ta:TE):TE:=fun σ H Q=>ta σ H fun x H1=>r x H1 Q
def rI(C:Int->Int->Prop)(g:Int->Int->V):R2:=fun x y H Q=>∃ i j,x=.int i/\y=.int j/\C i j/\Q (g i j) H
def rI0(g:Int->Int->V):R2:=fun x y H Q=>∃ i j,x=.int i/\y=.int j/\Q (g i j) H
def rU(g:Int->V):V->Hp->VK->Prop:=fun x H Q=>∃ i,x=.int i/\Q (g i) H
section
variable {X:Cx}{a b c:Expr}{ta tb tc:TE}{pos:Pos}
theorem pv(ha:PE X a ta)(hb:PE X b tb){pins:List (Addr × Obj)}{s:Shared}{σ:St}{H:Hp}{R:V->V->Hp->Prop}(I:Inv X pins σ H s)
    (h:ta σ H fun x H1=>tb σ H1 fun y H2=>R x y H2) {Q:Value->Shared->Prop} {f:Value->Value->Sem Value}
    (hf:∀ v u s2 x y H2,Inv X pins σ H2 s2->RelV x v->RelV y u->R x y H2->wpAny (model X.prog X.w) X.A (f v u) Q X.xe s2) :
    wpAny (model X.prog X.w) X.A (eval a X.env) (fun v s₁=>wpAny (model X.prog X.w) X.A (eval b X.env) (fun u s₂=>wpAny (model X.prog X.w) X.A (f v u) Q X.xe s₂) X.xe s₁) X.xe s:=by
 refine thn (ha pins s σ H _ I h) fun v s1 ⟨x,H1,I1,r1,q1⟩=>?_;refine thn (hb pins s1 σ H1 _ I1 q1) fun u s2 ⟨y,H2,I2,r2,q2⟩=>?_;exact hf v u s2 x y H2 I2 r1 r2 q2
theorem uQ{op:Operator}{r:R2}(ho:OpR X (binaryOp op) r)(ha:PE X a ta)(hb:PE X b tb):PE X (.BinOp a op b pos) (tOp r ta tb):=by
 intro pins s σ H Q I h;exact wpAny_BinOp (pv ha hb I h fun v u s2 x y H2 I2 rx ry q=>ho pins s2 σ H2 x y v u Q I2 rx ry q)
theorem uR{op:UnaryOp}{r:V->Hp->VK->Prop}(ho:UnR X (unaryOp op) r)(ha:PE X a ta):PE X (.UnaryOp op a pos) (tUn r ta):=by
 intro pins s σ H Q I h;exact UnaryOp_ (thn (ha pins s σ H _ I h) fun v s1 ⟨x,H1,I1,r1,q1⟩=>ho pins s1 σ H1 x v Q I1 r1 q1)
theorem opI{f:Value->Value->Sem Value}{C:Int->Int->Prop}{g:Int->Int->Int}
    (rule:∀ (i j:Int) (t u:Tok) (s:Shared) (Q:Value->Shared->Prop) (E:Value->Shared->Prop),C i j->Q (.int (g i j) s.toks) { s with toks:=s.toks+1 }->wpAny (model X.prog X.w) X.A (f (.int i t) (.int j u)) Q E s) :
    OpR X f (rI C fun i j=>.int (g i j)):=by
 intro pins s σ H x y v u Q I rx ry h;obtain ⟨i,j,rfl,rfl,hc,q⟩:=h;obtain ⟨t,rfl⟩:=rx;obtain ⟨t',rfl⟩:=ry;exact rule i j t t' s _ _ hc ⟨.int (g i j),H,I.tok _,⟨_,rfl⟩,q⟩
theorem sN{f:Value->Value->Sem Value}{g:Int->Int->Int}
    (rule:∀ (i j:Int) (t u:Tok) (s:Shared) (Q:Value->Shared->Prop) (E:Value->Shared->Prop),Q (.int (g i j) s.toks) { s with toks:=s.toks+1 }->wpAny (model X.prog X.w) X.A (f (.int i t) (.int j u)) Q E s) :
    OpR X f (rI0 fun i j=>.int (g i j)):=by
 intro pins s σ H x y v u Q I rx ry h;obtain ⟨i,j,rfl,rfl,q⟩:=h;obtain ⟨t,rfl⟩:=rx;obtain ⟨t',rfl⟩:=ry;exact rule i j t t' s _ _ ⟨.int (g i j),H,I.tok _,⟨_,rfl⟩,q⟩
theorem pz{f:Value->Value->Sem Value}{g:Int->Int->Bool}
    (rule:∀ (i j:Int) (t u:Tok) (s:Shared) (Q:Value->Shared->Prop) (E:Value->Shared->Prop),Q (.bool (g i j)) s->wpAny (model X.prog X.w) X.A (f (.int i t) (.int j u)) Q E s) :
    OpR X f (rI0 fun i j=>.bl (g i j)):=by
 intro pins s σ H x y v u Q I rx ry h;obtain ⟨i,j,rfl,rfl,q⟩:=h;obtain ⟨t,rfl⟩:=rx;obtain ⟨t',rfl⟩:=ry;exact rule i j t t' s _ _ ⟨.bl (g i j),H,I,rfl,q⟩
def vP(i j:Int):Prop:=0<j/\j<1073741824
def CMul(i j:Int):Prop:=(-(2 ^ 64)<i/\i<2 ^ 64)\/(-(2 ^ 64)<j/\j<2 ^ 64)
theorem CMul.ok{i j:Int}(h:CMul i j):IntMulOk i j:=by
 rcases h with ⟨h1,h2⟩ | ⟨h1,h2⟩
 ·exact .of_left (intBits_le_64 h1 h2)
 ·exact .of_right (intBits_le_64 h1 h2)
theorem sO:OpR X (binaryOp .Add) (rI0 fun i j=>.int (i+j)):=sN fun _ _ _ _ _ _ _ q=>add_int q
theorem sP:OpR X (binaryOp .Sub) (rI0 fun i j=>.int (i - j)):=sN fun _ _ _ _ _ _ _ q=>sub_int q
theorem sQ:OpR X (binaryOp .Mult) (rI CMul fun i j=>.int (i*j)):=opI fun _ _ _ _ _ _ _ hc q=>mul_int q hc.ok
theorem qT:OpR X (binaryOp .FloorDiv) (rI vP fun i j=>.int (i / j)):=opI fun i j _ _ _ _ _ hc q=>by
 have h1:(0:Int)<j:=hc.1;have h2:j<1073741824:=hc.2;exact floordiv_int (by omega) (by rw[Int.fdiv_eq_ediv_of_nonneg i (by omega)];exact q) (.inl (PyProof.noPylong_small (by omega)))
theorem sR:OpR X (binaryOp .Mod) (rI (fun _ j=>0<j) fun i j=>.int (i % j)):=opI fun i j _ _ _ _ _ hc q=>by
 have h1:(0:Int)<j:=hc;exact mod_int' (by omega) (by rw[Int.fmod_eq_emod_of_nonneg i (by omega)];exact q)
theorem unI{f:Value->Sem Value}{g:Int->Int}
    (rule:∀ (i:Int) (t:Tok) (s:Shared) (Q:Value->Shared->Prop) (E:Value->Shared->Prop),Q (.int (g i) s.toks) { s with toks:=s.toks+1 }->wpAny (model X.prog X.w) X.A (f (.int i t)) Q E s) :
    UnR X f (rU fun i=>.int (g i)):=by
 intro pins s σ H x v Q I rx h;obtain ⟨i,rfl,q⟩:=h;obtain ⟨t,rfl⟩:=rx;exact rule i t s _ _ ⟨.int (g i),H,I.tok _,⟨_,rfl⟩,q⟩
theorem sS:UnR X (unaryOp .USub) (rU fun i=>.int (-i)):=unI fun _ _ _ _ _ q=>neg_int q
end
def sT:V->V->Bool
 | .non,.non=>true | .non,.int _=>true | .int _,.non=>true | .non,.bl _=>true | .bl _,.non=>true | .non,.str _=>true | .str _,.non=>true
 | .int _,.int _=>true | .bl _,.bl _=>true | .str _,.str _=>true | .byt _,.byt _=>true
 | .int _,.str _=>true | .str _,.int _=>true | .bl _,.str _=>true | .str _,.bl _=>true
 |_,_=>false
def rEq:R2:=fun x y H Q=>sT x y=true/\Q (.bl (decide (x=y))) H
def rNe:R2:=fun x y H Q=>sT x y=true/\Q (.bl (!decide (x=y))) H
theorem l9{i j:Int}:decide (V.int i=V.int j)=(i == j):=by
 rw[Bool.eq_iff_iff];simp
theorem nM{i j:Bool}:decide (V.bl i=V.bl j)=(i == j):=by
 rw[Bool.eq_iff_iff];simp
theorem ma{i j:Str}:decide (V.str i=V.str j)=(i == j):=by
 rw[Bool.eq_iff_iff];simp
theorem md{i j:Array UInt8}:decide (V.byt i=V.byt j)=(i.toList == j.toList):=by
 rw[Bool.eq_iff_iff]
 cases i
 cases j
 simp
section
variable {X:Cx}{a b c:Expr}{ta tb tc:TE}{pos:Pos}
theorem aN{pins:List (Addr × Obj)}{σ:St}{H:Hp}{s:Shared}{Q:VK}{k k':Bool}(I:Inv X pins σ H s)(q:Q (.bl k) H)(e:k=k'):EP X pins σ Q (.bool k') s:=by
 subst e;exact ⟨.bl k,H,I,rfl,q⟩
theorem uS:OpR X (compareOp .Eq) rEq:=by
 intro pins s σ H x y v u Q I rx ry h;obtain ⟨hs,q⟩:=h
 cases x with
 |non=>
  cases rx
  cases y with
  |non=>cases ry;exact PySem.EqNone.eq_none_none (aN I q (by simp))
  |bl j=>cases ry;exact PySem.EqNone.eq_none_bool (aN I q (by simp))
  |int j=>obtain ⟨t',rfl⟩:=ry;exact PySem.EqNone.eq_none_int (aN I q (by simp))
  |str j=>obtain ⟨t',rfl⟩:=ry;exact PySem.EqNone.eq_none_str (aN I q (by simp))
  |_=>exact absurd (show false=true from hs) Bool.false_ne_true
 |bl i=>
  cases rx
  cases y with
  |non=>cases ry;exact PySem.EqNone.eq_bool_none (aN I q (by simp))
  |bl j=>cases ry;exact eq_bool (aN I q nM)
  |str j=>obtain ⟨t',rfl⟩:=ry;exact PySem.EqMixed.eq_bool_str (aN I q (by simp))
  |_=>exact absurd (show false=true from hs) Bool.false_ne_true
 |int i=>
  obtain ⟨t,rfl⟩:=rx
  cases y with
  |non=>cases ry;exact PySem.EqNone.eq_int_none (aN I q (by simp))
  |int j=>obtain ⟨t',rfl⟩:=ry;exact eq_int (aN I q l9)
  |str j=>obtain ⟨t',rfl⟩:=ry;exact PySem.EqMixed.eq_int_str (aN I q (by simp))
  |_=>exact absurd (show false=true from hs) Bool.false_ne_true
 |str i=>
  obtain ⟨t,rfl⟩:=rx
  cases y with
  |non=>cases ry;exact PySem.EqNone.eq_str_none (aN I q (by simp))
  |bl j=>cases ry;exact PySem.EqMixed.eq_str_bool (aN I q (by simp))
  |int j=>obtain ⟨t',rfl⟩:=ry;exact PySem.EqMixed.eq_str_int (aN I q (by simp))
  |str j=>obtain ⟨t',rfl⟩:=ry;exact eq_str (aN I q ma)
  |_=>exact absurd (show false=true from hs) Bool.false_ne_true
 |byt i=>
  obtain ⟨t,rfl⟩:=rx
  cases y with
  |byt j=>obtain ⟨t',rfl⟩:=ry;exact PySem.W.eq_bytes (aN I q md)
  |_=>exact absurd (show false=true from hs) Bool.false_ne_true
 |_=>cases y<;>exact absurd (show false=true from hs) Bool.false_ne_true
theorem uT:OpR X (compareOp .NotEq) rNe:=by
 intro pins s σ H x y v u Q I rx ry h;obtain ⟨hs,q⟩:=h
 cases x with
 |non=>
  cases rx
  cases y with
  |non=>cases ry;exact PySem.EqNone.ne_none_none (aN I q (by simp))
  |bl j=>cases ry;exact PySem.EqNone.ne_none_bool (aN I q (by simp))
  |int j=>obtain ⟨t',rfl⟩:=ry;exact PySem.EqNone.ne_none_int (aN I q (by simp))
  |str j=>obtain ⟨t',rfl⟩:=ry;exact PySem.EqNone.ne_none_str (aN I q (by simp))
  |_=>exact absurd (show false=true from hs) Bool.false_ne_true
 |bl i=>
  cases rx
  cases y with
  |non=>cases ry;exact PySem.EqNone.ne_bool_none (aN I q (by simp))
  |bl j=>cases ry;exact ne_bool (aN I q (congrArg not nM))
  |str j=>obtain ⟨t',rfl⟩:=ry;exact PySem.EqMixed.ne_bool_str (aN I q (by simp))
  |_=>exact absurd (show false=true from hs) Bool.false_ne_true
 |int i=>
  obtain ⟨t,rfl⟩:=rx
  cases y with
  |non=>cases ry;exact PySem.EqNone.ne_int_none (aN I q (by simp))
  |int j=>obtain ⟨t',rfl⟩:=ry;exact ne_int (aN I q (congrArg not l9))
  |str j=>obtain ⟨t',rfl⟩:=ry;exact PySem.EqMixed.ne_int_str (aN I q (by simp))
  |_=>exact absurd (show false=true from hs) Bool.false_ne_true
 |str i=>
  obtain ⟨t,rfl⟩:=rx
  cases y with
  |non=>cases ry;exact PySem.EqNone.ne_str_none (aN I q (by simp))
  |bl j=>cases ry;exact PySem.EqMixed.ne_str_bool (aN I q (by simp))
  |int j=>obtain ⟨t',rfl⟩:=ry;exact PySem.EqMixed.ne_str_int (aN I q (by simp))
  |str j=>obtain ⟨t',rfl⟩:=ry;exact ne_str (aN I q (congrArg not ma))
  |_=>exact absurd (show false=true from hs) Bool.false_ne_true
 |byt i=>
  obtain ⟨t,rfl⟩:=rx
  cases y with
  |byt j=>obtain ⟨t',rfl⟩:=ry;exact PySem.W.ne_bytes (aN I q (congrArg not md))
  |_=>exact absurd (show false=true from hs) Bool.false_ne_true
 |_=>cases y<;>exact absurd (show false=true from hs) Bool.false_ne_true
theorem fG:OpR X (compareOp .Lt) (rI0 fun i j=>.bl (decide (i<j))):=pz fun _ _ _ _ _ _ _ q=>lt_int q
theorem dD:OpR X (compareOp .LtE) (rI0 fun i j=>.bl (decide (i<=j))):=pz fun _ _ _ _ _ _ _ q=>le_int q
theorem uU:OpR X (compareOp .Gt) (rI0 fun i j=>.bl (decide (j<i))):=pz fun _ _ _ _ _ _ _ q=>gt_int q
theorem qU:OpR X (compareOp .IsNot) (fun x y H Q=>y=.non/\Q (.bl (!decide (x=.non))) H):=by
 intro pins s σ H x y v u Q I rx ry h;obtain ⟨rfl,q⟩:=h
 cases ry
 refine isnot_none_gen (aN I q ?_)
 cases x<;>first
  | (cases rx;rfl)
  | (obtain ⟨t,rfl⟩:=rx;rfl)
theorem OpR.or{f:Value->Value->Sem Value}{r r':R2}(h:OpR X f r)(h':OpR X f r'):OpR X f (fun x y H Q=>r x y H Q\/r' x y H Q):=by
 intro pins s σ H x y v u Q I rx ry q;rcases q with q | q
 ·exact h pins s σ H x y v u Q I rx ry q
 ·exact h' pins s σ H x y v u Q I rx ry q
theorem a7(b:Expr){op:CmpOp}(h:op≠.In:=by decide)(h2:op≠.NotIn:=by decide):behindInMarks op b=false:=by
 have e1:(op == CmpOp.In)=false:=by cases op<;>first | rfl | exact absurd rfl h
 have e2:(op == CmpOp.NotIn)=false:=by cases op<;>first | rfl | exact absurd rfl h2
 cases b<;>simp[behindInMarks,e1,e2]
theorem qV{op:CmpOp}{r:R2}(ho:OpR X (compareOp op) r)(ha:PE X a ta)(hb:PE X b tb)(hm:behindInMarks op b=false):PE X (.Compare a [op] [b] pos) (tOp r ta tb):=by
 intro pins s σ H Q I h;exact wpAny_Compare1 (pv ha hb I h fun v u s2 x y H2 I2 rx ry q=>ho pins s2 σ H2 x y v u Q I2 rx ry q) hm
def qA(t:TE):TT:=fun σ H Q=>t σ H fun x H'=>∃ k,x=.bl k/\Q k H'
theorem qW{op:CmpOp}{r:R2}(ho:OpR X (compareOp op) r)(ha:PE X a ta)(hb:PE X b tb)(hm:behindInMarks op b=false):PT X (.Compare a [op] [b] pos) (qA (tOp r ta tb)):=by
 intro pins s σ H Q I h;refine wpAny_isTrue_Compare1 (thn (ha pins s σ H _ I h) fun v s1 ⟨x,H1,I1,r1,q1⟩=>thn (hb pins s1 σ H1 _ I1 q1) fun u s2 ⟨y,H2,I2,r2,q2⟩=>
  thn (ho pins s2 σ H2 x y v u _ I2 r1 r2 q2) fun c s3 ⟨z,H3,I3,r3,k,e,q3⟩=>?_) hm
 subst e
 cases r3
 exact wpAny_truthy_bool ⟨H3,I3,q3⟩
def k9(r r':R2)(ta tb tc:TE):TE:=fun σ H Q=>ta σ H fun x H1=>tb σ H1 fun y H2=>r x y H2 fun z H3=>∃ k,z=.bl k ∧
 (if k=true then tc σ H3 fun w' H4=>r' y w' H4 Q else Q (.bl false) H3)
theorem pA{op op':CmpOp}{r r':R2}(ho:OpR X (compareOp op) r)(ho':OpR X (compareOp op') r')(ha:PE X a ta)(hb:PE X b tb)(hc:PE X c tc)
    (hm:lastMarks [op,op'] [b,c]=false:=by with_unfolding_all rfl):PE X (.Compare a [op,op'] [b,c] pos) (k9 r r' ta tb tc):=by
 intro pins s σ H Q I h;refine Compare_chain (thn (ha pins s σ H _ I h) fun v s1 ⟨x,H1,I1,r1,q1⟩=>chain_link (thn (hb pins s1 σ H1 _ I1 q1) fun u s2 ⟨y,H2,I2,r2,q2⟩=>
  thn (ho pins s2 σ H2 x y v u _ I2 r1 r2 q2) fun d s3 ⟨z,H3,I3,r3,k,e,q3⟩=>?_)) hm
 subst e
 cases r3
 refine wpAny_truthy_bool ?_
 cases k with
 |false=>exact ite_ff ⟨.bl false,H3,I3,rfl,q3⟩
 |true=>exact ite_tt (chain_last (thn (hc pins s3 σ H3 _ I3 q3) fun w' s4 ⟨z',H4,I4,r4,q4⟩=>ho' pins s4 σ H4 y z' u w' Q I4 r2 r4 q4))
theorem pB{op op':CmpOp}{r r':R2}(ho:OpR X (compareOp op) r)(ho':OpR X (compareOp op') r')(ha:PE X a ta)(hb:PE X b tb)(hc:PE X c tc)
    (hm:lastMarks [op,op'] [b,c]=false:=by with_unfolding_all rfl):PT X (.Compare a [op,op'] [b,c] pos) (qA (k9 r r' ta tb tc)):=by
 intro pins s σ H Q I h;refine isTrue_chain (thn (ha pins s σ H _ I h) fun v s1 ⟨x,H1,I1,r1,q1⟩=>test_link (thn (hb pins s1 σ H1 _ I1 q1) fun u s2 ⟨y,H2,I2,r2,q2⟩=>
  thn (ho pins s2 σ H2 x y v u _ I2 r1 r2 q2) fun d s3 ⟨z,H3,I3,r3,k,e,q3⟩=>?_)) hm
 subst e
 cases r3
 refine wpAny_truthy_bool ?_
 cases k with
 |false=>
  obtain ⟨k',e',q'⟩:=q3
  cases e'
  exact ite_ff ⟨H3,I3,q'⟩
 |true=>
  refine ite_tt (test_last (thn (hc pins s3 σ H3 _ I3 q3) fun w' s4 ⟨z',H4,I4,r4,q4⟩=>thn (ho' pins s4 σ H4 y z' u w' _ I4 r2 r4 q4) fun d' s5 ⟨z2,H5,I5,r5,k2,e2,q5⟩=>?_));subst e2
  cases r5
  exact wpAny_truthy_bool ⟨H5,I5,q5⟩
theorem gQ:(sizeLine:Nat)<2 ^ 63:=by rw[sizeLine_eq];decide
theorem mL:OpR X (binaryOp .Add) (fun x y H Q=>∃ i j,x=.str i/\y=.str j/\i.length+j.length<=sizeLine/\Q (.str (i++j)) H):=by
 intro pins s σ H x y v u Q I rx ry h;obtain ⟨i,j,rfl,rfl,hz,q⟩:=h;obtain ⟨t,rfl⟩:=rx;obtain ⟨t',rfl⟩:=ry;exact add_str (fun t' tk=>⟨.str (i++j),H,I.tok _,⟨_,rfl⟩,q⟩) hz
theorem jg{x:V}{us:List Value}(r:Vals [x] us):∃ u,us=[u]/\RelV x u:=by
 cases r with
 |cons r1 r2=>cases r2;exact ⟨_,rfl,r1⟩
theorem uV{x y:V}{us:List Value}(r:Vals [x,y] us):∃ u w',us=[u,w']/\RelV x u/\RelV y w':=by
 cases r with
 |cons r1 r2=>
  cases r2 with
  |cons r3 r4=>cases r4;exact ⟨_,_,rfl,r1,r3⟩
theorem nN(hc:X.calm=true):CallR X (.builtin "min") (fun xs H Q=>∃ i j,xs=[.int i,.int j]/\Q (.int (if j<i then j else i)) H):=by
 intro pins s σ H xs us Q I r h;obtain ⟨i,j,rfl,q⟩:=h;obtain ⟨u,w',rfl,⟨t,rfl⟩,⟨t',rfl⟩⟩:=uV r;refine min_two_ints (I.ok.hd hc) fun h' tk k=>⟨_,H,I.kept k,?_,q⟩
 by_cases hj:j<i
 ·rw[if_pos hj,if_pos hj];exact ⟨_,rfl⟩
 ·rw[if_neg hj,if_neg hj];exact ⟨_,rfl⟩
end
structure ObjM (h:Heap) (x dx C:Addr) (mA:Str->Option Value):Prop where
 obj:h.get? x=some (PySem.W.instObj C dx)
 ns:h.Ns1 dx mA
 ne:dx≠x
theorem nO{h:Heap}{dx:Addr}{mA:Str->Option Value}(n:h.Ns1 dx mA):∃ od,h.get? dx=some od/\∀ name,PySem.W.lookIn name od=some (mA name):=by
 obtain ⟨o,es,ep,ho,hd,hk,_,hm⟩:=n;refine ⟨o,ho,fun name=>?_⟩;have e:=hm name;unfold nsFind findBy at e;rw[<- Array.find?_toList] at e;unfold PySem.W.lookIn;rw[hd];dsimp only;split
 ·rename_i y q
  rw[q] at e;exact congrArg some e
 ·rename_i q
  rw[q] at e;have a:es.toList.any (·.refKey)=false:=by
   rw[List.any_eq_false];intro y hy;obtain ⟨z,t,hkey⟩:=hk y (Array.mem_toList_iff.mp hy);simp[DictEntry.refKey,hkey]
  have a':¬ es.toList.any (·.refKey)=true:=by rw[a];exact Bool.false_ne_true
  rw[if_neg a'];exact congrArg some e
theorem ObjM.look{h:Heap}{x dx C:Addr}{mA:Str->Option Value}(I:ObjM h x dx C mA):∃ od,PySem.W.InstAt h x (PySem.W.instObj C dx) C (some od)/\∀ name,PySem.W.lookIn name od=some (mA name):=
 let ⟨od,ho,hl⟩:=nO I.ns
 ⟨od,⟨I.obj,rfl,rfl,ho⟩,hl⟩
section
variable {prog:Program}{w:World}{A:Around}{E:Value->Shared->Prop}{s:Shared}{K:PySem.W.Frag}{x dx C f:Addr}{mA:Str->Option Value}{name:Str}{v:Value}
theorem qX{expr:Bool}{Q:Value->Shared->Prop}(X:K.In s.heap)(I:ObjM s.heap x dx C mA)(hg:PySem.W.plainGet K C name=true)(hh:PySem.W.hasDictIn K C=true)
    (ha:PySem.W.findIn K (.ref C) name=some none) (hv:mA name=some v) (hv':PySem.W.handedIn v=true) (h:Q v { s with toks:=s.toks+1 }) :
    wpAny (model prog w) A (getAttr (.ref x) name expr) Q E s:=by
 obtain ⟨od,J,hl⟩:=I.look;exact PySem.W.get_value X J (PySem.W.plainGet_of hg).1 (PySem.W.findObj_own hh ha rfl (by rw[hl,hv])) hv' h
theorem qY{ns:List Str}{Q:Unit->Shared->Prop}(X:K.In s.heap)(I:ObjM s.heap x dx C mA)
    (hs:PySem.W.findIn K (.ref C) "__setattr__" = some (some (.builtin "object.__setattr__"))) (hp:PySem.W.plainOver K C=true) (ht:PySem.W.takerIn K C name=some none) (hh:PySem.W.hasDictIn K C=true)
    (hw:PySem.Within mA ns) (hsz:ns.length<=sizeLine)
    (h:∀ h',ObjM h' x dx C (fun y=>if y=name then some v else mA y)->Heap.SameBut dx s.heap h'->Q () { s with heap:=h',toks:=s.toks+2 }) :
    wpAny (model prog w) A (setAttr (.ref x) name v) Q E s:=by
 obtain ⟨od,J,hl⟩:=I.look;refine PySem.W.set_plain X J hs (PySem.W.osa_open (s:={ s with toks:=s.toks+1 }) (r:=none) X J hp ht fun b=>?_);obtain ⟨cd,hc,hd'⟩:=PySem.W.any_some hh;have hx:s.heap.get? x=some ⟨.ref C,some dx,.plain,#[]⟩:=I.obj
 refine wpAny_bind (wpAny_pure (wpAny_bind (wpAny_bind (wpAny_loadPart hx (wpAny_bind (PySem.W.Looks.here (s:={ s with toks:=s.toks+1 }) (PySem.W.looks_clsIn X hc) ?_))))));rw[hd'];refine wpAny_pure (a:=some dx) (wpAny_bind (wpAny_pure (wpAny_bind ?_)));refine wpAny_nsSet1 (s:={ s with toks:=s.toks+1 }) I.ns fun h' hn2 hs2=>?_
 obtain ⟨oD,esD,epD,hoD,hdD,hcD⟩:=hn2.count (PySem.Within.cons name v hw);refine wpAny_bind (wpAny_lookBehind hoD (by rw[hdD];exact pastItsLine_dict (Nat.le_trans hcD (by rw[List.length_cons];omega))) ?_);exact wpAny_pure (h _ ⟨(hs2.2 _ (Ne.symm I.ne)).trans I.obj,hn2,I.ne⟩ hs2)
theorem pC{R:Result->Shared->Prop}{vs:List Value}{kw:List (Str × Value)}(X:K.In s.heap)(hm:PySem.W.makesIn K C=true)
    (hi:PySem.W.findIn K (.ref C) "__init__" = some (some (.ref f))) (hf:PySem.W.typeIn K (.ref f)=some (.type "function"))
    (h:codeAny (model prog w) (A.under (.builtin "type.__call__" ⟨.ref C::vs,kw⟩)) (.call (.ref f) ⟨.ref (s.heap.objs.size+1)::vs,kw⟩) (PySem.W.InitBack (s.heap.objs.size+1) R)
     { s with heap:=(s.heap.push PySem.W.emptyDict).push (PySem.W.instObj C s.heap.objs.size) }) :
    codeAny (model prog w) A (.call (.ref C) ⟨vs,kw⟩) R s:=by
 obtain ⟨hh,g,d,t,os⟩:=s;exact PySem.W.make_core (PySem.W.makes_of X hm) (PySem.W.looks_findIn X hi) (fun self=>PySem.W.bind_fn X self hf) (.inl rfl) h
end
def cr(f:Str)(v:V):List (Str × V)->List (Str × V)
 | []=>[(f,v)]
 | (g,x)::r=>if g=f then (g,v)::r else (g,x)::cr f v r
theorem iI(f g:Str)(v:V):∀ fs:List (Str × V),(cr f v fs).lookup g=if g=f then some v else fs.lookup g
 | []=>by
  show List.lookup g [(f,v)]=_;by_cases h:g=f
  ·have hb:(g == f)=true:=beq_iff_eq.mpr h
   simp only[List.lookup,hb,if_pos h]
  ·have hb:(g == f)=false:=beq_eq_false_iff_ne.mpr h
   simp only[List.lookup,hb,if_neg h]
 | (k,x)::r=>by
  have ih:=iI f g v r;rw[show cr f v ((k,x)::r)=(if k=f then (k,v)::r else (k,x)::cr f v r) from rfl];by_cases hk:k=f
  ·rw[if_pos hk]
   by_cases h:g=k
   ·have hb:(g == k)=true:=beq_iff_eq.mpr h
    simp only[List.lookup,hb,if_pos (h.trans hk)]
   ·have hb:(g == k)=false:=beq_eq_false_iff_ne.mpr h
    simp only[List.lookup,hb,if_neg (fun e:g=f=>h (e.trans hk.symm))]
  ·rw[if_neg hk]
   by_cases h:g=k
   ·have hb:(g == k)=true:=beq_iff_eq.mpr h
    simp only[List.lookup,hb,if_neg (fun e:g=f=>hk (h.symm.trans e))]
   ·have hb:(g == k)=false:=beq_eq_false_iff_ne.mpr h
    simp only[List.lookup,hb];exact ih
theorem gR(f:Str)(v:V):∀ fs:List (Str × V),f∈(cr f v fs).map (·.1)/\∀ g,g∈fs.map (·.1)->g∈(cr f v fs).map (·.1)
 | []=>⟨by simp[cr],fun g h=>by simp at h⟩
 | (k,x)::r=>by
  obtain ⟨i1,i2⟩:=gR f v r;rw[show cr f v ((k,x)::r)=(if k=f then (k,v)::r else (k,x)::cr f v r) from rfl];by_cases hk:k=f
  ·rw[if_pos hk]
   subst hk;exact ⟨by simp,fun g h=>by simpa using h⟩
  ·rw[if_neg hk]
   refine ⟨?_,fun g h=>?_⟩
   ·rw[List.map_cons]
    exact List.mem_cons_of_mem _ i1
   ·rw[List.map_cons] at h ⊢
    rcases List.mem_cons.mp h with e | e
    ·exact List.mem_cons.mpr (.inl e)
    ·exact List.mem_cons_of_mem _ (i2 g e)
theorem iJ(f:Str)(v:V):∀ fs:List (Str × V),(cr f v fs).length<=fs.length+1
 | []=>by simp[cr]
 | (k,x)::r=>by
  have ih:=iJ f v r;rw[show cr f v ((k,x)::r)=(if k=f then (k,v)::r else (k,x)::cr f v r) from rfl];by_cases hk:k=f
  ·rw[if_pos hk,List.length_cons,List.length_cons];omega
  ·rw[if_neg hk,List.length_cons,List.length_cons];omega
theorem RelO.some_of{v:V}{o:Option Value}(r:RelO (some v) o):∃ u,o=some u/\RelV v u:=by
 cases o with
 |none=>exact (show False from r).elim
 |some u=>exact ⟨u,rfl,r⟩
theorem nP{v:V}{u:Value}(r:RelV v u):PySem.W.handedIn u=true:=by
 cases v with
 |non=>cases (show u=Value.none from r);rfl
 |bl b=>cases (show u=Value.bool b from r);rfl
 |int i=>obtain ⟨t,e⟩:=(show ∃ t,u=Value.int i t from r);cases e;rfl
 |str x=>obtain ⟨t,e⟩:=(show ∃ t,u=Value.str x t from r);cases e;rfl
 |byt b=>obtain ⟨t,e⟩:=(show ∃ t,u=Value.bytes b t from r);cases e;rfl
 |flt b=>obtain ⟨t,e⟩:=(show ∃ t,u=Value.float b t from r);cases e;rfl
 |ref a=>cases (show u=Value.ref a from r);rfl
 |ty n=>cases (show u=Value.type n from r);rfl
section
variable {P:Program}{w:World}{H H':Hp}{h h':Heap}{a C dx:Addr}{fs fs':List (Str × V)}
theorem me(hok:HOk P w H h)(e:H a=some (.ins C dx fs)):∃ mA,ObjM h a dx C mA/\(∀ f,RelO (fs.lookup f) (mA f))/\PySem.Within mA (fs.map (·.1))/\fs.length<=1000/\H dx=some (.own a):=by
 obtain ⟨d,z,ne,ob,mA,n,r,q⟩:=(show ObjOk P w H h a (.ins C dx fs) from hok a _ e)
 exact ⟨mA,⟨ob,n,ne⟩,r,q,z,d⟩
end
structure Cls (K:PySem.W.Frag) (C:Addr):Prop where
 pg:PySem.W.plainGet K C Str.empty=true
 hd:PySem.W.hasDictIn K C=true
 po:PySem.W.plainOver K C=true
 sa:PySem.W.findIn K (.ref C) "__setattr__" = some (some (.builtin "object.__setattr__"))
theorem Cls.get{K:PySem.W.Frag}{C:Addr}(c:Cls K C)(f:Str):PySem.W.plainGet K C f=true:=c.pg
def NoAttr(K:PySem.W.Frag)(C:Addr)(f:Str):Prop:=PySem.W.findIn K (.ref C) f=some none
theorem NoAttr.taker{K:PySem.W.Frag}{C:Addr}{f:Str}(n:NoAttr K C f):PySem.W.takerIn K C f=some none:=by
 unfold PySem.W.takerIn;rw[show PySem.W.findIn K (.ref C) f=some none from n];rfl
structure Con (K:PySem.W.Frag) (C:Addr) (f:Str) (v:V) (u:Value):Prop where
 at_:PySem.W.findIn K (.ref C) f=some (some u)
 rel:RelV v u
 get:PySem.W.specialIn K u "__get__" = some none
 cp:PySem.W.copiedNames.contains f=false
structure Meth (K:PySem.W.Frag) (C:Addr) (m:Str) (f:Addr):Prop where
 at_:PySem.W.findIn K (.ref C) m=some (some (.ref f))
 fn:PySem.W.isFn K (.ref f)=true
 kp:PySem.W.keepIn K (.ref f)=true
section
variable {X:Cx}{pins:List (Addr × Obj)}{σ:St}{H:Hp}{s:Shared}{a C dx:Addr}{fs:List (Str × V)}{f:Str}{v:V}{A:Around}{E:Value->Shared->Prop}
theorem mM{b:Bool}{Q:Value->Shared->Prop}(I:Inv X pins σ H s)(e:H a=some (.ins C dx fs))(c:Cls X.K C)(n:NoAttr X.K C f)(l:fs.lookup f=some v)
    (h:∀ u s',Inv X pins σ H s'->RelV v u->Q u s'):wpAny (model X.prog X.w) A (getAttr (.ref a) f b) Q E s:=by
 obtain ⟨mA,O,r,_,_,_⟩:=me I.hok e;obtain ⟨u,hu,ru⟩:=RelO.some_of (v:=v) (o:=mA f) (by rw[<- l];exact r f);exact qX I.kIn O (c.get f) c.hd n hu (nP ru) (h u _ (I.tok _) ru)
theorem mO{y:V}{u:Value}{Q:Unit->Shared->Prop}(I:Inv X pins σ H s)(e:H a=some (.ins C dx fs))(c:Cls X.K C)(n:NoAttr X.K C f)(hl:fs.length<1000)(ry:RelV y u)
    (h:∀ s',Inv X pins σ (upd H a (.ins C dx (cr f y fs))) s'->Q () s'):wpAny (model X.prog X.w) A (setAttr (.ref a) f u) Q E s:=by
 obtain ⟨mA,O,r,wi,_,ho⟩:=me I.hok e;have hz:(fs.map (·.1)).length<=sizeLine:=by rw[List.length_map,sizeLine_eq];omega
 refine qY I.kIn O c.sa c.po n.taker c.hd wi hz fun h' O' sb=>h _ ?_;have hd:∃ o,h'.get? dx=some o:=let ⟨o,_,_,e',_⟩:=O'.ns;⟨o,e'⟩;refine I.write (x:=a) (e:=dx) (by rw[e];exact True.intro) (.inr ho) (fun b q hb z=>(sb.2 b hb).trans z) hd ?_;refine ⟨by rw[aD O.ne];exact ho,?_,O.ne,O'.obj,_,O'.ns,fun g=>?_,fun g hg=>?_⟩
 ·have:=iJ f y fs;omega
 ·show RelO ((cr f y fs).lookup g) (if g=f then some u else mA g)
  rw[iI];by_cases q:g=f
  ·rw[if_pos q,if_pos q];exact ry
  ·rw[if_neg q,if_neg q];exact r g
 ·by_cases q:g=f
  ·rw[q];exact (gR f y fs).1
  ·refine (gR f y fs).2 g (wi g fun z=>hg ?_)
   show (if g=f then some u else mA g)=none;rw[if_neg q];exact z
theorem Inv.made(I:Inv X pins σ H s):Inv X pins σ (upd (upd H s.heap.objs.size (.own (s.heap.objs.size+1))) (s.heap.objs.size+1) (.ins C s.heap.objs.size []))
    { s with heap:=(s.heap.push PySem.W.emptyDict).push (PySem.W.instObj C s.heap.objs.size) }:=by
 have e1:(s.heap.push PySem.W.emptyDict).get? s.heap.objs.size=some PySem.W.emptyDict:=Heap.get?_push_size s.heap rfl;have e2:((s.heap.push PySem.W.emptyDict).push (PySem.W.instObj C s.heap.objs.size)).get? (s.heap.objs.size+1)=some (PySem.W.instObj C s.heap.objs.size):=by
  have:=Heap.get?_push_size (s.heap.push PySem.W.emptyDict) (o:=PySem.W.instObj C s.heap.objs.size) rfl;rwa [Heap.size_push] at this
 have e3:(s.heap.push PySem.W.emptyDict).Ns s.heap.objs.size (fun _=>none):=⟨PySem.W.emptyDict,#[],_,e1,rfl,(fun e he=>absurd he (by simp)),fun _=>rfl⟩
 have I1:=I.laid (a:=s.heap.objs.size) (o:=.own (s.heap.objs.size+1)) (h':=s.heap.push PySem.W.emptyDict) (t':=s.toks) (fun b u q=>Heap.get?_push_of_some _ q) (Nat.le_refl _) ⟨_,e1⟩;refine I1.laid (a:=s.heap.objs.size+1) (o:=.ins C s.heap.objs.size []) (t':=s.toks) (fun b u q=>Heap.get?_push_of_some _ q) (Nat.le_of_eq (Heap.size_push _ _)) ?_
 have ne:s.heap.objs.size≠s.heap.objs.size+1:=Nat.ne_of_lt (Nat.lt_succ_self _);refine ⟨by rw[aD ne,bc],Nat.zero_le _,ne,e2,fun _=>none,(Heap.Ns1.of_empty e3).at fun o q=>Heap.get?_push_of_some _ q,fun _=>True.intro,fun y hy=>absurd rfl hy⟩
theorem qZ{prog:Program}{w:World}{env:Env}{e:Expr}{f:Str}{pos:Pos}{s:Shared}{Q:Value->Shared->Prop}(hb:attributeBase e f env (eval e env)=eval e env)
    (h:wpAny (model prog w) A (eval e env) (fun o s₁=>wpAny (model prog w) A (getAttr o f true) Q E s₁) E s):wpAny (model prog w) A (eval (.Attribute e f pos) env) Q E s:=
 Attribute_any_ h (by rw[arm_eval_Attribute,hb])
end
def vQ(K:PySem.W.Frag)(ta:TE)(f:Str):TE:=fun σ H Q=>ta σ H fun x H1=>∃ a C dx fs v,x=.ref a/\H1 a=some (.ins C dx fs)/\Cls K C/\NoAttr K C f/\fs.lookup f=some v/\Q v H1
def vR(K:PySem.W.Frag)(ta tv:TE)(f:Str):TS:=fun D σ H=>tv σ H fun y H1=>ta σ H1 fun x H2=>∃ a C dx fs,x=.ref a/\H2 a=some (.ins C dx fs)/\Cls K C/\NoAttr K C f/\fs.length<1000 ∧
 D.nx σ (upd H2 a (.ins C dx (cr f y fs)))
section
variable {X:Cx}{o e value:Expr}{f:Str}{pos pos' tpos:Pos}{ta tv:TE}
theorem sU(he:PE X e ta)(hb:attributeBase e f X.env (eval e X.env)=eval e X.env):PE X (.Attribute e f pos) (vQ X.K ta f):=by
 intro pins s σ H Q I h;refine qZ hb (thn (he pins s σ H _ I h) fun u s1 ⟨x,H1,I1,rx,a,C,dx,fs,v,ex,ea,c,n,l,q⟩=>?_);subst ex;obtain rfl:u=Value.ref a:=rx;exact mM I1 ea c n l fun u' s2 I2 ru=>⟨v,H1,I2,ru,q⟩
theorem sV(ha:PE X o ta)(hv:PE X value tv)(hs:swapsWith value (some (.Attribute o f pos')) pos.line X.env=pure false):PS X (.Assign [.Attribute o f pos'] value pos) (vR X.K ta tv f):=by
 intro pins s σ H D I h;refine plainObj_wpAny_Assign_Attribute (thn (hv pins s σ H _ I h) fun u s1 ⟨y,H1,I1,ry,q⟩=>thn (ha pins s1 σ H1 _ I1 q) fun ov s2 ⟨x,H2,I2,rx,a,C,dx,fs,ex,ea,c,n,l,q2⟩=>?_) hs;subst ex;obtain rfl:ov=Value.ref a:=rx;exact mO I2 ea c n l ry fun s3 I3=>⟨σ,_,I3,q2⟩
end
section
variable {X:Cx}{pins:List (Addr × Obj)}{σ:St}{H:Hp}{s:Shared}{A:Around}{E:Value->Shared->Prop}{Q:Value->Shared->Prop}{c:Value}{b:Bool}
inductive TyOf (K:PySem.W.Frag) (H:Hp):V->Value->Prop where
 |non:TyOf K H .non (.type "NoneType")
 |bl (x:Bool):TyOf K H (.bl x) (.type "bool")
 |int (i:Int):TyOf K H (.int i) (.type "int")
 |str (x:Str):TyOf K H (.str x) (.type "str")
 |flt (x:UInt64):TyOf K H (.flt x) (.type "float")
 |lst {a:Addr} {xs:List V} (e:H a=some (.lst xs)):TyOf K H (.ref a) (.type "list")
 |frz {a:Addr} {o:Obj} {xs:List V} (e:H a=some (.frz o (.lst xs))):TyOf K H (.ref a) (.type "list")
 |tup {a:Addr} {xs:List V} (e:H a=some (.tup xs)):TyOf K H (.ref a) (.type "tuple")
 |dK {a:Addr} {kvs:List (Key × V)} (e:H a=some (.dK kvs)):TyOf K H (.ref a) (.type "dict")
 |dT {a:Addr} {kvs:List (List Key × V)} (e:H a=some (.dT kvs)):TyOf K H (.ref a) (.type "dict")
 |ins {a C dx:Addr} {fs:List (Str × V)} (e:H a=some (.ins C dx fs)) (cl:Cls K C) (ha:PySem.W.findIn K (.ref C) "__class__" = some (some (.builtin "object.__class__")))
     (hn:PySem.W.specialIn K (.builtin "object.__class__") "__get__" = some (some (.builtin "getset_descriptor.__get__"))) (htk:PySem.W.takesIn K (.builtin "object.__class__")=some true)
     (hm:PySem.W.mroIn K C (.type "object")=some true):TyOf K H (.ref a) (.ref C)
end
structure Room (k:Nat) (A:Around):Prop where
 hd:A.handled=none
 dp:A.depth+3*k+5<recursionLimit
 un:A.units+16*k+200<cLine
theorem Room.mono{j k:Nat}{A:Around}(r:Room k A)(h:j<=k):Room j A:=⟨r.hd,by have:=r.dp;omega,by have:=r.un;omega⟩
theorem Room.deeper{k:Nat}{A:Around}(r:Room (k+1) A)(env:Env):Room k (A.deeper env):=
 ⟨r.hd,by have:=r.dp;show A.depth+1+3*k+5<_;omega,by have:=r.un;show A.units+3+16*k+200<_;omega⟩
theorem mP{A:Around}{C:Addr}{us:List Value}{kw:List (Str × Value)}:(A.under (.builtin "type.__call__" ⟨.ref C::us,kw⟩)).depth=A.depth+1:=by
 first | rfl | simp[Around.under,Code.weight,Code.isCreation,Code.isGuard,Code.isCaller,Code.frames,Code.isFrame,guardIds]
theorem mQ{A:Around}{C:Addr}{us:List Value}{kw:List (Str × Value)}:(A.under (.builtin "type.__call__" ⟨.ref C::us,kw⟩)).units=A.units+1:=by
 first | rfl | simp[Around.under,Code.cUnits,Code.frames,Code.isFrame]
theorem Room.make{k:Nat}{A:Around}(r:Room (k+1) A)(C:Addr)(us:List Value)(kw:List (Str × Value)):Room k (A.under (.builtin "type.__call__" ⟨.ref C::us,kw⟩)):=
 ⟨r.hd,by have:=r.dp;rw[mP];omega,by have:=r.un;rw[mQ];omega⟩
theorem Room.depth{k:Nat}{A:Around}(r:Room k A):A.depth<recursionLimit:=by have:=r.dp;omega
def vU:TA:=fun _ H Q=>Q [] H
def uW(ta:TE)(tr:TA):TA:=fun σ H Q=>ta σ H fun x H1=>tr σ H1 fun xs H2=>Q (x::xs) H2
section
variable {X:Cx}{e:Expr}{es:List Expr}{te:TE}{t:TA}{pos:Pos}
theorem dj:PA X [] vU:=fun _ _ _ _ H Q I h=>Calls.spliced_nil ⟨[],H,I,.nil,h⟩
theorem cv(ha:PE X e te)(hr:PA X es t)(hs:starEach (e::es) X.env=(false,eval e X.env)::starEach es X.env:=by rfl):PA X (e::es) (uW te t):=by
 intro pos pins s σ H Q I h;rw[hs];show wpAny _ _ (spliced ((false,eval e X.env)::backTo pos (starEach es X.env))) _ _ s;refine Calls.spliced_cons (thn (ha pins s σ H _ I h) fun u s1 ⟨x,H1,I1,r1,q1⟩=>?_);exact thn (hr pos pins s1 σ H1 _ I1 q1) fun us s2 ⟨xs,H2,I2,r2,q2⟩=>⟨x::xs,H2,I2,.cons r1 r2,q2⟩
def vV(t:TA):TE:=fun σ H Q=>t σ H fun xs H1=>xs.length<=sizeLine/\∀ p,H1 p=none->Q (.ref p) (upd H1 p (.tup xs))
def vW(t:TA):TE:=fun σ H Q=>t σ H fun xs H1=>xs.length<=sizeLine/\∀ p,H1 p=none->Q (.ref p) (upd H1 p (.lst xs))
theorem sW{x1}(h:PA X es t):PE X (.Tuple es x1 pos) (vV t):=by
 intro pins s σ H Q I hq;refine wpAny_Tuple_spliced (thn (h pos pins s σ H _ I hq) fun us s1 ⟨xs,H1,I1,r,z,q⟩=>⟨by rw[<- r.length];exact z,?_⟩);have hf:H1 s1.heap.objs.size=none:=I1.hok.fresh (Nat.le_refl _);refine ⟨.ref s1.heap.objs.size,upd H1 s1.heap.objs.size (.tup xs),I1.laid (t':=s1.toks) (fun b u e=>Heap.get?_push_of_some _ e) (Nat.le_refl _) ?_,rfl,q _ hf⟩
 exact ⟨z,us,r,⟨_,Heap.get?_push_size _ rfl,rfl,_,rfl⟩⟩
theorem sX(h:PA X es t):PE X (.List es pos) (vW t):=by
 intro pins s σ H Q I hq;refine wpAny_List_spliced (thn (h pos pins s σ H _ I hq) fun us s1 ⟨xs,H1,I1,r,z,q⟩=>⟨by rw[<- r.length];exact z,?_⟩);have hf:H1 s1.heap.objs.size=none:=I1.hok.fresh (Nat.le_refl _);refine ⟨.ref s1.heap.objs.size,upd H1 s1.heap.objs.size (.lst xs),I1.laid (t':=s1.toks) (fun b u e=>Heap.get?_push_of_some _ e) (Nat.le_refl _) ?_,rfl,q _ hf⟩
 exact ⟨z,us,0,r,Heap.get?_push_size _ rfl⟩
end
abbrev Sp:=List V->Hp->VK->XK->Prop
abbrev CXT:=List Env->Hp->Shared->XK->Value->Shared->Prop
structure Env0 (P:Program) (w:World) (K:PySem.W.Frag) (mg:Str->Option Value) (base:Heap) (A:Around) (outer:List Env) (s:Shared) (H:Hp):Prop where
 frames:A.frames=some outer
 mod:Mod K mg base
 bs:∀ b o,base.get? b=some o->s.heap.get? b=some o/\H b=none
 bsz:base.objs.size<=s.heap.objs.size
 funs:s.heap.FunFrames base outer
 frf:∀ b∈frs outer,H b=none
 hok:HOk P w H s.heap
 bare:AllBare s.gens
def CE(outer:List Env)(P:Program)(w:World)(H:Hp)(s:Shared)(Q:VK)(u:Value)(s':Shared):Prop:=
 ∃ v H',s'.os=s.os/\AllBare s'.gens/\Un (frs outer) [] H H' s.heap s'.heap/\HOk P w H' s'.heap/\RelV v u/\Q v H'
def CR(CX:CXT)(outer:List Env)(P:Program)(w:World)(H:Hp)(s:Shared)(Q:VK)(E:XK)(r:Result)(s':Shared):Prop:=
 match r with
 | .ok (.ret u)=>CE outer P w H s Q u s'
 | .ok _=>False
 | .error e=>CX outer H s E e s'
structure FnOk (P:Program) (w:World) (K:PySem.W.Frag) (mg:Str->Option Value) (base:Heap) (CX:CXT) (k:Nat) (f:Addr) (fd:FuncData) (ps:List Str) (sp:Sp):Prop where
 len:∀ vs H Q E,sp vs H Q E->vs.length=ps.length
 run:∀ (A:Around) (outer:List Env) (s:Shared) (H:Hp) (args:Args) (us:List Value) (vs:List V) (Q:VK) (E:XK),Room k A->Env0 P w K mg base A outer s H->BindsTo s fd args (ps.zip us)->Vals vs us->sp vs H Q E →
  codeAny (model P w) A (.call (.ref f) args) (CR CX outer P w H s Q E) s
theorem Env0.make{P:Program}{w:World}{K:PySem.W.Frag}{mg:Str->Option Value}{base:Heap}{A:Around}{outer:List Env}{s:Shared}{H:Hp}(e:Env0 P w K mg base A outer s H)(C:Addr)(us:List Value)(kw:List (Str × Value)) :
    Env0 P w K mg base (A.under (.builtin "type.__call__" ⟨.ref C::us,kw⟩)) outer s H:=⟨by first | exact e.frames | (simpa [Around.under,Code.envs,Code.isFrame,pushEnvs] using e.frames),e.mod,e.bs,e.bsz,e.funs,e.frf,e.hok,e.bare⟩
section
variable {X:Cx}{pins:List (Addr × Obj)}{σ:St}{H:Hp}{s s':Shared}
theorem Inv.env0(I:Inv X pins σ H s):Env0 X.prog X.w X.K X.mg X.base X.A X.stack s H:=
 ⟨I.ok.frames,I.ok.mod,I.bs,Nat.le_trans I.ok.bsz I.sz,I.stack,I.stkFree,I.hok,I.bare⟩
theorem Inv.after{Q:VK}{u:Value}(I:Inv X pins σ H s)(h:CE X.stack X.prog X.w H s Q u s'):EP X pins σ Q u s':=by
 obtain ⟨v,H',os,bare,un,hok,r,q⟩:=h;obtain ⟨hh,g,d,t,os'⟩:=s';obtain rfl:os'=s.os:=os;exact ⟨v,H',I.call (h':=hh) (g':=g) (d':=d) (t':=t) (ch:=[]) un hok bare (fun b z=>absurd z (by simp)),r,q⟩
end
def mR(sp:Sp)(dvs:List V)(E:XK)(t:TA):TE:=fun σ H Q=>t σ H fun vs H1=>sp (vs++dvs) H1 Q E
def uX(C:Addr)(sp:Sp)(dvs:List V)(E:XK)(t:TA):TE:=fun σ H Q=>t σ H fun vs H1=>∀ x dx,H1 x=none->H1 dx=none->dx≠x →
 sp (.ref x::(vs++dvs)) (upd (upd H1 dx (.own x)) x (.ins C dx [])) (fun v H2=>v=.non/\Q (.ref x) H2) E
def Binds(K:PySem.W.Frag)(fd:FuncData)(ps:List Str)(ds:List Value):Prop:=
 ∀ (s:Shared) (us:List Value),K.In s.heap->(us++ds).length=ps.length->BindsTo s fd ⟨us,[]⟩ (ps.zip (us++ds))
theorem Binds.all{K:PySem.W.Frag}{fd:FuncData}{ps:List Str}(h:∀ us:List Value,us.length=ps.length->bindArgs fd ⟨us,[]⟩=pure (ps.zip us)):Binds K fd ps []:=fun s us _ hl=>by
 rw[List.append_nil] at hl ⊢;exact .of_eq (h us hl)
def et(CX:CXT)(X:Cx)(E:XK):Prop:=∀ (pins:List (Addr × Obj)) (σ:St) (H:Hp) (s:Shared) (e:Value) (s':Shared),Inv X pins σ H s->CX X.stack H s E e s'->X.xe e s'
section
variable {X:Cx}{CX:CXT}{k:Nat}{f C:Addr}{fd:FuncData}{ps:List Str}{sp:Sp}{dvs:List V}{ds:List Value}{E:XK}{x m:Str}{p pos apos:Pos}{e o:Expr}{es:List Expr}{ta:TE}{t:TA}
theorem sY{pins:List (Addr × Obj)}{σ:St}{H:Hp}{s:Shared}{Q:VK}{us:List Value}{vs:List V}(F:FnOk X.prog X.w X.K X.mg X.base CX k f fd ps sp)(hr:Room k X.A)(hb:Binds X.K fd ps ds)(hd:Vals dvs ds)(hx:et CX X E)
    (I:Inv X pins σ H s) (r:Vals vs us) (h:sp (vs++dvs) H Q E):wpAny (model X.prog X.w) X.A (call (.ref f) us) (EP X pins σ Q) X.xe s:=by
 have r2:Vals (vs++dvs) (us++ds):=r.append hd;have hl:(us++ds).length=ps.length:=by rw[<- r2.length];exact F.len _ _ _ _ h
 refine wpAny_call (codeAny_mono (F.run X.A X.stack s H ⟨us,[]⟩ (us++ds) (vs++dvs) Q E hr I.env0 (hb s us I.kIn hl) r2 h) fun r s' hq=>?_)
 cases r with
 |error e=>exact hx pins σ H s e s' I hq
 |ok fl=>
  cases fl with
  |ret u=>exact I.after hq
  |next=>exact False.elim hq
  |brk=>exact False.elim hq
  |cont=>exact False.elim hq
theorem mf(F:FnOk X.prog X.w X.K X.mg X.base CX k f fd ps sp)(hr:Room k X.A)(hg:Gl X x)(hm:X.mg x=some (.ref f))(hk:PySem.W.keepIn X.K (.ref f)=true)(hb:Binds X.K fd ps ds)(hd:Vals dvs ds)(hx:et CX X E)
    (ha:PA X (e::es) t) (hdb:(x == ("__debug__" : Str))=false:=by decide) (he:starEach (e::es) X.env=(false,eval e X.env)::starEach es X.env:=by rfl) (hpl:(backTo pos (starEach es X.env)).any (·.1)=false:=by rfl) :
    PE X (.Call (.Name x p) (e::es) [] pos) (mR sp dvs E t):=by
 intro pins s σ H Q I h;refine wpAny_Call_Name_kw (du I hg hm ?_ hdb);refine PySem.W.callWith_K (h₀:=X.base) I.ok.mod.kin hk (thn (ha pos pins s σ H _ I h) fun us s1 ⟨vs,H1,I1,r,q⟩=>⟨I1.kIn,?_⟩) he hpl;exact sY F hr hb hd hx I1 r q
structure Mk (K:PySem.W.Frag) (C f:Addr):Prop where
 makes:PySem.W.makesIn K C=true
 init:PySem.W.findIn K (.ref C) "__init__" = some (some (.ref f))
 fn:PySem.W.isFn K (.ref f)=true
 kp:PySem.W.keepIn K (.ref C)=true
theorem pD{pins:List (Addr × Obj)}{σ:St}{H:Hp}{s:Shared}{Q:VK}{us:List Value}{vs:List V}(M:Mk X.K C f)(F:FnOk X.prog X.w X.K X.mg X.base CX k f fd ps sp)(hr:Room (k+1) X.A)(hb:Binds X.K fd ps ds)(hd:Vals dvs ds)
    (hx:et CX X E) (I:Inv X pins σ H s) (r:Vals vs us)
    (h:∀ x dx,H x=none->H dx=none->dx≠x->sp (.ref x::(vs++dvs)) (upd (upd H dx (.own x)) x (.ins C dx [])) (fun v H2=>v=.non/\Q (.ref x) H2) E) :
    wpAny (model X.prog X.w) X.A (call (.ref C) us) (EP X pins σ Q) X.xe s:=by
 have hq:=h (s.heap.objs.size+1) s.heap.objs.size (I.hok.fresh (Nat.le_succ _)) (I.hok.fresh (Nat.le_refl _)) (Nat.ne_of_lt (Nat.lt_succ_self _));have I2:=Inv.made (C:=C) I;have r2:Vals (V.ref (s.heap.objs.size+1)::(vs++dvs)) (Value.ref (s.heap.objs.size+1)::(us++ds)):=.cons rfl (r.append hd);have hl:(Value.ref (s.heap.objs.size+1)::us++ds).length=ps.length:=by
  have e:=r2.length;rw[F.len _ _ _ _ hq] at e;exact e.symm
 refine wpAny_call (pC (f:=f) I.kIn M.makes M.init (beq_iff_eq.mp M.fn) (codeAny_mono (F.run _ X.stack _ _ ⟨Value.ref (s.heap.objs.size+1)::us,[]⟩ (Value.ref (s.heap.objs.size+1)::(us++ds)) _ _ E (hr.make C us [])
  (I2.env0.make C us []) (hb _ (Value.ref (s.heap.objs.size+1)::us) I2.kIn hl) r2 hq) fun r s' hq'=>?_))
 cases r with
 |error e=>exact hx pins σ _ _ e s' I2 hq'
 |ok fl=>
  cases fl with
  |ret u=>
   obtain ⟨v,H',I3,rv,ev,q3⟩:=I2.after hq';subst ev;exact ⟨rv,⟨V.ref (s.heap.objs.size+1),H',I3,rfl,q3⟩⟩
  |next=>exact False.elim hq'
  |brk=>exact False.elim hq'
  |cont=>exact False.elim hq'
theorem q8(M:Mk X.K C f)(F:FnOk X.prog X.w X.K X.mg X.base CX k f fd ps sp)(hr:Room (k+1) X.A)(hg:Gl X x)(hm:X.mg x=some (.ref C))(hb:Binds X.K fd ps ds)(hd:Vals dvs ds)(hx:et CX X E)
    (ha:PA X (e::es) t) (hdb:(x == ("__debug__" : Str))=false:=by decide) (he:starEach (e::es) X.env=(false,eval e X.env)::starEach es X.env:=by rfl) (hpl:(backTo pos (starEach es X.env)).any (·.1)=false:=by rfl) :
    PE X (.Call (.Name x p) (e::es) [] pos) (uX C sp dvs E t):=by
 intro pins s σ H Q I h;refine wpAny_Call_Name_kw (du I hg hm ?_ hdb);refine PySem.W.callWith_K (h₀:=X.base) I.ok.mod.kin M.kp (thn (ha pos pins s σ H _ I h) fun us s1 ⟨vs,H1,I1,r,q⟩=>⟨I1.kIn,?_⟩) he hpl;exact pD M F hr hb hd hx I1 r q
end
section
variable {X:Cx}{CX:CXT}{k:Nat}{f C:Addr}{fd:FuncData}{ps ks:List Str}{sp:Sp}{E:XK}{x m:Str}{p pos apos kpos:Pos}{e o:Expr}{es:List Expr}{kws:List Keyword}{te ta:TE}{t tk:TA}{nm:Option Str}
structure KBinds (K:PySem.W.Frag) (fd:FuncData) (ps ks:List Str) (g:List Value->List Value->List Value) (gV:List V->List V->List V):Prop where
 to:∀ (s:Shared) (us ws:List Value),K.In s.heap->(g us ws).length=ps.length->BindsTo s fd ⟨us,ks.zip ws⟩ (ps.zip (g us ws))
 rel:∀ {vs:List V} {us:List Value} {zs:List V} {ws:List Value},Vals vs us->Vals zs ws->Vals (gV vs zs) (g us ws)
variable {g:List Value->List Value->List Value}{gV:List V->List V->List V}
end
structure FnScope (N P:List Str) (sc:Scope):Prop where
 kind:sc.kind=.function
 co:sc.isCoroutine=false
 gen:sc.isGenerator=false
 nd:N.Nodup
 pre:N.take P.length=P
 par:∀ x∈P,sc.names.lookup x=some .local\/sc.names.lookup x=some .cell
 nofree:∀ y∈sc.names,y.2≠.free
theorem kg{kindOf:Str->Option NameKind}{x:Str}:∀ {binds:List (Str × Value)} {m:Str->Option Value},(∀ v,(x,v)∉binds)->bindL kindOf binds m x=m x
 | [],_,_=>rfl
 | (n,v)::r,m,h=>by
  unfold bindL;rw[kg fun w hw=>h w (List.mem_cons_of_mem _ hw)];split
  ·have:x≠n:=by rintro rfl;exact h v List.mem_cons_self
   simp[this]
  ·rfl
theorem kh{kindOf:Str->Option NameKind}{x:Str}:∀ {binds:List (Str × Value)} {m:Str->Option Value},(∀ v,(x,v)∉binds)->bindC kindOf binds m x=m x
 | [],_,_=>rfl
 | (n,v)::r,m,h=>by
  unfold bindC;rw[kh fun w hw=>h w (List.mem_cons_of_mem _ hw)];split
  ·rfl
  ·have:x≠n:=by rintro rfl;exact h v List.mem_cons_self
   simp[this]
theorem ki{kindOf:Str->Option NameKind}{x:Str}{v:Value}:∀ {P:List Str} {vs:List Value} {i:Nat} {m:Str->Option Value},P.Nodup->P[i]?=some x->vs[i]?=some v->kindOf x=some .local →
    bindL kindOf (P.zip vs) m x=some v
 | [],_,_,_,_,h,_,_=>by simp at h
 |_::_,[],_,_,_,_,h,_=>by simp at h
 |p::P,w::vs,0,m,nd,h1,h2,hk=>by
  simp at h1 h2;subst h1;subst h2;show bindL kindOf ((p,w)::P.zip vs) m p=_;unfold bindL;rw[kg fun v hv=>(List.nodup_cons.mp nd).1 (List.of_mem_zip hv).1,if_pos hk];simp
 |p::P,w::vs,i+1,m,nd,h1,h2,hk=>by
  show bindL kindOf ((p,w)::P.zip vs) m x=_;unfold bindL;exact ki (i:=i) (List.nodup_cons.mp nd).2 (by simpa using h1) (by simpa using h2) hk
theorem kj{kindOf:Str->Option NameKind}{x:Str}{v:Value}:∀ {P:List Str} {vs:List Value} {i:Nat} {m:Str->Option Value},P.Nodup->P[i]?=some x->vs[i]?=some v->kindOf x≠some .local →
    bindC kindOf (P.zip vs) m x=some v
 | [],_,_,_,_,h,_,_=>by simp at h
 |_::_,[],_,_,_,_,h,_=>by simp at h
 |p::P,w::vs,0,m,nd,h1,h2,hk=>by
  simp at h1 h2;subst h1;subst h2;show bindC kindOf ((p,w)::P.zip vs) m p=_;unfold bindC;rw[kh fun v hv=>(List.nodup_cons.mp nd).1 (List.of_mem_zip hv).1,if_neg hk];simp
 |p::P,w::vs,i+1,m,nd,h1,h2,hk=>by
  show bindC kindOf ((p,w)::P.zip vs) m x=_;unfold bindC;exact kj (i:=i) (List.nodup_cons.mp nd).2 (by simpa using h1) (by simpa using h2) hk
def cN(N:List Str)(vs:List V):St:=vs.map some++List.replicate (N.length - vs.length) none
def gl(CX:CXT)(P:Program)(w:World)(K:PySem.W.Frag)(mg:Str->Option Value)(base:Heap)(N:List Str)(qual:Str)(scope:Scope)(f:Addr)(cd:Value)(A:Around)(outer:List Env)(s:Shared)(H:Hp)(E:XK):Cx where
 prog:=P
 w:=w
 K:=K
 mg:=mg
 base:=base
 A:=A.deeper (envOfC qual scope s.heap.objs.size f cd)
 N:=N
 s₀:=s
 H₀:=H
 env:=envOfC qual scope s.heap.objs.size f cd
 outer:=outer
 stack:=envOfC qual scope s.heap.objs.size f cd::outer
 ex:=[]
 calm:=true
 fn:=fun _=>true
 pn:=[]
 xe:=fun e s'=>wpAny (model P w) (A.deeper (envOfC qual scope s.heap.objs.size f cd)) (leaving (envOfC qual scope s.heap.objs.size f cd) e) (fun _ s''=>CX outer H s E e s'') (fun e' s''=>CX outer H s E e' s'') s'
theorem la{sc:Scope}{n:Nat}{x:Str}(h:sc.names.lookup x=some .cell):∃ c,(cellsFrom n sc.names []).lookup x=some c:=by
 have q:=PySem.W.cellsFrom_some sc.names n [] (.inl h);exact Option.isSome_iff_exists.mp q
theorem km{CX:CXT}{P:Program}{w:World}{K:PySem.W.Frag}{mg:Str->Option Value}{base:Heap}{N ps:List Str}{qual:Str}{scope:Scope}{f:Addr}{cd:Value}{A:Around}{outer:List Env}{s s1:Shared}{H:Hp}{E:XK}{us:List Value}{vs:List V}
    (S:FnScope N ps scope) (hd:A.handled=none) (e0:Env0 P w K mg base A outer s H) (hl:vs.length=ps.length) (r:Vals vs us)
    (x:InCallC s s.heap.objs.size (bindL (envOfC qual scope s.heap.objs.size f cd).kindOf (ps.zip us) fun _=>none) (cellsFrom (s.heap.objs.size+1) scope.names []) (bindC (envOfC qual scope s.heap.objs.size f cd).kindOf (ps.zip us) fun _=>none) s1) :
    Inv (gl CX P w K mg base N qual scope f cd A outer s H E) [] (cN N vs) H s1:=by
 have hpl:ps.length<=N.length:=by have:=congrArg List.length S.pre;rw[List.length_take] at this;omega
 obtain ⟨h1,tk,rfl,hk⟩:=x.done;have noA:∀ b:Addr,b∉(gl CX P w K mg base N qual scope f cd A outer s H E).ex:=fun b z=>absurd (show b∈([]:List Addr) from z) (by simp)
 refine ⟨⟨e0.mod,S.kind,rfl,rfl,Nat.le_refl _,fun y z c h1 h2=>?_,fun y hy=>?_,fun y c _ h=>?_,fun _=>hd,Around.frames_deeper e0.frames,.inr ⟨rfl,rfl⟩,fun b z=>absurd z (noA b),e0.bs,e0.bsz,fun b _ _=>noA b,fun b z=>absurd z (noA b),e0.funs,e0.frf⟩,
  rfl,e0.bare,Un.kept hk,⟨_,x.toInCall.ns,fun i y v h1 h2 h3=>?_⟩,fun y c h=>⟨_,x.cell y c h⟩,e0.hok.fresh (Nat.le_refl _),fun y c h=>?_,fun p hp=>absurd (show p∈([]:List (Addr × Obj)) from hp) (by simp),e0.hok.kept hk,?_⟩
 ·exact name_of_addr x.apart (PySem.mem_of_lookup h1) (PySem.mem_of_lookup h2)
 ·have hy:scope.names.lookup y=some .cell\/scope.names.lookup y=some .free:=hy
  rcases hy with hy | hy
  ·exact la hy
  ·exact absurd rfl (S.nofree _ (PySem.mem_of_lookup hy))
 ·exact Nat.le_of_lt (x.above y c (PySem.mem_of_lookup h))
 ·have hi:i<vs.length:=by
     unfold cN at h2;by_cases hi:i<vs.length
     ·exact hi
     ·rw[List.getElem?_append_right (by simpa using hi)] at h2
      rw[List.getElem?_replicate] at h2;split at h2<;>cases h2
  have ha:vs[i]?=some v:=by
   unfold cN at h2;rw[List.getElem?_append_left (by simpa using hi),List.getElem?_map] at h2
   cases e:vs[i]? with
   |none=>rw[e] at h2;cases h2
   |some a=>rw[e] at h2;cases h2;rfl
  obtain ⟨u,hu,rv⟩:=r.get ha;have hp:ps[i]?=some y:=by
   rw[<- S.pre,List.getElem?_take_of_lt (by omega)];exact h1
  have ndP:ps.Nodup:=by rw[<- S.pre];exact S.nd.sublist (List.take_sublist _ _)
  refine ⟨u,rv,?_⟩;rcases S.par y (List.mem_of_getElem? hp) with k | k
  ·exact .inl ⟨k,ki ndP hp hu k⟩
  ·obtain ⟨c,e⟩:=la (n:=s.heap.objs.size+1) k
   refine .inr ⟨.inl k,c,e,?_⟩;have q:=x.cell y c e;rw[kj ndP hp hu (by show scope.names.lookup y≠_;rw[k];decide)] at q;exact q
 ·exact e0.hok.fresh (Nat.le_of_lt (x.above y c (PySem.mem_of_lookup h)))
 ·unfold cN
  show _=N.length;rw[List.length_append,List.length_map,List.length_replicate];omega
theorem uY{CX:CXT}{P:Program}{w:World}{K:PySem.W.Frag}{mg:Str->Option Value}{base:Heap}{k:Nat}{f:Addr}{name qual:Str}{params:Arguments}{body:List Stmt}{scope:Scope}{dV kV doc pm cdv ct oc:Value}{an od:Option Addr}
    {osl:Array (Option Value)} {N ps:List Str} {sp:Sp} (lk:K.lookup f=some ⟨oc,od,.func (PySem.W.fnOf name qual params body scope dV kV doc pm an cdv ct),osl⟩) (hcd:PySem.W.codeIn K cdv qual=true) (S:FnScope N ps scope)
    (len:∀ vs H Q E,sp vs H Q E->vs.length=ps.length)
    (hbody:∀ (A:Around) (outer:List Env) (s:Shared) (H:Hp) (vs:List V) (Q:VK) (E:XK),Room k (A.deeper (envOfC qual scope s.heap.objs.size f cdv))->sp vs H Q E →
     ∃ t,PSs (gl CX P w K mg base N qual scope f cdv A outer s H E) body t/\t { nx:=fun _ H'=>Q .non H',rt:=Q } (cN N vs) H) :
    FnOk P w K mg base CX (k+1) f (PySem.W.fnOf name qual params body scope dV kV doc pm an cdv ct) ps sp:=by
 refine ⟨len,fun A outer s H args us vs Q E hr e0 hb r hsp=>?_⟩;have hl:=len _ _ _ _ hsp;have KX:K.In s.heap:=e0.mod.kin.keeps fun b o e=>(e0.bs b o e).1;have lim:s.heap.NoLimit:=e0.mod.nolimit.keeps fun b o e=>(e0.bs b o e).1
 have hkind:∀ y∈ps.zip us,scope.names.lookup y.1=some .local\/(scope.names.lookup y.1=some .cell/\((cellsFrom (s.heap.objs.size+1) scope.names []).lookup y.1).isSome=true):=fun ⟨n,v⟩ hy=>by
  rcases S.par n (List.of_mem_zip hy).1 with q | q
  ·exact .inl q
  ·exact .inr ⟨q,PySem.W.cellsFrom_some _ _ _ (.inl q)⟩
 refine codeAny_call_function hr.depth (KX _ _ lk) rfl S.co S.gen rfl (PySem.W.codeRec_of KX hcd) (hb _ _ _ _ ?_);refine wpAny_newFunctionEnv_cells S.kind hkind fun env he s1 x=>?_;subst he;refine ⟨lim.keeps x.toInCall.keep,codeAny_func ?_⟩;obtain ⟨t,ht,hq⟩:=hbody A outer s H vs Q E (hr.deeper _) hsp
 have I:Inv (gl CX P w K mg base N qual scope f cdv A outer s H E) [] (cN N vs) H s1:=km S hr.hd e0 hl r x;refine wpAny_mono (ht [] s1 (cN N vs) H _ I hq) (fun fl s' hs=>?_) fun e s' hs=>hs;have fin:∀ {σ':St} {H':Hp} {v:V} {u:Value},Inv (gl CX P w K mg base N qual scope f cdv A outer s H E) [] σ' H' s'->RelV v u->Q v H'->CE outer P w H s Q u s':=
  fun {σ' H' v u} J rv q=>⟨v,H',J.os,J.bare,J.base,J.hok,rv,q⟩
 cases fl with
 |ret u=>
  obtain ⟨v,σ',H',J,rv,q⟩:=hs;exact fin J rv q
 |next=>
  obtain ⟨σ',H',J,q⟩:=hs;exact fin (v:=V.non) (u:=Value.none) J rfl q
 |brk=>
  obtain ⟨_,_,_,q⟩:=hs;exact False.elim q
 |cont=>
  obtain ⟨_,_,_,q⟩:=hs;exact False.elim q
section
variable {X:Cx}{x:Str}{p pos:Pos}{e:Expr}{es:List Expr}{t:TA}{id T:String}{r:List V->Hp->VK->Prop}
def tCB(r:List V->Hp->VK->Prop)(t:TA):TE:=fun σ H Q=>t σ H fun vs H1=>r vs H1 Q
theorem lf(hc:CallR X (.builtin id) r)(hg:Gl X x)(hm:X.mg x=none)(hv:bootBuiltins x=some (.builtin id))(ha:PA X (e::es) t)(hn:x ≠ "__name__" := by decide)(hdb:(x == ("__debug__" : Str))=false:=by decide)
    (he:starEach (e::es) X.env=(false,eval e X.env)::starEach es X.env:=by rfl) (hpl:(backTo pos (starEach es X.env)).any (·.1)=false:=by rfl):PE X (.Call (.Name x p) (e::es) [] pos) (tCB r t):=by
 intro pins s σ H Q I h;refine wpAny_Call_Name_kw (eY I hg hm hv ?_ hn hdb);exact PyProof.Rows.callWith_builtin1 (thn (ha pos pins s σ H _ I h) fun us s1 ⟨vs,H1,I1,r1,q1⟩=>hc pins s1 σ H1 vs us Q I1 r1 q1) he hpl
theorem kn(hc:CallR X (.type T) r)(hg:Gl X x)(hm:X.mg x=none)(hv:bootBuiltins x=some (.type T))(ha:PA X (e::es) t)(hn:x ≠ "__name__" := by decide)(hdb:(x == ("__debug__" : Str))=false:=by decide)
    (he:starEach (e::es) X.env=(false,eval e X.env)::starEach es X.env:=by rfl) (hpl:(backTo pos (starEach es X.env)).any (·.1)=false:=by rfl):PE X (.Call (.Name x p) (e::es) [] pos) (tCB r t):=by
 intro pins s σ H Q I h;refine wpAny_Call_Name_kw (eY I hg hm hv ?_ hn hdb);exact PyProof.Rows.callWith_type1 (thn (ha pos pins s σ H _ I h) fun us s1 ⟨vs,H1,I1,r1,q1⟩=>hc pins s1 σ H1 vs us Q I1 r1 q1) he hpl
end
end L2
namespace HT
open PySem PyProof.Rows
section
open PySem.SeqAt
open PySem.AutoSeq1 (wpAny_loadPart')
open PySem.MeetsSeq PySem.MeetsSeq2 PySem.MeetsSeq3
end
section
variable {prog:Program}{w:World}{A:Around}{E:Value->Shared->Prop}{s:Shared}
end
end HT
namespace L2
open PySem PySem.Spec PyProof.Rows
abbrev TO:=St->Hp->(Option Int->Hp->Prop)->Prop
def PO(X:Cx)(e:Option Expr)(t:TO):Prop:=
 ∀ (pins:List (Addr × Obj)) (s:Shared) (σ:St) (H:Hp) (Q:Option Int->Hp->Prop),Inv X pins σ H s->t σ H Q →
  wpAny (model X.prog X.w) X.A (evalPart e X.env) (fun u s'=>∃ o H',Inv X pins σ H' s'/\IsPart u o/\Q o H') X.xe s
theorem mS{ns:List Int}:∀ {us:List Value},Vals (ns.map V.int) us->IntsAre us ns:=by
 induction ns with
 |nil=>intro us r;rw[List.map_nil] at r;cases r;exact .nil
 |cons n ns ih=>
  intro us r;rw[List.map_cons] at r
  cases r with
  |cons r1 r2=>
   obtain ⟨t,e⟩:=r1;subst e;exact .cons n t (ih r2)
section
variable {X:Cx}{e:Expr}{te:TE}{lo hi:Option Expr}{tl th:TO}{pos p2:Pos}
end
def ixN(n:Nat)(i:Int):Option Nat:=if 0<=i then (if i<n then some i.toNat else none) else if -(n:Int)<=i then some (i+n).toNat else none
def atI{α:Type}(xs:List α)(i:Int):Option α:=(ixN xs.length i).bind fun j=>xs[j]?
theorem mh{n:Nat}{i:Int}{j:Nat}(h:ixN n i=some j):seqIndex? i n=some j/\j<n/\-(n:Int)<=i/\i<n:=by
 unfold ixN at h;by_cases h0:0<=i
 ·rw[if_pos h0] at h
  by_cases h1:i<n
  ·rw[if_pos h1] at h
   have e:i.toNat=j:=Option.some.inj h;exact ⟨by rw[seqIndex_of h0 h1,e],by omega,by omega,h1⟩
  ·rw[if_neg h1] at h;cases h
 ·rw[if_neg h0] at h
  by_cases h1:-(n:Int)<=i
  ·rw[if_pos h1] at h
   have e:(i+n).toNat=j:=Option.some.inj h;exact ⟨by rw[seqIndex_neg (by omega) h1,e],by omega,h1,by omega⟩
  ·rw[if_neg h1] at h;cases h
theorem ie{α:Type}{xs:List α}{i:Int}{v:α}(h:atI xs i=some v):∃ j,seqIndex? i xs.length=some j/\xs[j]?=some v/\j<xs.length/\-(xs.length:Int)<=i/\i<xs.length:=by
 unfold atI at h
 cases e:ixN xs.length i with
 |none=>rw[e] at h;cases h
 |some j=>
  rw[e] at h;obtain ⟨h1,h2,h3,h4⟩:=mh e;exact ⟨j,h1,h,h2,h3,h4⟩
def jV(b:Expr):Prop:=∀ o i,subscripted b false o i=operate [o,i] (getItem o i)
def IxR(X:Cx)(r:R2):Prop:=
 ∀ (value slice:Expr) (pins:List (Addr × Obj)) (s:Shared) (σ:St) (H:Hp) (x y:V) (v u:Value) (Q:VK),Inv X pins σ H s->RelV x v->RelV y u->r x y H Q →
  subscripted slice false v u=operate [v,u] (getItem v u)->wpAny (model X.prog X.w) X.A (subscriptTail value slice v u) (EP X pins σ Q) X.xe s
def MtR(X:Cx)(id:String)(r:V->List V->Hp->VK->Prop):Prop:=
 ∀ (pins:List (Addr × Obj)) (s:Shared) (σ:St) (H:Hp) (x:V) (xs:List V) (v:Value) (us:List Value) (Q:VK),Inv X pins σ H s->RelV x v->Vals xs us->r x xs H Q →
  wpAny (model X.prog X.w) X.A (call (.builtin id) (v::us)) (EP X pins σ Q) X.xe s
section
variable {X:Cx}{a b:Expr}{ta tb:TE}{pos:Pos}
theorem IxR.or{r r':R2}(h:IxR X r)(h':IxR X r'):IxR X (fun x y H Q=>r x y H Q\/r' x y H Q):=by
 intro value slice pins s σ H x y v u Q I rx ry q hs;rcases q with q | q
 ·exact h value slice pins s σ H x y v u Q I rx ry q hs
 ·exact h' value slice pins s σ H x y v u Q I rx ry q hs
theorem uZ{r:R2}(hr:IxR X r)(ha:PE X a ta)(hb:PE X b tb)(hs:jV b):PE X (.Subscript a b pos) (tOp r ta tb):=by
 intro pins s σ H Q I h;exact Subscript_ (pv ha hb I h fun v u s2 x y H2 I2 rx ry q=>hr a b pins s2 σ H2 x y v u Q I2 rx ry q (hs _ _))
def sZ(K:PySem.W.Frag):R2:=fun x y H Q=>∃ p xs i v,x=.ref p/\y=.int i/\SqL K H p xs/\atI xs i=some v/\Q v H
def ti(K:PySem.W.Frag):R2:=fun x y H Q=>∃ p xs i v,x=.ref p/\y=.int i/\SqT K H p xs/\atI xs i=some v/\Q v H
def tj:R2:=fun x y H Q=>∃ z i c,x=.str z/\y=.int i/\z.length<=sizeLine/\atI z.cps.toList i=some c/\Q (.str ⟨#[c]⟩) H
theorem ix_list:IxR X (sZ X.K):=by
 intro value slice pins s σ H x y v u Q I rx ry h hs;obtain ⟨p,xs,i,z,rfl,rfl,hq,he,q⟩:=h
 cases rx
 obtain ⟨t,rfl⟩:=ry;obtain ⟨its,r,pl,hz⟩:=I.list hq;obtain ⟨j,h1,h2,h3,h4,h5⟩:=ie he;obtain ⟨w,ew,rw'⟩:=r.get h2;have hl:=r.length;have hn:=gQ;have fin:EP X pins σ Q w s:=⟨z,H,I,rw',q⟩
 by_cases h0:0<=i
 ·have hj:i.toNat=j:=by
     rw[seqIndex_of h0 h5] at h1;exact Option.some.inj h1
  exact item_listR pl.isList h0 (by omega) (by rw[hj];simpa using ew) fin hs
 ·have hj:(i+(its.toArray.size:Int)).toNat=j:=by
     rw[seqIndex_neg (by omega) h4] at h1;rw[List.size_toArray,<- hl];exact Option.some.inj h1
  exact subscriptTail_builtinR (x:=w) pl.isList.typeIs slot_list_getitem.lookup
   (wpAny_getItem_list_neg (Q:=fun r s'=>r=w/\EP X pins σ Q r s') pl.isList (by omega) (by rw[List.size_toArray] <;> omega) (by omega) (by rw[hj];simpa using ew) ⟨rfl,fin⟩) hs
theorem ix_tup:IxR X (ti X.K):=by
 intro value slice pins s σ H x y v u Q I rx ry h hs;obtain ⟨p,xs,i,z,rfl,rfl,hq,he,q⟩:=h
 cases rx
 obtain ⟨t,rfl⟩:=ry;obtain ⟨its,r,pl,hz⟩:=I.tuple hq;obtain ⟨j,h1,h2,h3,h4,h5⟩:=ie he;obtain ⟨w,ew,rw'⟩:=r.get h2;have hl:=r.length;have hn:=gQ;have fin:EP X pins σ Q w s:=⟨z,H,I,rw',q⟩
 exact subscriptTail_builtinR (x:=w) pl.typeIs slot_tuple_getitem.lookup
  (getItem_tuple (j:=j) (Q:=fun r s'=>r=w/\EP X pins σ Q r s') pl (by omega) (by omega) (by rw[List.size_toArray,<- hl];exact h1) (by simpa using ew) ⟨rfl,fin⟩) hs
theorem tm:IxR X tj:=by
 intro value slice pins s σ H x y v u Q I rx ry h hs;obtain ⟨z,i,c,rfl,rfl,hz,he,q⟩:=h;obtain ⟨t,rfl⟩:=rx;obtain ⟨t',rfl⟩:=ry;obtain ⟨j,h1,h2,h3,h4,h5⟩:=ie he;have hl:z.cps.toList.length=z.length:=by simp[Str.length]
 rw[hl] at h1 h4 h5;have hn:=gQ;exact tail_any (typeIs_str s z t) slot_str_getitem.lookup (getItem_str (c:=c) (by
  have e1:decide (i < -(2 ^ 63:Int))=false:=decide_eq_false (by omega)
  have e2:decide (i ≥ 2 ^ 63)=false:=decide_eq_false (by omega)
  rw[e1,e2,Bool.or_false]) (by rw[h1];simpa using h2) ⟨.str ⟨#[c]⟩,H,I.tok _,⟨_,rfl⟩,q⟩) hs
def rIx(K:PySem.W.Frag):R2:=fun x y H Q=>sZ K x y H Q\/ti K x y H Q\/tj x y H Q
theorem tq:IxR X (rIx X.K):=ix_list.or (ix_tup.or tm)
theorem lg:CallR X (.builtin "len") (fun xs H Q=>∃ p ys,xs=[.ref p]/\(SqL X.K H p ys\/SqT X.K H p ys)/\Q (.int ys.length) H):=by
 intro pins s σ H xs us Q I r h;obtain ⟨p,ys,rfl,hq,q⟩:=h;obtain ⟨u,rfl,rx⟩:=jg r
 cases rx
 have hn:=gQ;rcases hq with hq | hq
 ·obtain ⟨its,r',pl,hz⟩:=I.list hq
  have hlen:=r'.length;exact Calls.call_len_list pl.isList (by simp only[List.size_toArray] <;> omega) ⟨.int ys.length,H,I.tok _,⟨s.toks+1,by rw[List.size_toArray,hlen]⟩,q⟩
 ·obtain ⟨its,r',pl,hz⟩:=I.tuple hq
  have hlen:=r'.length;exact len_tuple pl (by simp only[List.size_toArray] <;> omega) ⟨.int ys.length,H,I.tok _,⟨s.toks+1,by rw[List.size_toArray,hlen]⟩,q⟩
theorem lh:CallR X (.builtin "len") (fun xs H Q=>∃ z,xs=[.str z]/\z.length<=sizeLine/\Q (.int z.length) H):=by
 intro pins s σ H xs us Q I r h;obtain ⟨z,rfl,hz,q⟩:=h;obtain ⟨u,rfl,t,rfl⟩:=jg r;have hn:=gQ;exact len_str (by omega) ⟨.int z.length,H,I.tok _,⟨_,rfl⟩,q⟩
theorem CallR.or{f:Value}{r r':List V->Hp->VK->Prop}(h:CallR X f r)(h':CallR X f r'):CallR X f (fun xs H Q=>r xs H Q\/r' xs H Q):=by
 intro pins s σ H xs us Q I rs q;rcases q with q | q
 ·exact h pins s σ H xs us Q I rs q
 ·exact h' pins s σ H xs us Q I rs q
theorem li:CallR X (.type "list") (fun xs H Q=>∃ p ys,xs=[.ref p]/\(SqL X.K H p ys\/SqT X.K H p ys)/\∀ l,H l=none->Q (.ref l) (upd H l (.lst ys))):=by
 intro pins s σ H xs us Q I r h;obtain ⟨p,ys,rfl,hq,q⟩:=h;obtain ⟨u,rfl,rx⟩:=jg r
 cases rx
 have fin:∀ (its:List Value),Vals ys its->ys.length<=sizeLine->∀ (h':Heap) (c':Nat),(∀ b o',s.heap.get? b=some o'->h'.get? b=some o') →
     h'.get? s.heap.objs.size=some { cls:=.type "list", dict:=none,data:=.seq its.toArray c',slots:=#[] }->EP X pins σ Q (.ref s.heap.objs.size) { s with heap:=h' }:=fun its r' hz h' c' kp e=>
  ⟨.ref s.heap.objs.size,_,I.laid (t':=s.toks) kp (Nat.le_refl _) (show ObjOk X.prog X.w _ h' _ (.lst ys) from ⟨hz,its,c',r',e⟩),rfl,q _ (I.hok.fresh (Nat.le_refl _))⟩
 rcases hq with hq | hq
 ·obtain ⟨its,r',pl,hz⟩:=I.list hq
  have hlen:=r'.length;obtain ⟨o,ho,hc,n,hd⟩:=pl.isList;exact call_list_seq p (.inl rfl) ho hc hd (fun h' c' kp e=>fin its r' hz h' c' kp e) (by simp only[List.size_toArray] <;> omega)
 ·obtain ⟨its,r',pl,hz⟩:=I.tuple hq
  have hlen:=r'.length;obtain ⟨o,ho,hc,n,hd⟩:=pl;exact call_list_seq p (.inr rfl) ho hc hd (fun h' c' kp e=>fin its r' hz h' c' kp e) (by simp only[List.size_toArray] <;> omega)
def tyV(K:PySem.W.Frag)(T:String)(x:V)(H:Hp):Prop:=match x with
 | .str _=>T = "str"
 | .int _=>T = "int"
 | .ref p=>(T = "list" /\ ∃ xs,SqL K H p xs)\/(T = "tuple" /\ ∃ o,K.lookup p=some o/\o.cls=.type "tuple" /\ o.dict=none) ∨
     (T = "dict" /\ ((∃ kvs,H p=some (.dK kvs))\/∃ kvs,H p=some (.dT kvs)))\/(T = "set" /\ ∃ S n,H p=some (.set S n))
 |_=>False
theorem tu{pins:List (Addr × Obj)}{σ:St}{H:Hp}{s:Shared}{T:String}{x:V}{v:Value}(I:Inv X pins σ H s)(r:RelV x v)(ty:tyV X.K T x H) :
    s.TypeIs v T/\∀ a,v=.ref a->∃ ob,s.heap.get? a=some ob/\ob.dict=none:=by
 cases x with
 |str z=>
  obtain ⟨t,rfl⟩:=r
  cases (show T = "str" from ty)
  exact ⟨typeIs_str s z t,fun _ e=>nomatch e⟩
 |int i=>
  obtain ⟨t,rfl⟩:=r
  cases (show T = "int" from ty)
  exact ⟨typeIs_int s i t,fun _ e=>nomatch e⟩
 |ref p=>
  cases r
  rcases ty with ⟨rfl,xs,hq⟩ | ⟨rfl,o,hk,hc,hd⟩ | ⟨rfl,hk⟩ | ⟨rfl,S,n,hk⟩
  ·obtain ⟨its,_,pl,_⟩:=I.list hq
   refine ⟨pl.isList.typeIs,fun a e=>?_⟩
   cases e
   obtain ⟨o,n,e,c,hd,_⟩:=pl;exact ⟨o,e,hd⟩
  ·refine ⟨⟨o,I.kIn p o hk,hc⟩,fun a e=>?_⟩
   cases e
   exact ⟨o,I.kIn _ o hk,hd⟩
  ·have z:∃ o,s.heap.get? p=some o/\o.ExactDict:=by
      rcases hk with ⟨kvs,hk⟩ | ⟨kvs,hk⟩
      ·obtain ⟨_,_,_,_,o,_,_,e,ex,_⟩:=I.hok p _ hk
       exact ⟨o,e,ex⟩
      ·obtain ⟨_,_,_,_,o,_,_,e,ex,_⟩:=I.hok p _ hk
       exact ⟨o,e,ex⟩
   obtain ⟨o,e,ex⟩:=z;refine ⟨⟨o,e,ex.1⟩,fun a e2=>?_⟩
   cases e2
   exact ⟨o,e,ex.2.1⟩
  ·obtain ⟨o,_,_,_,e,ex,_⟩:=I.hok p _ hk
   refine ⟨⟨o,e,ex.1⟩,fun a e2=>?_⟩
   cases e2
   exact ⟨o,e,ex.2.1⟩
 |_=>exact False.elim ty
def tBM(K:PySem.W.Frag)(T:String)(r:V->List V->Hp->VK->Prop)(to:TE)(t:TA):TE:=fun σ H Q=>to σ H fun x H1=>tyV K T x H1/\t σ H1 fun xs H2=>r x xs H2 Q
variable {o e:Expr}{es:List Expr}{to:TE}{t:TA}{name:Str}{apos cpos:Pos}{T id:String}{r:V->List V->Hp->VK->Prop}
theorem jh(pa:PlainAttrs T)(slot:Slot T name id)(hty:typeOf (.builtin id)=pure (.type "method_descriptor"))(hm:MtR X id r)(ho:PE X o to)(ha:PA X (e::es) t)
    (hbase:attributeBase o name X.env (eval o X.env)=eval o X.env:=by rfl)
    (hfew:((backTo cpos (starEach (e::es) X.env)).all (fun x=>!x.1)&&(backToKw cpos (keywordEach [] X.env)).all (fun x=>x.1.isSome)
     && decide ((e::es).length+([]:List Keyword).length+(if ([]:List Keyword).isEmpty then 0 else 1)<30))=true:=by rfl)
    (hline:(apos.endLine == cpos.line)=true:=by rfl) (hs:starEach (e::es) X.env=(false,eval e X.env)::starEach es X.env:=by rfl) (hplain:(backTo cpos (starEach es X.env)).any (·.1)=false:=by rfl) :
    PE X (.Call (.Attribute o name apos) (e::es) [] cpos) (tBM X.K T r to t):=by
 intro pins s σ H Q I h;refine wpAny_Call_method_late hbase hfew hline rfl (thn (ho pins s σ H _ I h) fun v s1 ⟨x,H1,I1,r1,ty,q1⟩=>?_);obtain ⟨h1,h2⟩:=tu I1 r1 ty;refine ⟨T,id,pa,slot,hty,h1,h2,?_⟩;have hA:=ha cpos pins s1 σ H1 _ I1 q1;rw[hs] at hA ⊢;refine Calls.callWith_builtin (by show (false||(backTo cpos (starEach es X.env)).any (·.1))=false;rw[hplain] <;> rfl) (Calls.evalArgs_plain ?_)
 exact thn hA fun us s2 ⟨vs,H2,I2,r2,q2⟩=>hm pins s2 σ H2 x vs v us Q I2 r1 r2 q2
/- xs.append(e),list.index on a module's tuple .. are MtR facts of 06m -/
end
def MtM(X:Cx)(id:String)(r:V->List V->Hp->VK->Prop):Prop:=
 ∀ (pins:List (Addr × Obj)) (s:Shared) (σ:St) (H:Hp) (x:V) (xs:List V) (v:Value) (us:List Value) (Q:VK),Inv X pins σ H s->RelV x v->Vals xs us->r x xs H Q →
  wpAny (model X.prog X.w) X.A (call (.builtin id) (v::us)) (EP X pins σ Q) X.xe s
theorem Vals.one:∀ {x:V} {us:List Value},Vals [x] us->∃ u,us=[u]/\RelV x u
 |_,_,.cons r .nil=>⟨_,rfl,r⟩
theorem Vals.eraseIdx:∀ {xs:List V} {us:List Value} (i:Nat),Vals xs us->Vals (xs.eraseIdx i) (us.eraseIdx i)
 |_,_,_,.nil=>.nil
 |_,_,0,.cons _ t=>t
 |_,_,i+1,.cons r t=>.cons r (Vals.eraseIdx i t)
theorem Vals.rep{xs:List V}{us:List Value}(h:Vals xs us):∀ k:Nat,Vals (List.replicate k xs).flatten (List.replicate k us).flatten
 | 0=>.nil
 |k+1=>by
  rw[List.replicate_succ,List.replicate_succ,List.flatten_cons,List.flatten_cons];exact Vals.append h (Vals.rep h k)
theorem ko{α:Type}:∀ (l:List α) (i:Nat),(l.eraseIdx i).length<=l.length
 | [],_=>Nat.le_refl _
 |_::_,0=>Nat.le_succ _
 |_::r,i+1=>Nat.succ_le_succ (ko r i)
theorem kr(its:List Value):∀ (k:Nat) (acc:List Value),
    List.foldl (fun x1 x2=>x1++x2) acc.toArray (List.replicate k its.toArray)=(acc++(List.replicate k its).flatten).toArray
 | 0,acc=>by simp
 |k+1,acc=>by
  have e:acc.toArray++its.toArray=(acc++its).toArray:=by simp
  have e2:(acc++its)++(List.replicate k its).flatten=acc++(List.replicate (k+1) its).flatten:=by
   rw[List.replicate_succ,List.flatten_cons,List.append_assoc]
  rw[<- e2,<- kr its k (acc++its),<- e,List.replicate_succ,List.foldl_cons]
section
variable {X:Cx}{pins:List (Addr × Obj)}{σ:St}{H:Hp}{s:Shared}{l b:Addr}{xs ys zs:List V}
theorem Inv.lset{its its':List Value}{n:Nat}{f:Array Value->Array Value}{t':Nat}(I:Inv X pins σ H s)(hH:H l=some (.lst xs))
    (e:s.heap.get? l=some { cls:=.type "list", data:=.seq its.toArray n }) (hf:f its.toArray=its'.toArray) (hv:Vals ys its') (hz:ys.length<=sizeLine) :
    Inv X pins σ (upd H l (.lst ys)) { s with heap:=s.heap.update l (Obj.mapSeq f),toks:=t' }:=by
 have q:=PySem.IsL.update e f;rw[hf] at q;refine I.write (x:=l) (e:=l) (by rw[hH];exact trivial) (.inl rfl) (fun b' u hb hu=>(Heap.get?_update_other s.heap (Obj.mapSeq f) (Ne.symm hb)).trans hu) ⟨_,q⟩ ?_;exact ⟨hz,its',_,hv,q⟩
theorem Inv.lnew{its:List Value}{t':Nat}(I:Inv X pins σ H s)(hv:Vals ys its)(hz:ys.length<=sizeLine) :
    Inv X pins σ (upd H s.heap.objs.size (.lst ys)) { s with heap:=s.heap.push { cls:=.type "list", data:=.seq its.toArray },toks:=t' }:=
 I.laid (fun _ _ q=>Heap.get?_push_of_some _ q) (Nat.le_refl _) ⟨hz,its,0,hv,Heap.get?_push_size _ rfl⟩
theorem Inv.fresh(I:Inv X pins σ H s):H s.heap.objs.size=none:=I.hok.fresh (Nat.le_refl _)
theorem Inv.lstM(I:Inv X pins σ H s)(hH:H l=some (.lst xs)):xs.length<=sizeLine/\∃ (its:List Value) (n:Nat),Vals xs its/\xs.length=its.length/\s.heap.get? l=some { cls:=.type "list", data:=.seq its.toArray n }:=by
 obtain ⟨z,its,n,r,e⟩:=I.hok l _ hH;exact ⟨z,its,n,r,r.length,e⟩
theorem pE{n:Nat}(h:n<=sizeLine):Builtin.List.listTooLong n=false:=by
 unfold Builtin.List.listTooLong;exact decide_eq_false (by omega)
end
section
variable {X:Cx}
def q9:V->List V->Hp->VK->Prop:=fun x vs H Q=>∃ l xs y,x=.ref l/\vs=[y]/\H l=some (.lst xs)/\xs.length<sizeLine/\Q .non (upd H l (.lst (xs++[y])))
theorem fH:MtM X "list.append" q9:=by
 intro pins s σ H x vs v us Q I rx rv h;obtain ⟨l,xs,y,rfl,rfl,hH,hz,q⟩:=h
 cases rx
 obtain ⟨u,rfl,ru⟩:=rv.one;obtain ⟨z,its,n,r,hl,e⟩:=I.lstM hH;refine call_meets F.slot_list_append ⟨_,e,rfl⟩ F.entry_list_append (F.args_list_append_2 _ _) (PySem.list_append l its.toArray n u (by rw[List.size_toArray];omega)) ⟨e,?_⟩;refine ⟨.non,_,I.lset (its':=its++[u]) hH e (by simp) (r.append (.cons ru .nil)) ?_,rfl,q⟩;rw[List.length_append,List.length_singleton];omega
def tw:V->List V->Hp->VK->Prop:=fun x vs H Q=>∃ l xs i k y,x=.ref l/\vs=[.int i]/\H l=some (.lst xs)/\-(2 ^ 63)<=i/\i<2 ^ 63/\seqIndex? i xs.length=some k/\xs[k]?=some y/\Q y (upd H l (.lst (xs.eraseIdx k)))
theorem pF:MtM X "list.pop" tw:=by
 intro pins s σ H x vs v us Q I rx rv h;obtain ⟨l,xs,i,k,y,rfl,rfl,hH,h1,h2,hk,hy,q⟩:=h
 cases rx
 obtain ⟨u,rfl,ru⟩:=rv.one;obtain ⟨t,rfl⟩:=ru;obtain ⟨z,its,n,r,hl,e⟩:=I.lstM hH;obtain ⟨w,hw,rw'⟩:=r.get hy;refine call_meets F.slot_list_pop ⟨_,e,rfl⟩ F.entry_list_pop (F.args_list_pop_2 _ _)
  (MeetsSeq.list_pop_at l its.toArray n i t k w (fitsIndex_both h1 h2) (by rw[List.size_toArray,<- hl];exact hk) (by rw[<- Array.getElem?_toList];exact hw) (by rw[List.size_toArray];omega)) ⟨e,?_⟩
 refine ⟨y,_,I.lset (its':=its.eraseIdx k) hH e ?_ (r.eraseIdx k) ?_,rw',q⟩
 ·show its.toArray.eraseIdxIfInBounds k=(its.eraseIdx k).toArray
  rw[List.eraseIdxIfInBounds_toArray]
 ·have:=ko xs k
  omega
def vX:R2:=fun x y H Q=>∃ l b xs zs,x=.ref l/\y=.ref b/\H l=some (.lst xs)/\H b=some (.lst zs)/\xs.length+zs.length<=sizeLine/\∀ p,H p=none->Q (.ref p) (upd H p (.lst (xs++zs)))
theorem tz:OpR X (binaryOp .Add) vX:=by
 intro pins s σ H x y v u Q I rx ry h;obtain ⟨l,b,xs,zs,rfl,rfl,hH,hB,hz,q⟩:=h
 cases rx
 cases ry
 obtain ⟨z,its,n,r,hl,e⟩:=I.lstM hH;obtain ⟨z2,its2,n2,r2,hl2,e2⟩:=I.lstM hB;refine PySem.P.add_list e e2 ?_ (by rw[List.size_toArray,List.size_toArray];omega);have ea:its.toArray++its2.toArray=(its++its2).toArray:=by simp
 rw[ea];exact ⟨.ref _,_,I.lnew (t':=s.toks) (r.append r2) (by rw[List.length_append];omega),rfl,q _ I.fresh⟩
def vY:R2:=fun x y H Q=>∃ l k xs,x=.ref l/\y=.int k/\H l=some (.lst xs)/\-(2 ^ 63)<=k/\k<2 ^ 63/\xs.length*k.toNat<=sizeLine ∧
 ∀ p,H p=none->Q (.ref p) (upd H p (.lst (List.replicate k.toNat xs).flatten))
theorem rf{α:Type}(xs:List α)(k:Nat):(List.replicate k xs).flatten.length=k*xs.length:=by
 induction k with
 |zero=>simp
 |succ k ih=>rw[List.replicate_succ,List.flatten_cons,List.length_append,ih,Nat.succ_mul,Nat.add_comm]
theorem tD:OpR X (binaryOp .Mult) vY:=by
 intro pins s σ H x y v u Q I rx ry h;obtain ⟨l,k,xs,rfl,rfl,hH,h1,h2,hz,q⟩:=h
 cases rx
 obtain ⟨t,rfl⟩:=ry;obtain ⟨z,its,n,r,hl,e⟩:=I.lstM hH;have hlen:its.toArray.size*k.toNat<=sizeLine:=by rw[List.size_toArray,<- hl];exact hz
 have hcap:¬ its.toArray.size*k.toNat > (2 ^ 63 - 1) / 8:=by
  have:(sizeLine:Nat)<=(2 ^ 63 - 1) / 8:=by decide
  omega
 have hfit:¬ (!Builtin.List.listFitsIndex k)=true:=by
  rw[fitsIndex_both h1 h2];exact Bool.false_ne_true
 have hlong:¬ Builtin.List.listTooLong (its.toArray.size*k.toNat)=true:=by
  rw[pE hlen];exact Bool.false_ne_true
 have hnew:List.foldl (fun x1 x2=>x1++x2) #[] (List.replicate (if its.toArray.isEmpty=true then 0 else k.toNat) its.toArray)=(List.replicate k.toNat its).flatten.toArray:=by
  have f0:∀ m:Nat,List.foldl (fun x1 x2=>x1++x2) #[] (List.replicate m its.toArray)=(List.replicate m its).flatten.toArray:=fun m=>by
   have:=kr its m [];rw[List.nil_append] at this;exact this
  rw[f0]
  cases its with
  |nil=>simp
  |cons a r'=>rw[if_neg (by simp)]
 refine wpAny_binaryOp_repeat_ref (T := "list") (U := "int") (by decide) ⟨_,e,rfl⟩ (fun s'=>typeIs_int s' k t) noFill_list_mul F.fills_int_mul F.slot_int_rmul repeat_list F.slot_int_index.lookup
  (call_meets F.slot_int_rmul (typeIs_int s k t) F.entry_int_rmul (F.args_int_rmul_2 _ _) (int___rmul___int_list k t l its.toArray n)
   ⟨e,rfl,⟨_,e,rfl⟩,call_meets F.slot_list_mul ⟨_,e,rfl⟩ F.entry_list_mul (F.args_list_mul_2 _ _) (AutoListH.list___mul___list_int_3 l its.toArray n k t hfit hcap hlong) ⟨e,?_⟩⟩)
 rw[hnew];exact ⟨.ref _,_,I.lnew (t':=s.toks) (r.rep k.toNat) (by rw[rf,Nat.mul_comm];exact hz),rfl,q _ I.fresh⟩
end
section
variable {prog:Program}{w:World}{A:Around}{E:Value->Shared->Prop}{s:Shared}
end
section
variable {X:Cx}
end
section
variable {κ:Type}[DecidableEq κ]
end
section
variable {P:Program}{w:World}{H:Hp}{h:Heap}{a:Addr}
end
section
variable {X:Cx}{pins:List (Addr × Obj)}{σ:St}{H:Hp}{s:Shared}{a:Addr}{y v:V}{u r:Value}{o:Option V}{A:Around}{E:Value->Shared->Prop}
end
section
variable {X:Cx}{pins:List (Addr × Obj)}{σ:St}{H:Hp}{s:Shared}{a:Addr}{kvs:List (Key × V)}{k:Key}{u:Value}{A:Around}{E:Value->Shared->Prop}
end
section
variable {X:Cx}{o i e value:Expr}{pos pos' tpos:Pos}{td ty tv:TE}
end
section
variable {X:Cx}{pos:Pos}
end
structure M1 (X:Cx) (o:Expr) (m:Str) (apos:Pos) (e:Expr) (cpos:Pos):Prop where
 base:attributeBase o m X.env (eval o X.env)=eval o X.env
 few:((backTo cpos (starEach [e] X.env)).all (fun x=>!x.1)&&(backToKw cpos (keywordEach [] X.env)).all (fun x=>x.1.isSome)
  && decide (([e]:List Expr).length+([]:List Keyword).length+(if ([]:List Keyword).isEmpty then 0 else 1)<30))=true
 line:(apos.endLine == cpos.line)=true
 trees:backTo cpos (starEach [e] X.env)=[(false,eval e X.env)]
structure M2 (X:Cx) (o:Expr) (m:Str) (apos:Pos) (e f:Expr) (cpos:Pos):Prop where
 base:attributeBase o m X.env (eval o X.env)=eval o X.env
 few:((backTo cpos (starEach [e,f] X.env)).all (fun x=>!x.1)&&(backToKw cpos (keywordEach [] X.env)).all (fun x=>x.1.isSome)
  && decide (([e,f]:List Expr).length+([]:List Keyword).length+(if ([]:List Keyword).isEmpty then 0 else 1)<30))=true
 line:(apos.endLine == cpos.line)=true
 trees:backTo cpos (starEach [e,f] X.env)=[(false,eval e X.env),(false,eval f X.env)]
section
variable {X:Cx}{pins:List (Addr × Obj)}{σ:St}{H:Hp}{s:Shared}{a:Addr}{y d:V}{u r:Value}{o:Option V}{A:Around}{E:Value->Shared->Prop}
end
section
variable {X:Cx}{o e f:Expr}{apos cpos:Pos}{td ty tx:TE}
end
section
variable {X:Cx}{pins:List (Addr × Obj)}{σ:St}{H:Hp}{s:Shared}{a:Addr}{kvs:List (Key × V)}{A:Around}{E:Value->Shared->Prop}
end
section
variable {X:Cx}{pins:List (Addr × Obj)}{σ:St}{H:Hp}{s:Shared}{a:Addr}{y:V}{u:Value}{A:Around}{E:Value->Shared->Prop}
end
end L2
namespace Att
open PySem PySem.W PySem.Calls PyProof.Rows
theorem ji{P:Params}{h:Heap}:∀ (ns:List Int) (vs:List Value),WellAll P h vs (ns.map WData.int)->IntsAre vs ns:=by
 intro ns;induction ns with
 |nil=>
  intro vs w;rw[List.map_nil] at w
  cases w
  exact .nil
 |cons n ns ih=>
  intro vs w;rw[List.map_cons] at w
  cases w with
  |cons a b=>
   cases a
   exact .cons _ _ (ih _ b)
theorem nQ{l:OpenLaw}{n:Nat}(hn:l.most=some n){P:Params}{h:Heap}{args:List WData}{vals:List Value}
    (hpre:l.row.toRowW.claim.pre args=true) (hwl:WellAll P h vals args) :
    ∃ a vs ns,vals=[Value.ref a]/\args=[WData.list (ns.map WData.int)]/\h.get? a=some { cls:=.type "list", data:=.seq vs.toArray }/\IntsAre vs ns/\ns.length<=n:=by
 have hsh:WShape.hasAll [] args [.list .int]=true:=(pre_splitW hpre).1;have hc:l.pre.holds [] { args:=args }=true:=(pre_splitW hpre).2;obtain ⟨d,r,rfl,h1,h2⟩:=hasAllW_cons hsh;obtain rfl:=hasAllW_nil h2;obtain ⟨xs,rfl,h3⟩:=hasW_list h1;obtain ⟨ns,rfl⟩:=items_int h3;have hlen:ns.length<=n:=by
  unfold OpenLaw.pre at hc;have h4:(WTm.not (.lt (.lit (.int (n:Int))) (.len (.arg 0)))).holds [] { args:=[.list (ns.map .int)] }=true:=by
   have h4:=(holds_andW hc).1;rw[hn] at h4;exact h4
  have h5:=condW_of h4 (w_not (w_lt w_lit (w_len_list (w_arg rfl))));rw[List.length_map] at h5;refine Nat.le_of_not_lt fun q=>?_;have q':(n:Int)<((ns.length:Nat):Int):=by omega
  first
   | (rw[decide_eq_true q'] at h5;exact absurd h5 (by decide))
   | (simp at h5;omega)
 cases hwl with
 |cons w1 w2=>
  cases w2
  cases w1 with
  |list ho hall=>exact ⟨_,_,ns,rfl,rfl,ho,ji ns _ hall,hlen⟩
theorem nR(l:OpenLaw)(args:List WData):l.row.toRowW.claim.post args (.bool true) args=true:=
 postW_of (r:=l.row.toRowW) (X:=(true == true))
  (show WShape.has [] (.bool true) .bool=true by first | rfl | decide | simp[WShape.has,WShape.arms,WShape.armsAll])
  (show (WTm.eq .res (.lit (.bool true))).value [] { args:=args,res:=some (.bool true),after:=args }=some (.bool (true == true)) from w_eq_bool (w_res rfl) w_lit) rfl
theorem attach_call{l:OpenLaw}{n:Nat}{q:Program}{loose:List Str}{XP:(Str->Option Value)->Heap->Prop}{YP:World->Heap->Prop}{d:DefRec}
    (hn:l.most=some n) (hdf:d.params.defaults=[])
    (call:∀ (w:World) (s₀ s₁:Shared) (mg mb:Str->Option Value) (fa:Addr) (o:Obj) (pm cd doc:Value) (a:Addr) (vs:List Value) (ns:List Int),
     Ground q loose [] XP w s₀ mg mb s₁.heap->YP w s₁.heap →
     s₁.heap.get? fa=some o->o.data=.func (docDef d.name d.params d.body d.scope pm cd doc)->s₁.heap.CodeRec cd d.name->mg d.name=some (.ref fa) →
     s₁.heap.get? a=some { cls:=.type "list", data:=.seq vs.toArray }->IntsAre vs ns->ns.length<=n->s₁.gens=#[] →
     codeAny (model l.prog w) callerA (.call (.ref fa) ⟨[.ref a],[]⟩) (fun r s'=>r=.ok (.ret (.bool true))/\OldK s₁.heap s'.heap/\s'.os=s₁.os/\AllBare s'.gens) s₁) :
    WalkO q loose XP YP l.row.toRowW d [] (fun f vs=>PySem.call f vs):=by
 intro w s₀ s₁ mg mb G Y fa o pm cd doc dV kV ho hd hcd hD hmg hg args vals as hpre hlay hrd hwl hlo;obtain rfl:dV=.none:=Dflts.none hD hdf;obtain rfl:kV=.none:=Dflts.noKw hD;obtain ⟨a,vs,ns,rfl,rfl,hobj,hints,hlen⟩:=nQ hn hpre hwl;refine enter_call (codeAny_mono (call w s₀ s₁ mg mb fa o pm cd doc a vs ns G Y ho (fd_plain hd) hcd hmg hobj hints hlen hg) fun r s' hq=>?_);obtain ⟨rfl,h2,h3,h4⟩:=hq
 exact ⟨.inl ⟨.bool true,.bool true,[],rfl,fun _=>rfl,.bool true,nR l _,fun _=>⟨List.Pairwise.nil,fun _ hm=>(nomatch hm)⟩⟩,h2,h3,h4⟩
section
variable {prog:Program}{w:World}{A:Around}{E:Value->Shared->Prop}{s:Shared}{K:Frag}
end
end Att
namespace L2
open PySem PySem.Spec PyProof.Rows
theorem gS:∀ {vs:List Value} {ns:List Int},IntsAre vs ns->Vals (ns.map V.int) vs
 |_,_,.nil=>.nil
 |_,_,.cons n t h=>.cons ⟨t,rfl⟩ (gS h)
def tE(H:Hp):Prop:=∀ b,H b=none\/∃ o xs,H b=some (.frz o (.lst xs))
theorem pG{P:Program}{w:World}{K:PySem.W.Frag}{mg mb:Str->Option Value}{CX:CXT}{k:Nat}{fa a:Addr}{fd:FuncData}{x:Str}{sp:Sp}{s₁:Shared}{vs:List Value}{ns:List Int}
    (KX:K.In s₁.heap) (hns:s₁.heap.Ns mainGlobals mg) (hb:s₁.heap.Ns builtinsNs mb) (hbb:∀ x:Str,x ≠ "__name__" -> mb x=bootBuiltins x) (hlim:s₁.heap.NoLimit) (hg:s₁.gens=#[])
    (ha:s₁.heap.get? a=some { cls:=.type "list", data:=.seq vs.toArray }) (hi:IntsAre vs ns) (hl:ns.length<=sizeLine) (hr:Room k callerA)
    (F:∀ base:Heap,K.In base->base.Ns mainGlobals mg->FnOk P w K mg base CX k fa fd [x] sp) (hbind:∀ (s:Shared) (u:Value),BindsTo s fd ⟨[u],[]⟩ [(x,u)])
    (hsp:∀ H:Hp,tE H->SqL K H a (ns.map V.int)->sp [.ref a] H (fun v _=>v=.bl true) fun _ _ _=>False)
    (hCX:∀ H e s',CX [] H s₁ (fun _ _ _=>False) e s'->False) :
    codeAny (model P w) callerA (.call (.ref fa) ⟨[.ref a],[]⟩) (fun r s'=>r=.ok (.ret (.bool true))/\OldK s₁.heap s'.heap/\s'.os=s₁.os/\AllBare s'.gens) s₁:=by
 have rv:=gS hi;have lenV:=hi.length;have core:∀ H:Hp,tE H->SqL K H a (ns.map V.int)->HOk P w H s₁.heap->(∀ b,H b≠none->b=a)->(H a≠none->K.lookup a=none) →
     codeAny (model P w) callerA (.call (.ref fa) ⟨[.ref a],[]⟩) (fun r s'=>r=.ok (.ret (.bool true))/\OldK s₁.heap s'.heap/\s'.os=s₁.os/\AllBare s'.gens) s₁:=by
  intro H hO hS hok hA hK;have base_of:∀ {b:Addr} {o:Obj},s₁.heap.get? b=some o->H b=none->(eW s₁.heap H).get? b=some o:=fun e n=>pi e n;have noA:∀ {b:Addr} {o:Obj} {es:Array DictEntry} {ep:Nat},s₁.heap.get? b=some o->o.data=.dict es ep->H b=none:=fun {b o es ep} e d=>by
   cases q:H b with
   |none=>rfl
   |some u=>
    have e':b=a:=hA b (by rw[q];simp);subst e';rw[ha] at e;cases e;have d':Data.seq vs.toArray _=Data.dict es ep:=d
    cases d'
  have nsK:∀ {b:Addr} {m:Str->Option Value},s₁.heap.Ns b m->(eW s₁.heap H).Ns b m:=fun {b m} ⟨o,es,ep,e,d,r⟩=>⟨o,es,ep,base_of e (noA e d),d,r⟩
  have hKb:K.In (eW s₁.heap H):=fun b o e=>base_of (KX b o e) (by
   cases q:H b with
   |none=>rfl
   |some u=>
    have e':b=a:=hA b (by rw[q];simp)
    subst e'
    rw[hK (by rw[q];simp)] at e;cases e)
  have hM:Mod K mg (eW s₁.heap H):=⟨hKb,nsK hns,⟨mb,nsK hb,hbb⟩,let ⟨mc,h1,h2⟩:=hlim;⟨mc,nsK h1,h2⟩⟩
  have e0:Env0 P w K mg (eW s₁.heap H) callerA [] s₁ H:=⟨rfl,hM,fun b o e=>qM e,Nat.le_of_eq (nH _ _),trivial,fun b hb=>absurd (show b∈([]:List Addr) from hb) (by simp),hok,.of_eq hg⟩
  refine codeAny_mono ((F _ hKb (nsK hns)).run callerA [] s₁ H ⟨[.ref a],[]⟩ [.ref a] [.ref a] _ _ hr e0 (hbind s₁ (.ref a)) (.cons rfl .nil) (hsp H hO hS)) fun r s' h=>?_
  cases r with
  |error e=>exact (hCX H e s' h).elim
  |ok fl=>
   cases fl with
   |next=>exact False.elim h
   |brk=>exact False.elim h
   |cont=>exact False.elim h
   |ret u=>
    obtain ⟨v,H',os,bare,un,hok',r',q⟩:=h;have q':v=.bl true:=q;subst q';obtain rfl:u=Value.bool true:=r';refine ⟨rfl,OldK.of_keep fun b o e=>?_,os,bare⟩
    cases q:H b with
    |none=>exact un.keep b o e q (by intro z;exact absurd (show b∈([]:List Addr) from z) (by simp)) (by simp)
    |some u=>
     rcases hO b with z | ⟨ob,xs,z⟩
     ·rw[q] at z;cases z
     ·have z2:=un.frzs b ob _ z
      obtain ⟨e1,_⟩:=hok b _ z;obtain ⟨e2,_⟩:=hok' b _ z2;rw[e] at e1;cases e1;exact e2
 cases hk:K.lookup a with
 |some o=>
  have e:=KX a o hk;rw[ha] at e
  cases e
  refine core (fun _=>none) (fun _=>.inl rfl) (.inr ⟨_,vs.toArray,_,hk,rfl,rfl,rfl,by rw[List.size_toArray,lenV];exact hl,by simpa using rv⟩) (fun b u z=>by have z':(none:Option HO)=some u:=z;cases z') (fun b z=>absurd rfl z) fun z=>absurd rfl z
 |none=>
  refine core (fun b=>if b=a then some (.frz { cls:=.type "list", data:=.seq vs.toArray } (.lst (ns.map V.int))) else none) (fun b=>?_) (.inl (.inr ⟨{ cls:=.type "list", data:=.seq vs.toArray },if_pos rfl⟩)) (fun b u z=>?_) (fun b z=>?_) fun _=>hk
  ·by_cases hb:b=a
   ·exact .inr ⟨_,_,if_pos hb⟩
   ·exact .inl (if_neg hb)
  ·by_cases hb:b=a
   ·have z':=(if_pos hb).symm.trans z
    cases z'
    subst hb;exact ⟨ha,by rw[List.length_map];exact hl,vs,_,rv,ha⟩
   ·have z':=(if_neg hb).symm.trans z
    cases z'
  ·by_cases hb:b=a
   ·exact hb
   ·exact absurd (if_neg hb) z
def cK(s:Stmt):Arguments:=match s with
 | .FunctionDef _ a _ _ _ _ _ _ _ _=>a
 |_=>{ posonlyargs:=[],args:=[],vararg:=none,kwonlyargs:=[],kw_defaults:=[],kwarg:=none,defaults:=[] }
def bD(s:Stmt):List Stmt:=match s with
 | .FunctionDef _ _ b _ _ _ _ _ _ _=>b
 |_=>[]
def am(s:Stmt):Scope:=match s with
 | .FunctionDef _ _ _ _ _ _ sc _ _ _=>sc
 |_=>{ kind:=.function,names:=[],isGenerator:=false,isCoroutine:=false }
abbrev E0:XK:=fun _ _ _=>False
structure Fun (K:PySem.W.Frag) (x qual:Str) (st:Stmt) (f:Addr) (fd:FuncData):Prop where
 ex:∃ (oc:Value) (od:Option Addr) (kV doc pm:Value) (an:Option Addr) (cdv ct:Value) (osl:Array (Option Value)),
  fd=PySem.W.fnOf x qual (cK st) (bD st) (am st) .none kV doc pm an cdv ct/\K.lookup f=some ⟨oc,od,.func fd,osl⟩/\PySem.W.codeIn K cdv qual=true
 kp:PySem.W.keepIn K (.ref f)=true
section
variable {P:Program}{w:World}{K:PySem.W.Frag}{mg:Str->Option Value}{base:Heap}
theorem Fun.binds{x qual:Str}{st:Stmt}{f:Addr}{fd:FuncData}{ps:List Str}(F:Fun K x qual st f fd)
    (h:∀ (kV doc pm:Value) (an:Option Addr) (cdv ct:Value) (us:List Value),us.length=ps.length->bindArgs (PySem.W.fnOf x qual (cK st) (bD st) (am st) .none kV doc pm an cdv ct) ⟨us,[]⟩=pure (ps.zip us)):Binds K fd ps []:=by
 obtain ⟨oc,od,kV,doc,pm,an,cdv,ct,osl,rfl,lk,hcd⟩:=F.ex;exact .all (h kV doc pm an cdv ct)
theorem jj{x qual:Str}{st:Stmt}{f:Addr}{oc:Value}{od an:Option Addr}{osl:Array (Option Value)}{kV doc pm cdv ct:Value}(l:K.lookup f=some ⟨oc,od,.func (PySem.W.fnOf x qual (cK st) (bD st) (am st) .none kV doc pm an cdv ct),osl⟩)
    (c:PySem.W.codeIn K cdv qual=true) (k:PySem.W.keepIn K (.ref f)=true):Fun K x qual st f (PySem.W.fnOf x qual (cK st) (bD st) (am st) .none kV doc pm an cdv ct):=⟨⟨oc,od,kV,doc,pm,an,cdv,ct,osl,rfl,l,c⟩,k⟩
end
section
variable {X:Cx}
end
def Same(H H':Hp):Prop:=∀ b o,H b=some o->H' b=some o
theorem Same.refl(H:Hp):Same H H:=fun _ _ h=>h
theorem Same.trans{H H1 H2:Hp}(a:Same H H1)(b:Same H1 H2):Same H H2:=fun c o h=>b c o (a c o h)
section
variable {X:Cx}
end
section
variable {κ:Type}[DecidableEq κ]
end
end L2
set_option maxHeartbeats 4000000
theorem List.reverseRecOn'{α:Type}{motive:List α->Prop}(l:List α)(nil:motive [])(snoc:∀ xs x,motive xs->motive (xs++[x])):motive l:=by
 have:∀ l:List α,motive l.reverse:=by
  intro l;induction l with
  |nil=>exact nil
  |cons x xs ih=>rw[List.reverse_cons];exact snoc _ _ ih
 simpa using this l.reverse
namespace Mi
open PySem L2
inductive Tg where
 |f | o | b
 deriving DecidableEq
inductive D where
 |non | bl (b:Bool) | int (i:Int) | str (x:Str)
 |lst (t:Tg) (xs:List D) | tup (xs:List D)
 |dic (t:Tg) (kvs:List (List Key × D))
 |ins (t:Tg) (C:Addr) (fs:List (Str × D))
 |exc (C:Value)
 |scr (ns:List Int)
 |slf (a C:Addr) (fs:List (Str × D))
namespace D
def tag:D->Tg
 | .lst t _=>t
 | .dic t _=>t
 | .ins t _ _=>t
 | .slf _ _ _=>.o
 |_=>.f
def rd:D->D
 | .lst .o xs=>.lst .b xs
 | .dic .o xs=>.dic .b xs
 | .ins .o C fs=>.ins .b C fs
 | .slf _ C fs=>.ins .b C fs
 |d=>d
mutual
def fz:D->D
 | .lst _ xs=>.lst .f (fzs xs)
 | .dic _ kvs=>.dic .f (fzk kvs)
 | .tup xs=>.tup (fzs xs)
 | .ins _ C fs=>.ins .f C fs
 | .slf _ C fs=>.ins .f C fs
 |d=>d
def fzs:List D->List D
 | []=>[]
 |x::xs=>fz x::fzs xs
def fzk:List (List Key × D)->List (List Key × D)
 | []=>[]
 | (k,x)::xs=>(k,fz x)::fzk xs
end
def atom:D->Bool
 | .non | .bl _ | .int _ | .str _=>true
 |_=>false
theorem fzs_map:∀ xs:List D,fzs xs=xs.map fz:=by
 intro lc
 cases lc with
 |nil=>
  simp[fzs]
 |cons x xs=>
  simp[fzs,fzs_map xs]
end D
mutual
inductive Rep (H:Hp):V->D->Prop
 |non:Rep H .non .non
 |bl {b}:Rep H (.bl b) (.bl b)
 |int {i}:Rep H (.int i) (.int i)
 |str {x}:Rep H (.str x) (.str x)
 |lst {a xs ds t}:H a=some (.lst xs)->Reps H xs ds->Rep H (.ref a) (.lst t ds)
 |tup {a xs ds}:H a=some (.tup xs)->Reps H xs ds->Rep H (.ref a) (.tup ds)
 |dic {a kvs ks t}:H a=some (.dT kvs)->RepK H kvs ks->Rep H (.ref a) (.dic t ks)
 |ins {a C dx fs ds t}:H a=some (.ins C dx fs)->RepF H fs ds->Rep H (.ref a) (.ins t C ds)
 |scr {a o ns}:H a=some (.frz o (.lst (ns.map V.int)))->Rep H (.ref a) (.scr ns)
 |slf {a C dx fs ds}:H a=some (.ins C dx fs)->RepF H fs ds->Rep H (.ref a) (.slf a C ds)
 |exc {a C φ}:H a=some (.ext φ)->(∀ h,φ h->∃ oe,h.get? a=some oe/\oe.cls=C)->Rep H (.ref a) (.exc C)
inductive Reps (H:Hp):List V->List D->Prop
 |nil:Reps H [] []
 |cons {v d vs ds}:Rep H v d->Reps H vs ds->Reps H (v::vs) (d::ds)
inductive RepK (H:Hp):List (List Key × V)->List (List Key × D)->Prop
 |nil:RepK H [] []
 |cons {k v d vs ds}:Rep H v d->RepK H vs ds->RepK H ((k,v)::vs) ((k,d)::ds)
inductive RepF (H:Hp):List (Str × V)->List (Str × D)->Prop
 |nil:RepF H [] []
 |cons {k v d vs ds}:Rep H v d->RepF H vs ds->RepF H ((k,v)::vs) ((k,d)::ds)
end
mutual
theorem Rep.mono{H H':Hp}(s:Same H H'):∀ {v d},Rep H v d->Rep H' v d:=by
 intro _ _ hc
 cases hc with
 |non=>
  exact .non
 |bl=>
  exact .bl
 |int=>
  exact .int
 |str=>
  exact .str
 |lst h r=>
  exact .lst (s _ _ h) (Reps.mono s r)
 |scr h=>
  exact .scr (s _ _ h)
 |exc h q=>
  exact .exc (s _ _ h) q
 |slf h r=>
  exact .slf (s _ _ h) (RepF.mono s r)
 |tup h r=>
  exact .tup (s _ _ h) (Reps.mono s r)
 |dic h r=>
  exact .dic (s _ _ h) (RepK.mono s r)
 |ins h r=>
  exact .ins (s _ _ h) (RepF.mono s r)
theorem Reps.mono{H H':Hp}(s:Same H H'):∀ {v d},Reps H v d->Reps H' v d:=by
 intro _ _ hc
 cases hc with
 |nil=>
  exact .nil
 |cons h r=>
  exact .cons (Rep.mono s h) (Reps.mono s r)
theorem RepK.mono{H H':Hp}(s:Same H H'):∀ {v d},RepK H v d->RepK H' v d:=by
 intro _ _ hc
 cases hc with
 |nil=>
  exact .nil
 |cons h r=>
  exact .cons (Rep.mono s h) (RepK.mono s r)
theorem RepF.mono{H H':Hp}(s:Same H H'):∀ {v d},RepF H v d->RepF H' v d:=by
 intro _ _ hc
 cases hc with
 |nil=>
  exact .nil
 |cons h r=>
  exact .cons (Rep.mono s h) (RepF.mono s r)
end
mutual
theorem Rep.fz{H:Hp}:∀ {v d},Rep H v d->Rep H v d.fz:=by
 intro _ _ hc
 cases hc with
 |non=>
  exact .non
 |bl=>
  exact .bl
 |int=>
  exact .int
 |str=>
  exact .str
 |lst h r=>
  exact .lst h (Reps.fz r)
 |tup h r=>
  exact .tup h (Reps.fz r)
 |dic h r=>
  exact .dic h (RepK.fz r)
 |ins h r=>
  exact .ins h r
 |scr h=>
  exact .scr h
 |exc h q=>
  exact .exc h q
 |slf h r=>
  exact .ins h r
theorem Reps.fz{H:Hp}:∀ {v d},Reps H v d->Reps H v (D.fzs d):=by
 intro _ _ hc
 cases hc with
 |nil=>
  exact .nil
 |cons h r=>
  exact .cons (Rep.fz h) (Reps.fz r)
theorem RepK.fz{H:Hp}:∀ {v d},RepK H v d->RepK H v (D.fzk d):=by
 intro _ _ hc
 cases hc with
 |nil=>
  exact .nil
 |cons h r=>
  exact .cons (Rep.fz h) (RepK.fz r)
end
theorem Reps.length{H:Hp}:∀ {vs ds},Reps H vs ds->vs.length=ds.length:=by
 intro _ _ hc
 cases hc with
 |nil=>
  exact rfl
 |cons _ r=>
  simp[Reps.length r]
theorem Reps.get{H:Hp}:∀ {vs ds} {i:Nat} {d},Reps H vs ds->ds[i]?=some d->∃ v,vs[i]?=some v/\Rep H v d:=by
 intro _ _ ic d hc e
 cases hc with
 |nil=>
  simp at e
 |cons h r=>
  cases ic with
  |zero=>
   simp at e;subst e;exact ⟨_,rfl,h⟩
  |succ i=>
   simpa using Reps.get (i:=i) (d:=d) r (by simpa using e)
theorem Reps.append{H:Hp}:∀ {vs ds us es},Reps H vs ds->Reps H us es->Reps H (vs++us) (ds++es):=by
 intro _ _ _ _ hc q
 cases hc with
 |nil=>
  exact q
 |cons h r=>
  exact .cons h (Reps.append r q)
mutual
inductive RepO (Hf H:Hp):List Addr->V->D->Prop
 |fz {v d}:Rep Hf v d->d.tag=.f->RepO Hf H [] v d
 |lst {a xs fp ds}:H a=some (.lst xs)->RepOs Hf H fp xs ds->RepO Hf H (a::fp) (.ref a) (.lst .o ds)
 |dic {a fp kvs ks}:H a=some (.dT kvs)->RepOk Hf H fp kvs ks->RepO Hf H (a::fp) (.ref a) (.dic .o ks)
 |slf {a C dx fs ks}:H a=some (.ins C dx fs)->H dx=some (.own a)->RepF Hf fs ks->RepO Hf H [a,dx] (.ref a) (.slf a C ks)
inductive RepOs (Hf H:Hp):List Addr->List V->List D->Prop
 |nil:RepOs Hf H [] [] []
 |cons {fp v d fps vs ds}:RepO Hf H fp v d->RepOs Hf H fps vs ds->RepOs Hf H (fp++fps) (v::vs) (d::ds)
inductive RepOk (Hf H:Hp):List Addr->List (List Key × V)->List (List Key × D)->Prop
 |nil:RepOk Hf H [] [] []
 |cons {k fp v d fps vs ds}:RepO Hf H fp v d->RepOk Hf H fps vs ds->RepOk Hf H (fp++fps) ((k,v)::vs) ((k,d)::ds)
end
mutual
inductive RepV (Hf H:Hp):V->D->Prop
 |fz {v d}:Rep Hf v d->d.tag=.f->RepV Hf H v d
 |lst {a xs ds t}:t≠.f->H a=some (.lst xs)->RepVs Hf H xs ds->RepV Hf H (.ref a) (.lst t ds)
 |dic {a kvs ks t}:t≠.f->H a=some (.dT kvs)->RepVk Hf H kvs ks->RepV Hf H (.ref a) (.dic t ks)
 |ins {a C dx fs ks t}:t≠.f->H a=some (.ins C dx fs)->RepF Hf fs ks->RepV Hf H (.ref a) (.ins t C ks)
 |slf {a C dx fs ks}:H a=some (.ins C dx fs)->RepF Hf fs ks->RepV Hf H (.ref a) (.slf a C ks)
inductive RepVs (Hf H:Hp):List V->List D->Prop
 |nil:RepVs Hf H [] []
 |cons {v d vs ds}:RepV Hf H v d->RepVs Hf H vs ds->RepVs Hf H (v::vs) (d::ds)
inductive RepVk (Hf H:Hp):List (List Key × V)->List (List Key × D)->Prop
 |nil:RepVk Hf H [] []
 |cons {k v d vs ds}:RepV Hf H v d->RepVk Hf H vs ds->RepVk Hf H ((k,v)::vs) ((k,d)::ds)
end
mutual
theorem RepO.v{Hf H:Hp}:∀ {fp v d},RepO Hf H fp v d->RepV Hf H v d:=by
 intro _ _ _ hc
 cases hc with
 |fz h e=>
  exact .fz h e
 |lst h r=>
  exact .lst (by decide) h (RepOs.v r)
 |dic h r=>
  exact .dic (by decide) h (RepOk.v r)
 |slf h _ r=>
  exact .slf h r
theorem RepOs.v{Hf H:Hp}:∀ {fp v d},RepOs Hf H fp v d->RepVs Hf H v d:=by
 intro _ _ _ hc
 cases hc with
 |nil=>
  exact .nil
 |cons h r=>
  exact .cons (RepO.v h) (RepOs.v r)
theorem RepOk.v{Hf H:Hp}:∀ {fp v d},RepOk Hf H fp v d->RepVk Hf H v d:=by
 intro _ _ _ hc
 cases hc with
 |nil=>
  exact .nil
 |cons h r=>
  exact .cons (RepO.v h) (RepOk.v r)
end
mutual
theorem RepV.rep{Hf H:Hp}(s:Same Hf H):∀ {v d},RepV Hf H v d->Rep H v d:=by
 intro _ _ hc
 cases hc with
 |fz h _=>
  exact h.mono s
 |lst _ h r=>
  exact .lst h (RepVs.rep s r)
 |dic _ h r=>
  exact .dic h (RepVk.rep s r)
 |ins _ h r=>
  exact .ins h (r.mono s)
 |slf h r=>
  exact .slf h (r.mono s)
theorem RepVs.rep{Hf H:Hp}(s:Same Hf H):∀ {v d},RepVs Hf H v d->Reps H v d:=by
 intro _ _ hc
 cases hc with
 |nil=>
  exact .nil
 |cons h r=>
  exact .cons (RepV.rep s h) (RepVs.rep s r)
theorem RepVk.rep{Hf H:Hp}(s:Same Hf H):∀ {v d},RepVk Hf H v d->RepK H v d:=by
 intro _ _ hc
 cases hc with
 |nil=>
  exact .nil
 |cons h r=>
  exact .cons (RepV.rep s h) (RepVk.rep s r)
end
mutual
theorem RepO.keep{Hf H Hf' H':Hp}(s:Same Hf Hf'):∀ {fp v d},RepO Hf H fp v d->(∀ a o,a∈fp->H a=some o->H' a=some o)->RepO Hf' H' fp v d:=by
 intro _ _ _ hc k
 cases hc with
 |fz h e=>
  exact .fz (h.mono s) e
 |lst h r=>
  exact .lst (k _ _ List.mem_cons_self h) (RepOs.keep s r fun a o m=>k a o (List.mem_cons_of_mem _ m))
 |dic h r=>
  exact .dic (k _ _ List.mem_cons_self h) (RepOk.keep s r fun a o m=>k a o (List.mem_cons_of_mem _ m))
 |slf h q r=>
  exact .slf (k _ _ List.mem_cons_self h) (k _ _ (List.mem_cons_of_mem _ List.mem_cons_self) q) (r.mono s)
theorem RepOs.keep{Hf H Hf' H':Hp}(s:Same Hf Hf'):∀ {fp v d},RepOs Hf H fp v d->(∀ a o,a∈fp->H a=some o->H' a=some o)->RepOs Hf' H' fp v d:=by
 intro _ _ _ hc k
 cases hc with
 |nil=>
  exact .nil
 |cons h r=>
  exact .cons (RepO.keep s h fun a o m=>k a o (List.mem_append_left _ m)) (RepOs.keep s r fun a o m=>k a o (List.mem_append_right _ m))
theorem RepOk.keep{Hf H Hf' H':Hp}(s:Same Hf Hf'):∀ {fp v d},RepOk Hf H fp v d->(∀ a o,a∈fp->H a=some o->H' a=some o)->RepOk Hf' H' fp v d:=by
 intro _ _ _ hc k
 cases hc with
 |nil=>
  exact .nil
 |cons h r=>
  exact .cons (RepO.keep s h fun a o m=>k a o (List.mem_append_left _ m)) (RepOk.keep s r fun a o m=>k a o (List.mem_append_right _ m))
end
mutual
theorem RepV.mono{Hf H Hf' H':Hp}(s:Same Hf Hf')(s':Same H H'):∀ {v d},RepV Hf H v d->RepV Hf' H' v d:=by
 intro _ _ hc
 cases hc with
 |fz h e=>
  exact .fz (h.mono s) e
 |lst t h r=>
  exact .lst t (s' _ _ h) (RepVs.mono s s' r)
 |dic t h r=>
  exact .dic t (s' _ _ h) (RepVk.mono s s' r)
 |ins t h r=>
  exact .ins t (s' _ _ h) (r.mono s)
 |slf h r=>
  exact .slf (s' _ _ h) (r.mono s)
theorem RepVs.mono{Hf H Hf' H':Hp}(s:Same Hf Hf')(s':Same H H'):∀ {v d},RepVs Hf H v d->RepVs Hf' H' v d:=by
 intro _ _ hc
 cases hc with
 |nil=>
  exact .nil
 |cons h r=>
  exact .cons (RepV.mono s s' h) (RepVs.mono s s' r)
theorem RepVk.mono{Hf H Hf' H':Hp}(s:Same Hf Hf')(s':Same H H'):∀ {v d},RepVk Hf H v d->RepVk Hf' H' v d:=by
 intro _ _ hc
 cases hc with
 |nil=>
  exact .nil
 |cons h r=>
  exact .cons (RepV.mono s s' h) (RepVk.mono s s' r)
end
mutual
theorem RepO.there{Hf H:Hp}:∀ {fp v d},RepO Hf H fp v d->∀ a∈fp,∃ o,H a=some o:=by
 intro _ _ _ hc a m
 cases hc with
 |fz _ _=>
  simp at m
 |lst h r=>
  rcases List.mem_cons.mp m with e | m
  ·subst e;exact ⟨_,h⟩
  ·exact RepOs.there r a m
 |dic h r=>
  rcases List.mem_cons.mp m with e | m
  ·subst e;exact ⟨_,h⟩
  ·exact RepOk.there r a m
 |slf h q _=>
  simp at m;rcases m with m | m
  ·subst m;exact ⟨_,h⟩
  ·subst m;exact ⟨_,q⟩
theorem RepOs.there{Hf H:Hp}:∀ {fp v d},RepOs Hf H fp v d->∀ a∈fp,∃ o,H a=some o:=by
 intro _ _ _ hc a m
 cases hc with
 |nil=>
  simp at m
 |cons h r=>
  exact (List.mem_append.mp m).elim (RepO.there h a) (RepOs.there r a)
theorem RepOk.there{Hf H:Hp}:∀ {fp v d},RepOk Hf H fp v d->∀ a∈fp,∃ o,H a=some o:=by
 intro _ _ _ hc a m
 cases hc with
 |nil=>
  simp at m
 |cons h r=>
  exact (List.mem_append.mp m).elim (RepO.there h a) (RepOk.there r a)
end
theorem RepVs.get{Hf H:Hp}:∀ {vs ds} {i:Nat} {d},RepVs Hf H vs ds->ds[i]?=some d->∃ v,vs[i]?=some v/\RepV Hf H v d:=by
 intro _ _ ic d hc e
 cases hc with
 |nil=>
  simp at e
 |cons h r=>
  cases ic with
  |zero=>
   simp at e;subst e;exact ⟨_,rfl,h⟩
  |succ i=>
   simpa using RepVs.get (i:=i) (d:=d) r (by simpa using e)
theorem RepOs.length{Hf H:Hp}:∀ {fp vs ds},RepOs Hf H fp vs ds->vs.length=ds.length:=by
 intro _ _ _ hc
 cases hc with
 |nil=>
  exact rfl
 |cons _ r=>
  simp[RepOs.length r]
theorem RepOs.append{Hf H:Hp}:∀ {fp vs ds fq us es},RepOs Hf H fp vs ds->RepOs Hf H fq us es->RepOs Hf H (fp++fq) (vs++us) (ds++es):=by
 intro _ _ _ _ _ _ hc q
 cases hc with
 |nil=>
  exact q
 |cons h r=>
  rw[List.append_assoc];exact .cons h (RepOs.append r q)
def mix(Hf H:Hp)(fp:List Addr):Hp:=fun a=>if a∈fp then H a else Hf a
theorem jk{Hf H:Hp}{fp:List Addr}{a:Addr}(h:a∈fp):mix Hf H fp a=H a:=by unfold mix;rw[if_pos h]
theorem mi{Hf H:Hp}{fp:List Addr}{a:Addr}(h:a∉fp):mix Hf H fp a=Hf a:=by unfold mix;rw[if_neg h]
theorem cE{Hf H:Hp}{fp:List Addr}(s:Same Hf H):Same Hf (mix Hf H fp):=fun a o e=>by
 unfold mix;by_cases h:a∈fp
 ·rw[if_pos h];exact s a o e
 ·rw[if_neg h];exact e
theorem tF{Hf H:Hp}{fp:List Addr}(s:Same Hf H):Same (mix Hf H fp) H:=fun a o e=>by
 unfold mix at e;by_cases h:a∈fp
 ·rw[if_pos h] at e;exact e
 ·rw[if_neg h] at e;exact s a o e
mutual
theorem RepO.froz{Hf H:Hp}(s:Same Hf H):∀ {fp v d} {fq:List Addr},RepO Hf H fp v d->(∀ a∈fp,a∈fq)->Rep (mix Hf H fq) v d.fz:=by
 intro _ _ _ _ hc m
 cases hc with
 |fz h _=>
  exact (h.mono (cE s)).fz
 |lst h r=>
  exact .lst (by rw[jk (m _ List.mem_cons_self)];exact h) (RepOs.froz s r fun a q=>m a (List.mem_cons_of_mem _ q))
 |dic h r=>
  exact .dic (by rw[jk (m _ List.mem_cons_self)];exact h) (RepOk.froz s r fun a q=>m a (List.mem_cons_of_mem _ q))
 |slf h q r=>
  exact .ins (by rw[jk (m _ List.mem_cons_self)];exact h) (r.mono (cE s))
theorem RepOs.froz{Hf H:Hp}(s:Same Hf H):∀ {fp v d} {fq:List Addr},RepOs Hf H fp v d->(∀ a∈fp,a∈fq)->Reps (mix Hf H fq) v (D.fzs d):=by
 intro _ _ _ _ hc m
 cases hc with
 |nil=>
  exact .nil
 |cons h r=>
  exact .cons (RepO.froz s h fun a q=>m a (List.mem_append_left _ q)) (RepOs.froz s r fun a q=>m a (List.mem_append_right _ q))
theorem RepOk.froz{Hf H:Hp}(s:Same Hf H):∀ {fp v d} {fq:List Addr},RepOk Hf H fp v d->(∀ a∈fp,a∈fq)->RepK (mix Hf H fq) v (D.fzk d):=by
 intro _ _ _ _ hc m
 cases hc with
 |nil=>
  exact .nil
 |cons h r=>
  exact .cons (RepO.froz s h fun a q=>m a (List.mem_append_left _ q)) (RepOk.froz s r fun a q=>m a (List.mem_append_right _ q))
end
inductive Own (Hf H:Hp):List Addr->List (Option V)->List (Option D)->Prop
 |nil:Own Hf H [] [] []
 |skip {fp v vs ds}:Own Hf H fp vs ds->Own Hf H fp (v::vs) (none::ds)
 |cons {fp fq v d vs ds}:RepO Hf H fp v d->Own Hf H fq vs ds->Own Hf H (fp++fq) (some v::vs) (some d::ds)
 |brw {fp v d vs ds}:d.tag=.b->RepV Hf H v d->Own Hf H fp vs ds->Own Hf H fp (some v::vs) (some d::ds)
theorem Own.there{Hf H:Hp}:∀ {fp vs ds},Own Hf H fp vs ds->∀ a∈fp,∃ o,H a=some o:=by
 intro _ _ _ hc a m
 cases hc with
 |nil=>
  simp at m
 |skip r=>
  exact Own.there r a m
 |cons h r=>
  exact (List.mem_append.mp m).elim (h.there a) (Own.there r a)
 |brw _ _ r=>
  exact Own.there r a m
def noB(ds:List (Option D)):Prop:=∀ d,some d∈ds->d.tag≠.b
theorem Own.keep{Hf H Hf' H':Hp}(s:Same Hf Hf'):∀ {fp vs ds},Own Hf H fp vs ds->noB ds->(∀ a o,a∈fp->H a=some o->H' a=some o)->Own Hf' H' fp vs ds:=by
 intro _ _ _ hc n k
 cases hc with
 |nil=>
  exact .nil
 |skip r=>
  exact .skip (Own.keep s r (fun d m=>n d (List.mem_cons_of_mem _ m)) k)
 |cons h r=>
  exact .cons (h.keep s fun a o m=>k a o (List.mem_append_left _ m)) (Own.keep s r (fun d m=>n d (List.mem_cons_of_mem _ m)) fun a o m=>k a o (List.mem_append_right _ m))
 |brw t h r=>
  exact absurd t (n _ List.mem_cons_self)
theorem Own.mono{Hf H Hf' H':Hp}(s:Same Hf Hf')(s':Same H H'):∀ {fp vs ds},Own Hf H fp vs ds->Own Hf' H' fp vs ds:=by
 intro _ _ _ hc
 cases hc with
 |nil=>
  exact .nil
 |skip r=>
  exact .skip (Own.mono s s' r)
 |cons h r=>
  exact .cons (h.keep s fun a o _=>s' a o) (Own.mono s s' r)
 |brw t h r=>
  exact .brw t (h.mono s s') (Own.mono s s' r)
theorem Own.take{Hf H:Hp}:∀ {fp vs ds} {i:Nat} {d},Own Hf H fp vs ds->ds[i]?=some (some d)->d.tag≠.b →
    ∃ v fp1 fp2,vs[i]?=some (some v)/\RepO Hf H fp1 v d/\Own Hf H fp2 vs (ds.set i none)/\fp.Perm (fp1++fp2):=by
 intro _ _ _ ic d hc h n
 cases hc with
 |nil=>
  simp at h
 |skip r=>
  cases ic with
  |zero=>
   simp at h
  |succ i=>
   obtain ⟨v,fp1,fp2,e,q,r',p⟩:=Own.take (i:=i) r (by simpa using h) n;exact ⟨v,fp1,fp2,by simpa using e,q,.skip r',p⟩
 | @cons f1 _ _ _ _ _ q0 r=>
  cases ic with
  |zero=>
   simp at h;subst h;exact ⟨_,_,_,rfl,q0,.skip r,.refl _⟩
  |succ i=>
   obtain ⟨v,fp1,fp2,e,q,r',p⟩:=Own.take (i:=i) r (by simpa using h) n;refine ⟨v,fp1,f1++fp2,by simpa using e,q,.cons q0 r',?_⟩;refine (List.Perm.append_left f1 p).trans ?_;rw[<- List.append_assoc,<- List.append_assoc];exact List.Perm.append_right _ List.perm_append_comm
 |brw t q0 r=>
  cases ic with
  |zero=>
   simp at h;subst h;exact absurd t n
  |succ i=>
   obtain ⟨v,fp1,fp2,e,q,r',p⟩:=Own.take (i:=i) r (by simpa using h) n;exact ⟨v,fp1,fp2,by simpa using e,q,.brw t q0 r',p⟩
theorem Own.getV{Hf H:Hp}:∀ {fp vs ds} {i:Nat} {d},Own Hf H fp vs ds->ds[i]?=some (some d)->∃ v,vs[i]?=some (some v)/\RepV Hf H v d:=by
 intro _ _ _ ic d hc h
 cases hc with
 |nil=>
  simp at h
 |skip r=>
  cases ic with
  |zero=>
   simp at h
  |succ i=>
   simpa using Own.getV (i:=i) r (by simpa using h)
 |cons q r=>
  cases ic with
  |zero=>
   simp at h;subst h;exact ⟨_,rfl,q.v⟩
  |succ i=>
   simpa using Own.getV (i:=i) r (by simpa using h)
 |brw t q r=>
  cases ic with
  |zero=>
   simp at h;subst h;exact ⟨_,rfl,q⟩
  |succ i=>
   simpa using Own.getV (i:=i) r (by simpa using h)
theorem Own.put{Hf H:Hp}{fp1:List Addr}{v:V}{d:D}(q:RepO Hf H fp1 v d):∀ {fp vs ds} {i:Nat},Own Hf H fp vs ds->i<ds.length -> 
    ∃ fp',Own Hf H fp' (vs.set i (some v)) (ds.set i (some d))/\∃ fp2,fp'.Perm (fp1++fp2)/\fp2.Sublist fp:=by
 intro _ _ _ ic hc h
 cases hc with
 |nil=>
  simp at h
 |skip r=>
  cases ic with
  |zero=>
   exact ⟨_,.cons q r,_,.refl _,.refl _⟩
  |succ i=>
   obtain ⟨fp',o,fp2,p,s⟩:=Own.put (i:=i) q r (by simpa using h);exact ⟨fp',.skip o,fp2,p,s⟩
 | @cons f1 _ _ _ _ _ q0 r=>
  cases ic with
  |zero=>
   exact ⟨_,.cons q r,_,.refl _,List.sublist_append_right _ _⟩
  |succ i=>
   obtain ⟨fp',o,fp2,p,s⟩:=Own.put (i:=i) q r (by simpa using h);refine ⟨f1++fp',.cons q0 o,f1++fp2,?_,s.append_left f1⟩;refine (List.Perm.append_left f1 p).trans ?_;rw[<- List.append_assoc,<- List.append_assoc];exact List.Perm.append_right _ List.perm_append_comm
 |brw t q0 r=>
  cases ic with
  |zero=>
   exact ⟨_,.cons q r,_,.refl _,.refl _⟩
  |succ i=>
   obtain ⟨fp',o,fp2,p,s⟩:=Own.put (i:=i) q r (by simpa using h);exact ⟨fp',.brw t q0 o,fp2,p,s⟩
structure Fine (Hs H0 Hf H:Hp) (fp:List Addr):Prop where
 nd:fp.Nodup
 own:∀ a∈fp,Hf a=none/\H0 a=none
 fh:Same Hf H
 zh:Same H0 H
 sf:Same Hs Hf
 new:∀ a o,Hf a=some o->(∃ o',Hs a=some o')\/H0 a=none
def SR(Hs H0 H:Hp)(vs:List (Option V))(ds:List (Option D)):Prop:=∃ Hf fp,Own Hf H fp vs ds/\Fine Hs H0 Hf H fp
theorem Fine.sub{Hs H0 Hf H:Hp}{fp fq:List Addr}(F:Fine Hs H0 Hf H fp)(nd:fq.Nodup)(s:∀ a∈fq,a∈fp):Fine Hs H0 Hf H fq:=
 ⟨nd,fun a m=>F.own a (s a m),F.fh,F.zh,F.sf,F.new⟩
theorem Fine.subl{Hs H0 Hf H:Hp}{fp fq:List Addr}(F:Fine Hs H0 Hf H fp)(s:fq.Sublist fp):Fine Hs H0 Hf H fq:=F.sub (F.nd.sublist s) fun _ m=>s.subset m
theorem Fine.perm{Hs H0 Hf H:Hp}{fp fq:List Addr}(F:Fine Hs H0 Hf H fp)(p:fq.Perm fp):Fine Hs H0 Hf H fq:=F.sub (p.nodup_iff.mpr F.nd) fun _ m=>p.mem_iff.mp m
theorem Fine.froz{Hs H0 Hf H:Hp}{fp fq:List Addr}(F:Fine Hs H0 Hf H (fp++fq)):Fine Hs H0 (mix Hf H fp) H fq:=
 ⟨(List.nodup_append.mp F.nd).2.1,fun a m=>⟨by
  have hn:a∉fp:=fun z=>(List.nodup_append.mp F.nd).2.2 a z a m rfl
  rw[mi hn];exact (F.own a (List.mem_append_right _ m)).1,(F.own a (List.mem_append_right _ m)).2⟩,tF F.fh,F.zh,F.sf.trans (cE F.fh),fun a o e=>by
  by_cases h:a∈fp
  ·exact .inr (F.own a (List.mem_append_left _ h)).2
  ·rw[mi h] at e;exact F.new a o e⟩
section
variable {Hs H0 H:Hp}{vs:List (Option V)}{ds:List (Option D)}{v:V}{d:D}
theorem SR.same(S:SR Hs H0 H vs ds):Same H0 H:=let ⟨_,_,_,F⟩:=S;F.zh
theorem SR.drop{v:Option V}{d:Option D}(S:SR Hs H0 H (v::vs) (d::ds)):SR Hs H0 H vs ds:=by
 obtain ⟨Hf,fp,O,F⟩:=S
 cases O with
 |skip r=>exact ⟨Hf,_,r,F⟩
 |cons h r=>exact ⟨Hf,_,r,F.subl (List.sublist_append_right _ _)⟩
 |brw t h r=>exact ⟨Hf,_,r,F⟩
theorem SR.head(S:SR Hs H0 H (some v::vs) (some d::ds)):Rep H v d:=by
 obtain ⟨Hf,fp,O,F⟩:=S
 cases O with
 |cons h r=>exact h.v.rep F.fh
 |brw t h r=>exact h.rep F.fh
theorem SR.atom(S:SR Hs H0 H vs ds)(h:∀ H,Rep H v d)(t:d.tag=.f):SR Hs H0 H (some v::vs) (some d::ds):=by
 obtain ⟨Hf,fp,O,F⟩:=S;exact ⟨Hf,_,.cons (.fz (h Hf) t) O,F⟩
theorem SR.int(S:SR Hs H0 H vs ds){i:Int}:SR Hs H0 H (some (.int i)::vs) (some (.int i)::ds):=S.atom (fun _=>.int) rfl
theorem SR.bl(S:SR Hs H0 H vs ds){i:Bool}:SR Hs H0 H (some (.bl i)::vs) (some (.bl i)::ds):=S.atom (fun _=>.bl) rfl
theorem SR.str(S:SR Hs H0 H vs ds){i:Str}:SR Hs H0 H (some (.str i)::vs) (some (.str i)::ds):=S.atom (fun _=>.str) rfl
theorem SR.non(S:SR Hs H0 H vs ds):SR Hs H0 H (some .non::vs) (some .non::ds):=S.atom (fun _=>.non) rfl
theorem SR.grow{H':Hp}(S:SR Hs H0 H vs ds)(s:Same H H'):SR Hs H0 H' vs ds:=by
 obtain ⟨Hf,fp,O,F⟩:=S;exact ⟨Hf,fp,O.mono (Same.refl _) s,F.nd,F.own,F.fh.trans s,F.zh.trans s,F.sf,F.new⟩
theorem SR.frz(S:SR Hs H0 H (some v::vs) (some d::ds))(t:d.tag≠.b):SR Hs H0 H (some v::vs) (some d.fz::ds):=by
 obtain ⟨Hf,fp,O,F⟩:=S
 cases O with
 |cons h r=>
  refine ⟨mix Hf H _,_,.cons (.fz (h.froz F.fh fun a m=>m) ?_) (r.mono (cE F.fh) (Same.refl _)),F.froz⟩
  cases d<;>rfl
 |brw z h r=>exact absurd z t
theorem SR.get(S:SR Hs H0 H vs ds){i:Nat}(e:ds[i]?=some (some d)):∃ v,vs[i]?=some (some v)/\SR Hs H0 H (some v::vs) (some d.rd::ds):=by
 obtain ⟨Hf,fp,O,F⟩:=S;obtain ⟨v,e',h⟩:=O.getV e;refine ⟨v,e',Hf,fp,?_,F⟩
 cases h with
 |fz h t=>
  have:d.rd=d:=by cases d<;>first | rfl | (cases t;rfl) | cases t
  rw[this];exact Own.cons (fp:=[]) (.fz h t) O
 |lst t h r=>
  rename_i tt;refine .brw ?_ (?_:RepV Hf H _ (D.rd (.lst tt _))) O
  ·cases tt<;>first | rfl | exact absurd rfl t
  ·cases tt<;>first | exact absurd rfl t | exact .lst (by decide) h r
 |dic t h r=>
  rename_i tt;refine .brw ?_ (?_:RepV Hf H _ (D.rd (.dic tt _))) O
  ·cases tt<;>first | rfl | exact absurd rfl t
  ·cases tt<;>first | exact absurd rfl t | exact .dic (by decide) h r
 |ins t h r=>
  rename_i tt;refine .brw ?_ (?_:RepV Hf H _ (D.rd (.ins tt _ _))) O
  ·cases tt<;>first | rfl | exact absurd rfl t
  ·cases tt<;>first | exact absurd rfl t | exact .ins (by decide) h r
 |slf h r=>exact .brw rfl (.ins (by decide) h r) O
end
end Mi
namespace Mi
open PySem L2
def D.asF:D->D
 | .lst _ xs=>.lst .f xs
 | .dic _ xs=>.dic .f xs
 | .ins _ C fs=>.ins .f C fs
 | .slf _ C fs=>.ins .f C fs
 |d=>d
theorem D.asF_tag(d:D):d.asF.tag=.f:=by cases d<;>rfl
theorem D.fz_tag(d:D):d.fz.tag=.f:=by cases d<;>rfl
theorem Rep.asF{H:Hp}{v:V}{d:D}(h:Rep H v d):Rep H v d.asF:=by
 cases h with
 |lst h r=>exact .lst h r
 |dic h r=>exact .dic h r
 |non=>exact .non
 |bl=>exact .bl
 |int=>exact .int
 |str=>exact .str
 |tup h r=>exact .tup h r
 |ins h r=>exact .ins h r
 |scr h=>exact .scr h
 |slf h r=>exact .ins h r
 |exc h q=>exact .exc h q
theorem RepOs.ofReps{Hf H:Hp}:∀ {us es},Reps Hf us es->(∀ e∈es,e.tag=.f)->RepOs Hf H [] us es:=by
 intro _ _ hc t
 cases hc with
 |nil=>
  exact .nil
 |cons h r=>
  exact RepOs.cons (fp:=[]) (.fz h (t _ List.mem_cons_self)) (RepOs.ofReps r fun e m=>t e (List.mem_cons_of_mem _ m))
theorem fX(es:List D):∀ e∈D.fzs es,e.tag=.f:=by
 rw[D.fzs_map];intro e m;obtain ⟨x,_,rfl⟩:=List.mem_map.mp m;exact x.fz_tag
section
variable {Hs H0 H Hf:Hp}{vs:List (Option V)}{ds:List (Option D)}{v:V}{d:D}{fp:List Addr}
theorem SR.set(S:SR Hs H0 H (some v::vs) (some d::ds))(t:d.tag≠.b){i:Nat}(hi:i<ds.length):SR Hs H0 H (vs.set i (some v)) (ds.set i (some d)):=by
 obtain ⟨Hf,fp,O,F⟩:=S
 cases O with
 |cons h r=>
  obtain ⟨fp',O',fp2,p,s⟩:=Own.put h r hi;exact ⟨Hf,fp',O',(F.subl (List.Sublist.append_left s _)).perm p⟩
 |brw z h r=>exact absurd z t
theorem SR.only{vs':List (Option V)}{ds':List (Option D)}(S:SR Hs H0 H (some v::vs) (some d::ds)):SR Hs H0 H [some v] [some d]:=by
 obtain ⟨Hf,fp,O,F⟩:=S
 cases O with
 |cons h r=>
  rename_i fp1 fp2;have:=Own.cons h (Own.nil (Hf:=Hf) (H:=H));exact ⟨Hf,_,this,F.subl (by simp)⟩
 |brw z h r=>exact ⟨Hf,[],.brw z h .nil,F.subl (List.nil_sublist _)⟩
theorem SR.move(S:SR Hs H0 H vs ds){i:Nat}(e:ds[i]?=some (some d))(t:d.tag≠.b):∃ v,vs[i]?=some (some v)/\SR Hs H0 H (some v::vs) (some d::ds.set i none):=by
 obtain ⟨Hf,fp,O,F⟩:=S;obtain ⟨v,fp1,fp2,e',h,O',p⟩:=O.take e t;exact ⟨v,e',Hf,_,.cons h O',F.perm p.symm⟩
def hv(us:List V):List (Option V):=us.reverse.map some
def hd(es:List D):List (Option D):=es.reverse.map some
theorem jW(us:List V)(u:V)(vs:List (Option V)):hv (us++[u])++vs=some u::(hv us++vs):=by simp[hv]
theorem jX(us:List D)(u:D)(vs:List (Option D)):hd (us++[u])++vs=some u::(hd us++vs):=by simp[hd]
theorem Own.takeAll{us:List V}{es:List D}(hl:us.length=es.length)(hb:∀ e∈es,e.tag≠.b)(O:Own Hf H fp (hv us++vs) (hd es++ds)) :
    ∃ fp1 fp2,RepOs Hf H fp1 us es/\Own Hf H fp2 vs ds/\fp.Perm (fp1++fp2):=by
 induction us using List.reverseRecOn' generalizing es fp with
 |nil=>
  have:es=[]:=by cases es with | nil=>rfl | cons x y=>simp at hl
  subst this;exact ⟨[],fp,.nil,by simpa [hv,hd] using O,.refl _⟩
 |snoc us u ih=>
  obtain ⟨es',e,rfl⟩:∃ es' e,es=es'++[e]:=by
   cases es using List.reverseRecOn' with
   |nil=>simp at hl
   |snoc es' e=>exact ⟨es',e,rfl⟩
  rw[jW,jX] at O;have hl':us.length=es'.length:=by simpa using hl
  cases O with
  |cons h r=>
   rename_i f1 f2;obtain ⟨fp1,fp2,R,O',p⟩:=ih hl' (fun x m=>hb x (List.mem_append_left _ m)) r;have R1:RepOs Hf H (f1++[]) [u] [e]:=.cons h .nil;refine ⟨fp1++f1,fp2,by simpa using R.append R1,O',?_⟩;refine (List.Perm.append_left _ p).trans ?_;rw[<- List.append_assoc];exact List.Perm.append_right _ List.perm_append_comm
  |brw z h r=>exact absurd z (hb e (by simp))
theorem SR.mkList{us:List V}{es:List D}(S:SR Hs H0 H (hv us++vs) (hd es++ds))(hl:us.length=es.length)(hb:∀ e∈es,e.tag≠.b){p:Addr}(hp:H p=none) :
    SR Hs H0 (upd H p (.lst us)) (some (.ref p)::vs) (some (.lst .o es)::ds):=by
 obtain ⟨Hf,fp,O,F⟩:=S;obtain ⟨fp1,fp2,R,O',pm⟩:=O.takeAll hl hb;have F':=F.perm pm.symm;have s:Same H (upd H p (.lst us)):=fun b o e=>by rw[aD (aY e hp)];exact e
 have hnp:p∉fp1++fp2:=fun m=>by
  rcases List.mem_append.mp m with m | m
  ·obtain ⟨o,e⟩:=R.there p m;rw[hp] at e;cases e
  ·obtain ⟨o,e⟩:=O'.there p m;rw[hp] at e;cases e
 have hf0:∀ {H1:Hp},Same H1 H->H1 p=none:=fun {H1} q=>by
  cases e:H1 p with
  |none=>rfl
  |some o=>have:=q p o e;rw[hp] at this;cases this
 refine ⟨Hf,(p::fp1)++fp2,.cons (.lst bc (R.keep (Same.refl _) fun a o _ e=>s a o e)) (O'.mono (Same.refl _) s),?_,?_,F'.fh.trans s,F'.zh.trans s,F'.sf,F'.new⟩
 ·rw[List.cons_append];exact List.nodup_cons.mpr ⟨hnp,F'.nd⟩
 ·intro a m
  rw[List.cons_append] at m;rcases List.mem_cons.mp m with e | m
  ·subst e;exact ⟨hf0 F'.fh,hf0 F'.zh⟩
  ·exact F'.own a m
theorem SR.frozen{us:List V}{es:List D}(S:SR Hs H0 H (hv us++vs) (hd es++ds))(hl:us.length=es.length)(hb:∀ e∈es,e.tag≠.b) :
    ∃ Hf fp,Own Hf H fp vs ds/\Fine Hs H0 Hf H fp/\Reps Hf us (D.fzs es):=by
 obtain ⟨Hf,fp,O,F⟩:=S;obtain ⟨fp1,fp2,R,O',pm⟩:=O.takeAll hl hb;have F':=F.perm pm.symm;exact ⟨mix Hf H fp1,fp2,O'.mono (cE F'.fh) (Same.refl _),F'.froz,R.froz F'.fh fun a m=>m⟩
theorem Fine.fresh(F:Fine Hs H0 Hf H fp){p:Addr}(hp:H p=none):Hf p=none/\H0 p=none:=by
 constructor
 ·cases e:Hf p with
  |none=>rfl
  |some o=>have:=F.fh p o e;rw[hp] at this;cases this
 ·cases e:H0 p with
  |none=>rfl
  |some o=>have:=F.zh p o e;rw[hp] at this;cases this
theorem SR.laidF{o:HO}(O:Own Hf H fp vs ds)(F:Fine Hs H0 Hf H fp){p:Addr}(hp:H p=none)(r:Rep (upd Hf p o) v d)(t:d.tag=.f) :
    SR Hs H0 (upd H p o) (some v::vs) (some d::ds):=by
 obtain ⟨hf,h0⟩:=F.fresh hp;have s:Same H (upd H p o):=fun b o e=>by rw[aD (aY e hp)];exact e
 have sf:Same Hf (upd Hf p o):=fun b o e=>by rw[aD (aY e hf)];exact e
 refine ⟨upd Hf p o,[]++fp,.cons (.fz r t) (O.mono sf s),F.nd,fun a m=>?_,fun b u e=>?_,F.zh.trans s,F.sf.trans sf,fun a u e=>?_⟩
 ·have hne:a≠p:=fun z=>by subst z;obtain ⟨o,e⟩:=O.there a m;rw[hp] at e;cases e
  rw[aD hne];exact F.own a m
 ·by_cases hb:b=p
  ·subst hb;rw[bc] at e ⊢;exact e
  ·rw[aD hb] at e ⊢;exact F.fh b u e
 ·by_cases hb:a=p
  ·subst hb;exact .inr h0
  ·rw[aD hb] at e;exact F.new a u e
theorem SR.mkTup{us:List V}{es:List D}(S:SR Hs H0 H (hv us++vs) (hd es++ds))(hl:us.length=es.length)(hb:∀ e∈es,e.tag≠.b){p:Addr}(hp:H p=none) :
    SR Hs H0 (upd H p (.tup us)) (some (.ref p)::vs) (some (.tup (D.fzs es))::ds):=by
 obtain ⟨Hf,fp,O,F,R⟩:=S.frozen hl hb;have sf:Same Hf (upd Hf p (.tup us)):=fun b o e=>by rw[aD (aY e (F.fresh hp).1)];exact e
 exact SR.laidF O F hp (.tup bc (R.mono sf)) rfl
def D.its:D->Option (List D)
 | .lst .b xs=>if xs.all (fun x=>x.tag == .f) then some xs else none
 | .lst .f xs=>some (xs.map D.asF)
 | .lst .o xs=>some (D.fzs xs)
 | .tup xs=>some (xs.map D.asF)
 |_=>none
theorem Reps.asF{H:Hp}:∀ {us es},Reps H us es->Reps H us (es.map D.asF):=by
 intro _ _ hc
 cases hc with
 |nil=>
  exact .nil
 |cons h r=>
  exact .cons h.asF (Reps.asF r)
theorem RepVs.frozen{Hf H:Hp}:∀ {us es},RepVs Hf H us es->(∀ e∈es,e.tag=.f)->Reps Hf us es:=by
 intro _ _ hc t
 cases hc with
 |nil=>
  exact .nil
 |cons h r=>
  exact .cons (by
        cases h with
        |fz h _=>exact h
        |lst z _ _=>exact absurd (t _ List.mem_cons_self) z
        |dic z _ _=>exact absurd (t _ List.mem_cons_self) z
        |ins z _ _=>exact absurd (t _ List.mem_cons_self) z
        |slf _ _=>exact absurd (t _ List.mem_cons_self) (fun z=>nomatch z)) (RepVs.frozen r fun e m=>t e (List.mem_cons_of_mem _ m))
theorem D.its_tag{d:D}{ys:List D}(h:d.its=some ys):∀ e∈ys,e.tag=.f:=by
 cases d with
 |lst t xs=>
  cases t with
  |f=>simp[D.its] at h;subst h;intro e m;obtain ⟨x,_,rfl⟩:=List.mem_map.mp m;exact x.asF_tag
  |o=>simp[D.its] at h;subst h;exact fX xs
  |b=>
   simp only[D.its] at h;split at h
   ·cases h
    rename_i hall;intro e m;simpa using List.all_eq_true.mp hall e m
   ·cases h
 |tup xs=>simp[D.its] at h;subst h;intro e m;obtain ⟨x,_,rfl⟩:=List.mem_map.mp m;exact x.asF_tag
 |_=>simp[D.its] at h
def D.isL:D->Bool
 | .lst _ _=>true
 |_=>false
theorem Own.items(O:Own Hf H fp (some v::vs) (some d::ds))(F:Fine Hs H0 Hf H fp){ys:List D}(hy:d.its=some ys) :
    ∃ a us,v=.ref a/\(H a=some (if d.isL then .lst us else .tup us))/\∃ Hg fq,Own Hg H fq vs ds/\Fine Hs H0 Hg H fq/\Same Hf Hg/\Reps Hg us ys:=by
 cases d with
 |lst t xs=>
  cases t with
  |f=>
   simp[D.its] at hy;subst hy
   cases O with
   |cons h r=>
    cases h with
    |fz h _=>cases h with | lst h q=>exact ⟨_,_,rfl,F.fh _ _ h,Hf,_,r,F.subl (List.sublist_append_right _ _),Same.refl _,q.asF⟩
   |brw z h r=>cases z
  |o=>
   simp[D.its] at hy;subst hy
   cases O with
   |cons h r=>
    cases h with
    |fz h z=>cases z
    |lst h q=>
     rename_i a xs' fp1;refine ⟨_,_,rfl,h,mix Hf H (a::fp1),_,r.mono (cE F.fh) (Same.refl _),F.froz,cE F.fh,q.froz F.fh fun b m=>List.mem_cons_of_mem _ m⟩
   |brw z h r=>cases z
  |b=>
   simp only[D.its] at hy;split at hy
   ·cases hy
    rename_i hall
    cases O with
    |cons h r=>
     cases h with
     |fz h z=>cases z
    |brw z h r=>
     cases h with
     |fz h z=>cases z
     |lst z h q=>exact ⟨_,_,rfl,h,Hf,_,r,F,Same.refl _,q.frozen fun e m=>by simpa using List.all_eq_true.mp hall e m⟩
   ·cases hy
 |tup xs=>
  simp[D.its] at hy;subst hy
  cases O with
  |cons h r=>
   cases h with
   |fz h _=>cases h with | tup h q=>exact ⟨_,_,rfl,F.fh _ _ h,Hf,_,r,F.subl (List.sublist_append_right _ _),Same.refl _,q.asF⟩
  |brw z h r=>cases z
 |_=>simp[D.its] at hy
theorem SR.items(S:SR Hs H0 H (some v::vs) (some d::ds)){ys:List D}(hy:d.its=some ys) :
    ∃ a us,v=.ref a/\(H a=some (if d.isL then .lst us else .tup us))/\∃ Hf fp,Own Hf H fp vs ds/\Fine Hs H0 Hf H fp/\Reps Hf us ys:=by
 obtain ⟨Hf,fp,O,F⟩:=S;obtain ⟨a,us,e1,e2,Hg,fq,O',F',_,R⟩:=O.items F hy;exact ⟨a,us,e1,e2,Hg,fq,O',F',R⟩
theorem Own.itemsC(O:Own Hf H fp (some v::vs) (some d::ds))(F:Fine Hs H0 Hf H fp){ys:List D}(hy:d.its=some ys)(tb:d.tag≠.b) :
    ∃ a us,v=.ref a/\∃ Hg fq,Own Hg H fq vs ds/\Fine Hs H0 Hg H fq/\Same Hf Hg/\Hg a=some (if d.isL then .lst us else .tup us)/\Reps Hg us ys:=by
 cases d with
 |lst t xs=>
  cases t with
  |f=>
   simp[D.its] at hy;subst hy
   cases O with
   |cons h r=>
    cases h with
    |fz h _=>cases h with | lst h q=>exact ⟨_,_,rfl,Hf,_,r,F.subl (List.sublist_append_right _ _),Same.refl _,h,q.asF⟩
   |brw z h r=>cases z
  |o=>
   simp[D.its] at hy;subst hy
   cases O with
   |cons h r=>
    cases h with
    |fz h z=>cases z
    |lst h q=>
     rename_i a xs' fp1;exact ⟨_,_,rfl,mix Hf H (a::fp1),_,r.mono (cE F.fh) (Same.refl _),F.froz,cE F.fh,by rw[jk List.mem_cons_self];exact h,q.froz F.fh fun b m=>List.mem_cons_of_mem _ m⟩
   |brw z h r=>cases z
  |b=>exact absurd rfl tb
 |tup xs=>
  simp[D.its] at hy;subst hy
  cases O with
  |cons h r=>
   cases h with
   |fz h _=>cases h with | tup h q=>exact ⟨_,_,rfl,Hf,_,r,F.subl (List.sublist_append_right _ _),Same.refl _,h,q.asF⟩
  |brw z h r=>cases z
 |_=>simp[D.its] at hy
def D.el:D->Nat->Option D
 | .lst .f xs,i=>xs[i]?.map D.asF
 | .lst .o xs,i=>xs[i]?
 | .lst .b xs,i=>xs[i]?.map D.rd
 | .tup xs,i=>xs[i]?.map D.asF
 |_,_=>none
theorem RepOs.item{Hf H:Hp}:∀ {fp us es} {i:Nat} {e},RepOs Hf H fp us es->es[i]?=some e->∃ u fp1,us[i]?=some u/\RepO Hf H fp1 u e/\fp1.Sublist fp:=by
 intro _ _ _ ic e hc q
 cases hc with
 |nil=>
  simp at q
 |cons h r=>
  cases ic with
  |zero=>
   simp at q;subst q;exact ⟨_,_,rfl,h,List.sublist_append_left _ _⟩
  |succ i=>
   obtain ⟨u,fp1,a,b,c⟩:=RepOs.item (i:=i) r (by simpa using q);exact ⟨u,fp1,by simpa using a,b,c.trans (List.sublist_append_right _ _)⟩
theorem SR.elem(S:SR Hs H0 H (some v::vs) (some d::ds)){i:Nat}{e:D}(he:d.el i=some e) :
    ∃ a us u,v=.ref a/\(H a=some (if d.isL then .lst us else .tup us))/\us[i]?=some u/\SR Hs H0 H (some u::vs) (some e::ds):=by
 obtain ⟨Hf,fp,O,F⟩:=S
 cases d with
 |lst t xs=>
  cases t with
  |f=>
   simp[D.el] at he;obtain ⟨x,hx,rfl⟩:=he
   cases O with
   |cons h r=>
    cases h with
    |fz h _=>
     cases h with
     |lst h q=>
      obtain ⟨u,hu,ru⟩:=q.get hx;exact ⟨_,_,u,rfl,F.fh _ _ h,hu,Hf,_,.cons (.fz ru.asF x.asF_tag) r,F.subl (by simp)⟩
   |brw z h r=>cases z
  |o=>
   simp[D.el] at he
   cases O with
   |cons h r=>
    cases h with
    |fz h z=>cases z
    |lst h q=>
     obtain ⟨u,fp1,hu,ru,sl⟩:=q.item he;exact ⟨_,_,u,rfl,h,hu,Hf,_,.cons ru r,F.subl (List.Sublist.append_right (sl.trans (List.sublist_cons_self _ _)) _)⟩
   |brw z h r=>cases z
  |b=>
   simp[D.el] at he;obtain ⟨x,hx,rfl⟩:=he
   cases O with
   |cons h r=>
    cases h with
    |fz h z=>cases z
   |brw z h r=>
    cases h with
    |fz h z=>cases z
    |lst z h q=>
     obtain ⟨u,hu,ru⟩:=q.get hx;refine ⟨_,_,u,rfl,h,hu,Hf,?_⟩
     cases ru with
     |fz ru t=>
      have:x.rd=x:=by cases x<;>first | rfl | (cases t;rfl) | cases t
      rw[this];exact ⟨_,.cons (.fz ru t) r,F⟩
     |lst t h' r'=>
      rename_i tt;refine ⟨_,.brw ?_ ?_ r,F⟩
      ·cases tt<;>first | rfl | exact absurd rfl t
      ·cases tt<;>first | exact absurd rfl t | exact .lst (by decide) h' r'
     |dic t h' r'=>
      rename_i tt;refine ⟨_,.brw ?_ ?_ r,F⟩
      ·cases tt<;>first | rfl | exact absurd rfl t
      ·cases tt<;>first | exact absurd rfl t | exact .dic (by decide) h' r'
     |ins t h' r'=>
      rename_i tt;refine ⟨_,.brw ?_ ?_ r,F⟩
      ·cases tt<;>first | rfl | exact absurd rfl t
      ·cases tt<;>first | exact absurd rfl t | exact .ins (by decide) h' r'
     |slf h' r'=>exact ⟨_,.brw rfl (.ins (by decide) h' r') r,F⟩
 |tup xs=>
  simp[D.el] at he;obtain ⟨x,hx,rfl⟩:=he
  cases O with
  |cons h r=>
   cases h with
   |fz h _=>
    cases h with
    |tup h q=>
     obtain ⟨u,hu,ru⟩:=q.get hx;exact ⟨_,_,u,rfl,F.fh _ _ h,hu,Hf,_,.cons (.fz ru.asF x.asF_tag) r,F.subl (by simp)⟩
  |brw z h r=>cases z
 |_=>simp[D.el] at he
theorem SR.told{H':Hp}(O:Own Hf H fp vs ds)(F:Fine Hs H0 Hf H fp)(R:SR Hf H H' [some v] [some d])(t:d.tag≠.b):SR Hs H0 H' (some v::vs) (some d::ds):=by
 obtain ⟨Hg,fq,O',G⟩:=R
 cases O' with
 |cons h r=>
  cases r
  rename_i fq;rw[List.append_nil] at G;have sH:=G.zh;refine ⟨Hg,fq++fp,.cons h (O.mono G.sf sH),?_,fun a m=>?_,G.fh,F.zh.trans sH,F.sf.trans G.sf,fun a o e=>?_⟩
  ·refine List.nodup_append.mpr ⟨G.nd,F.nd,fun a m b n z=>?_⟩
   subst z;obtain ⟨o,e⟩:=O.there a n;rw[(G.own a m).2] at e;cases e
  ·rcases List.mem_append.mp m with m | m
   ·refine ⟨(G.own a m).1,?_⟩
    cases e:H0 a with
    |none=>rfl
    |some o=>have:=F.zh a o e;rw[(G.own a m).2] at this;cases this
   ·refine ⟨?_,(F.own a m).2⟩
    cases e:Hg a with
    |none=>rfl
    |some o=>
     rcases G.new a o e with ⟨o',z⟩ | z
     ·rw[(F.own a m).1] at z;cases z
     ·obtain ⟨o',y⟩:=O.there a m;rw[z] at y;cases y
  ·rcases G.new a o e with ⟨o',z⟩ | z
   ·exact F.new a o' z
   ·refine .inr ?_
    cases q:H0 a with
    |none=>rfl
    |some u=>have:=F.zh a u q;rw[z] at this;cases this
 |brw z h r=>exact absurd z t
end
theorem RepOs.pick{Hf H:Hp}:∀ {fp us es} {k:Nat} {e},RepOs Hf H fp us es->es[k]?=some e →
    ∃ u f1 f2,us[k]?=some u/\RepO Hf H f1 u e/\RepOs Hf H f2 (us.eraseIdx k) (es.eraseIdx k)/\fp.Perm (f1++f2):=by
 intro _ _ _ ic e hc q
 cases hc with
 |nil=>
  simp at q
 | @cons f0 _ _ _ _ _ h r=>
  cases ic with
  |zero=>
   simp at q;subst q;exact ⟨_,_,_,rfl,h,r,.refl _⟩
  |succ k=>
   obtain ⟨u,f1,f2,a,b,c,p⟩:=RepOs.pick (k:=k) r (by simpa using q);refine ⟨u,f1,f0++f2,by simpa using a,b,.cons h c,(List.Perm.append_left f0 p).trans ?_⟩;rw[<- List.append_assoc,<- List.append_assoc];exact List.Perm.append_right _ List.perm_append_comm
theorem Own.fill{Hf H:Hp}{fp1:List Addr}{v:V}{d:D}(q:RepO Hf H fp1 v d):∀ {fp vs ds} {i:Nat},Own Hf H fp vs ds->ds[i]?=some none →
    ∃ fp',Own Hf H fp' (vs.set i (some v)) (ds.set i (some d))/\fp'.Perm (fp1++fp):=by
 intro _ _ _ ic hc h
 cases hc with
 |nil=>
  simp at h
 |skip r=>
  cases ic with
  |zero=>
   exact ⟨_,.cons q r,.refl _⟩
  |succ i=>
   obtain ⟨fp',o,p⟩:=Own.fill (i:=i) q r (by simpa using h);exact ⟨fp',.skip o,p⟩
 | @cons f1 _ _ _ _ _ q0 r=>
  cases ic with
  |zero=>
   simp at h
  |succ i=>
   obtain ⟨fp',o,p⟩:=Own.fill (i:=i) q r (by simpa using h);refine ⟨f1++fp',.cons q0 o,?_⟩;refine (List.Perm.append_left f1 p).trans ?_;rw[<- List.append_assoc,<- List.append_assoc];exact List.Perm.append_right _ List.perm_append_comm
 |brw t q0 r=>
  cases ic with
  |zero=>
   simp at h
  |succ i=>
   obtain ⟨fp',o,p⟩:=Own.fill (i:=i) q r (by simpa using h);exact ⟨fp',.brw t q0 o,p⟩
section
variable {Hs H0 H Hf:Hp}{vs:List (Option V)}{ds:List (Option D)}{v:V}{d:D}{fp:List Addr}
theorem noB.set(n:noB ds){i:Nat}{x:Option D}(h:∀ d,x=some d->d.tag≠.b):noB (ds.set i x):=fun d m=>by
 rcases List.mem_or_eq_of_mem_set m with m | e
 ·exact n d m
 ·exact h d e.symm
theorem Own.write(O:Own Hf H fp vs ds)(n:noB ds)(nd:fp.Nodup){i:Nat}(e:ds[i]?=some (some d))(t:d.tag=.o) :
    ∃ p fpx fpr,vs[i]?=some (some (.ref p))/\RepO Hf H (p::fpx) (.ref p) d/\fp.Perm (p::fpx++fpr) ∧
     ∀ H' d' fq,(∀ a o,a∈fpr->H a=some o->H' a=some o)->RepO Hf H' fq (.ref p) d'->∃ fp',Own Hf H' fp' vs (ds.set i (some d'))/\fp'.Perm (fq++fpr):=by
 obtain ⟨v,fp1,fp2,e',h,O',pm⟩:=O.take e (by rw[t];decide);have hi:i<ds.length:=(List.getElem?_eq_some_iff.mp e).1;have hvi:vs.set i (some v)=vs:=by
  obtain ⟨a,b⟩:=List.getElem?_eq_some_iff.mp e';rw[<- b];exact List.set_getElem_self a
 have fin:∀ H' d' fq,(∀ a o,a∈fp2->H a=some o->H' a=some o)->RepO Hf H' fq v d'->∃ fp',Own Hf H' fp' vs (ds.set i (some d'))/\fp'.Perm (fq++fp2):=fun H' d' fq kp h'=>by
  have O1:Own Hf H' fp2 vs (ds.set i none):=O'.keep (Same.refl _) (n.set fun _ z=>nomatch z) kp;obtain ⟨fp',O2,p2⟩:=O1.fill h' (i:=i) (by simp[hi]);rw[hvi,List.set_set] at O2;exact ⟨fp',O2,p2⟩
 cases h with
 |fz h z=>rw[t] at z;cases z
 |lst h r=>exact ⟨_,_,_,e',.lst h r,pm,fin⟩
 |dic h r=>exact ⟨_,_,_,e',.dic h r,pm,fin⟩
 |slf h q r=>exact ⟨_,[_],_,e',.slf h q r,pm,fin⟩
theorem gm{H:Hp}{p:Addr}{o:HO}{a:Addr}{u:HO}(h:a≠p)(e:H a=some u):upd H p o a=some u:=by rw[aD h];exact e
theorem Fine.wrote(F:Fine Hs H0 Hf H fp){p:Addr}(hp:p∈fp){o:HO}{fq:List Addr}(nd:fq.Nodup)(own:∀ a∈fq,Hf a=none/\H0 a=none):Fine Hs H0 Hf (upd H p o) fq:=by
 have ne:∀ {H1:Hp},H1 p=none->Same H1 H->Same H1 (upd H p o):=fun {H1} hn s a u e=>by
  refine gm (fun z=>?_) (s a u e);subst z;rw[hn] at e;cases e
 exact ⟨nd,own,ne (F.own p hp).1 F.fh,ne (F.own p hp).2 F.zh,F.sf,F.new⟩
theorem SR.append(S:SR Hs H0 H (some v::vs) (some d::ds))(t:d.tag≠.b)(n:noB ds){i:Nat}{xs:List D}(e:ds[i]?=some (some (.lst .o xs))) :
    ∃ p us,vs[i]?=some (some (.ref p))/\H p=some (.lst us)/\us.length=xs.length/\SR Hs H0 (upd H p (.lst (us++[v]))) vs (ds.set i (some (.lst .o (xs++[d])))):=by
 obtain ⟨Hf,fp,O,F⟩:=S
 cases O with
 |brw z h r=>exact absurd z t
 |cons h r=>
  rename_i f0 f1;obtain ⟨p,fpx,fpr,e',q,pm,w⟩:=r.write n (List.nodup_append.mp F.nd).2.1 e rfl
  cases q with
  |lst q R=>
   rename_i us;have pm':(f0++f1).Perm (p::(fpx++f0)++fpr):=by
    refine (List.Perm.append_left f0 pm).trans ?_;rw[List.cons_append,List.cons_append];refine List.perm_middle.trans (List.Perm.cons p ?_);rw[<- List.append_assoc];exact List.Perm.append_right _ List.perm_append_comm
   have F':=F.perm pm'.symm;have hpn:p∉(fpx++f0)++fpr:=by
    have:=F'.nd;rw[List.cons_append] at this;exact (List.nodup_cons.mp this).1
   have hp:p∈f0++f1:=pm'.symm.subset (by simp);have kp:∀ (l:List Addr),(∀ a∈l,a∈(fpx++f0)++fpr)->∀ a o,a∈l->H a=some o->upd H p (.lst (us++[v])) a=some o:=fun l hl a o m z=>
    gm (fun y=>by subst y;exact hpn (hl a m)) z
   have R':RepOs Hf (upd H p (.lst (us++[v]))) (fpx++f0) (us++[v]) (xs++[d]):=by
    have r1:RepOs Hf (upd H p (.lst (us++[v]))) (f0++[]) [v] [d]:=.cons (h.keep (Same.refl _) (kp f0 fun a m=>by simp[m])) .nil;rw[List.append_nil] at r1;exact (R.keep (Same.refl _) (kp fpx fun a m=>by simp[m])).append r1
   obtain ⟨fp',O',p'⟩:=w (upd H p (.lst (us++[v]))) (.lst .o (xs++[d])) (p::(fpx++f0)) (kp fpr fun a m=>by simp[m]) (.lst bc R');refine ⟨p,us,e',q,R.length,Hf,fp',O',F.wrote hp ?_ ?_⟩
   ·exact (p'.nodup_iff).mpr F'.nd
   ·intro a m
    exact F'.own a (p'.subset m)
theorem SR.popAt(S:SR Hs H0 H vs ds)(n:noB ds){i k:Nat}{xs:List D}{x:D}(e:ds[i]?=some (some (.lst .o xs)))(ex:xs[k]?=some x)(tx:x.tag≠.b) :
    ∃ p us u,vs[i]?=some (some (.ref p))/\H p=some (.lst us)/\us.length=xs.length/\us[k]?=some u ∧
     SR Hs H0 (upd H p (.lst (us.eraseIdx k))) (some u::vs) (some x::ds.set i (some (.lst .o (xs.eraseIdx k)))):=by
 obtain ⟨Hf,fp,O,F⟩:=S;obtain ⟨p,fpx,fpr,e',q,pm,w⟩:=O.write n F.nd e rfl
 cases q with
 |lst q R=>
  rename_i us;obtain ⟨u,f1,f2,eu,hu,R2,p2⟩:=R.pick ex;have pm':fp.Perm (f1++(p::f2++fpr)):=by
   refine pm.trans ?_;rw[List.cons_append,List.cons_append];refine List.Perm.trans (List.Perm.cons p ((List.Perm.append_right fpr p2).trans (by rw[List.append_assoc]))) List.perm_middle.symm
  have F':=F.perm pm'.symm;have hp:p∈fp:=pm'.symm.subset (by simp);have nd':=F'.nd;have hpn:p∉f1++(f2++fpr):=by
   have:(p::(f1++(f2++fpr))).Nodup:=(List.perm_middle.nodup_iff).mp (by simpa using nd');exact (List.nodup_cons.mp this).1
  have kp:∀ (l:List Addr),(∀ a∈l,a∈f1++(f2++fpr))->∀ a o,a∈l->H a=some o->upd H p (.lst (us.eraseIdx k)) a=some o:=fun l hl a o m z=>
   gm (fun y=>by subst y;exact hpn (hl a m)) z
  obtain ⟨fp',O',p'⟩:=w (upd H p (.lst (us.eraseIdx k))) (.lst .o (xs.eraseIdx k)) (p::f2) (kp fpr fun a m=>by simp[m]) (.lst bc (R2.keep (Same.refl _) (kp f2 fun a m=>by simp[m])));refine ⟨p,us,u,e',q,R.length,eu,Hf,f1++fp',.cons (hu.keep (Same.refl _) (kp f1 fun a m=>by simp[m])) O',F.wrote hp ?_ ?_⟩
  ·exact ((List.Perm.append_left f1 p').nodup_iff).mpr nd'
  ·intro a m
   exact F'.own a ((List.Perm.append_left f1 p').subset m)
end
end Mi
namespace Mi
open PySem PySem.Spec L2
open PyProof.Rows hiding St
inductive Res (α:Type) where
 |ok (a:α) | exc (C:Value) | bad
abbrev ac:=List (Option D)
namespace Res
def bind{α β:Type}:Res α->(α->Res β)->Res β
 | .ok a,f=>f a
 | .exc C,_=>.exc C
 | .bad,_=>.bad
instance:Monad Res where
 pure:=.ok
 bind:=Res.bind
end Res
def Post{α:Type}(Ex:Value->Prop)(r:Res α)(k:α->Prop):Prop:=
 match r with
 | .ok a=>k a
 | .exc C=>Ex C
 | .bad=>False
theorem Post.bind{α β:Type}{Ex:Value->Prop}{r:Res α}{f:α->Res β}{k:β->Prop}(h:Post Ex (r >>= f) k):Post Ex r fun a=>Post Ex (f a) k:=by
 cases r with
 |ok a=>exact h
 |exc C=>exact h
 |bad=>exact h
theorem Post.imp{α:Type}{Ex:Value->Prop}{r:Res α}{k k':α->Prop}(h:Post Ex r k)(f:∀ a,r=.ok a->k a->k' a):Post Ex r k':=by
 cases r with
 |ok a=>exact f a rfl h
 |exc C=>exact h
 |bad=>exact h
def tvs(ts:List (V × D)):List (Option V):=ts.map fun t=>some t.1
def tds(ts:List (V × D)):List (Option D):=ts.map fun t=>some t.2
theorem fY(ts:List (V × D)):(tvs ts).length=ts.length:=by simp[tvs]
theorem fZ(ts:List (V × D)):(tds ts).length=ts.length:=by simp[tds]
def SX(Hs H0 H:Hp)(ts:List (V × D))(σ:St)(ρ:ac):Prop:=SR Hs H0 H (tvs ts++σ) (tds ts++ρ)
def TEF(H0:Hp)(Ex:Value->Prop)(f:ac->Res D):TE:=fun σ H Q=>∃ Hs ρ ts,SX Hs H0 H ts σ ρ ∧
 Post Ex (f ρ) fun d=>∀ v H',SX Hs H0 H' ((v,d)::ts) σ ρ->Q v H'
def TTF(H0:Hp)(Ex:Value->Prop)(f:ac->Res Bool):TT:=fun σ H Q=>∃ Hs ρ ts,SX Hs H0 H ts σ ρ ∧
 Post Ex (f ρ) fun b=>∀ H',SX Hs H0 H' ts σ ρ->Q b H'
def held(us:List V)(es:List D)(ts:List (V × D)):List (V × D):=(us.zip es).reverse++ts
def TAF(H0:Hp)(Ex:Value->Prop)(f:ac->Res (List D)):TA:=fun σ H Q=>∃ Hs ρ ts,SX Hs H0 H ts σ ρ ∧
 Post Ex (f ρ) fun es=>∀ us H',us.length=es.length->SX Hs H0 H' (held us es ts) σ ρ->Q us H'
structure FE (X:Cx) (H0:Hp) (Ex:Value->Prop) (e:Expr) (f:ac->Res D):Prop where
 go:PE X e (TEF H0 Ex f)
structure FT (X:Cx) (H0:Hp) (Ex:Value->Prop) (e:Expr) (f:ac->Res Bool):Prop where
 go:PT X e (TTF H0 Ex f)
structure FA (X:Cx) (H0:Hp) (Ex:Value->Prop) (es:List Expr) (f:ac->Res (List D)):Prop where
 go:PA X es (TAF H0 Ex f)
structure PV (X:Cx) (e:Expr) (i:Nat):Prop where
 go:PE X e (su i)
theorem mv{X:Cx}(i:Nat){x:Str}{pos:Pos}(hN:X.N[i]?=some x:=by rfl)(hv:Vis X.env.scope x:=by first | exact Or.inl rfl | exact Or.inr (Or.inl rfl) | exact Or.inr (Or.inr rfl))(hd:(x == ("__debug__" : Str))=false:=by decide)
    (hcd:(x == ("__classdict__" : Str))=false:=by decide):PV X (.Name x pos) i:=⟨sv hN hv hd hcd⟩
theorem PE.pre{X:Cx}{e:Expr}{t t':TE}(h:PE X e t)(i:∀ σ H Q,t' σ H Q->t σ H Q):PE X e t':=fun pins s σ H Q I q=>h pins s σ H Q I (i σ H Q q)
theorem PT.pre{X:Cx}{e:Expr}{t t':TT}(h:PT X e t)(i:∀ σ H Q,t' σ H Q->t σ H Q):PT X e t':=fun pins s σ H Q I q=>h pins s σ H Q I (i σ H Q q)
theorem PA.pre{X:Cx}{e:List Expr}{t t':TA}(h:PA X e t)(i:∀ σ H Q,t' σ H Q->t σ H Q):PA X e t':=fun pos pins s σ H Q I q=>h pos pins s σ H Q I (i σ H Q q)
theorem PS.pre{X:Cx}{e:Stmt}{t t':TS}(h:PS X e t)(i:∀ D σ H,t' D σ H->t D σ H):PS X e t':=fun pins s σ H D I q=>h pins s σ H D I (i D σ H q)
theorem PSs.pre{X:Cx}{e:List Stmt}{t t':TS}(h:PSs X e t)(i:∀ D σ H,t' D σ H->t D σ H):PSs X e t':=fun pins s σ H D I q=>h pins s σ H D I (i D σ H q)
section
variable {X:Cx}{Ex:Value->Prop}{H0:Hp}{a b c e:Expr}{f g:ac->Res D}{pos:Pos}
def ad(i:Nat):ac->Res D:=fun ρ=>match ρ[i]? with
 |some (some d)=>.ok d.rd
 |_=>.bad
theorem gn{α:Type}(l r:List α)(i:Nat):(l++r)[l.length+i]?=r[i]?:=by
 rw[List.getElem?_append_right (by omega)];congr 1;omega
theorem af(i:Nat){x:Str}(h:PV X (.Name x pos) i):FE X H0 Ex (.Name x pos) (ad i):=by
 refine ⟨PE.pre h.go ?_⟩;rintro σ H Q ⟨Hs,ρ,ts,S,p⟩;unfold ad at p;split at p
 ·rename_i d hd
  have e:(tds ts++ρ)[(tds ts).length+i]?=some (some d):=by rw[gn];exact hd
  obtain ⟨v,hv,S'⟩:=SR.get S e;rw[fZ,<- fY,gn] at hv;exact ⟨v,hv,p v H S'⟩
 ·exact p.elim
def fC(d:D):ac->Res D:=fun _=>.ok d
theorem ai{i j}:FE X H0 Ex (.Constant (.int i) j pos) (fC (.int i)):=by
 refine ⟨PE.pre sw ?_⟩;rintro σ H Q ⟨Hs,ρ,ts,S,p⟩;exact p _ H S.int
theorem mT{i j}:FE X H0 Ex (.Constant (.bool i) j pos) (fC (.bl i)):=by
 refine ⟨PE.pre uI ?_⟩;rintro σ H Q ⟨Hs,ρ,ts,S,p⟩;exact p _ H S.bl
theorem tG{j}:FE X H0 Ex (.Constant .none j pos) (fC .non):=by
 refine ⟨PE.pre sx ?_⟩;rintro σ H Q ⟨Hs,ρ,ts,S,p⟩;exact p _ H S.non
theorem f6{x j}:FE X H0 Ex (.Constant (.str x) j pos) (fC (.str x)):=by
 refine ⟨PE.pre k8 ?_⟩;rintro σ H Q ⟨Hs,ρ,ts,S,p⟩;exact p _ H S.str
theorem jY{x:Str}{i:Int}{u:Value}(hg:Gl X x)(hm:X.mg x=some u)(r:RelV (.int i) u)(hd:(x == ("__debug__" : Str))=false:=by decide):FE X H0 Ex (.Name x pos) (fC (.int i)):=by
 refine ⟨PE.pre (eQ hg hm r hd) ?_⟩;rintro σ H Q ⟨Hs,ρ,ts,S,p⟩;exact p _ H S.int
structure FOp (X:Cx) (f:Value->Value->Sem Value) (g:D->D->Res D):Prop where
 go:OpR X f fun x y H Q=>∃ Hs H0 vs ds d1 d2 d,
 SR Hs H0 H (some y::some x::vs) (some d2::some d1::ds)/\g d1 d2=.ok d/\∀ v H',SR Hs H0 H' (some v::vs) (some d::ds)->Q v H'
theorem OpR.pre{f:Value->Value->Sem Value}{r r':R2}(h:OpR X f r)(i:∀ x y H Q,r' x y H Q->r x y H Q):OpR X f r':=fun pins s σ H x y v u Q I a b q=>h pins s σ H x y v u Q I a b (i x y H Q q)
def noX{α:Type}:Res α->Bool
 | .exc _=>false
 |_=>true
def f2(g:D->D->Res D)(fa fb:ac->Res D):ac->Res D:=fun ρ=>fa ρ >>= fun x=>fb ρ >>= fun y=>g x y
theorem kY{H0:Hp}{g:D->D->Res D}(hg:∀ x y,noX (g x y)=true){op:Value->Value->Sem Value}{σ:St}{H:Hp}{Q:VK}{fa fb:ac->Res D}(h:TEF H0 Ex (f2 g fa fb) σ H Q) :
    tOp (fun x y H Q=>∃ Hs H0 vs ds d1 d2 d,SR Hs H0 H (some y::some x::vs) (some d2::some d1::ds)/\g d1 d2=.ok d/\∀ v H',SR Hs H0 H' (some v::vs) (some d::ds)->Q v H') (TEF H0 Ex fa) (TEF H0 Ex fb) σ H Q:=by
 obtain ⟨Hs,ρ,ts,S,p⟩:=h;refine ⟨Hs,ρ,ts,S,(Post.bind p).imp fun d1 _ p1 v1 H1 S1=>⟨Hs,ρ,(v1,d1)::ts,S1,(Post.bind p1).imp fun d2 _ p2 v2 H2 S2=>?_⟩⟩;have hn:=hg d1 d2
 cases e:g d1 d2 with
 |ok d=>rw[e] at p2;exact ⟨Hs,H0,_,_,d1,d2,d,S2,e,p2⟩
 |exc C=>rw[e] at hn;cases hn
 |bad=>rw[e] at p2;exact p2.elim
theorem aH{op:Operator}{g:D->D->Res D}{fa fb:ac->Res D}(ho:FOp X (binaryOp op) g)(hg:∀ x y,noX (g x y)=true)(ha:FE X H0 Ex a fa)(hb:FE X H0 Ex b fb):FE X H0 Ex (.BinOp a op b pos) (f2 g fa fb):=
 ⟨PE.pre (uQ ho.go ha.go hb.go) fun _ _ _ h=>kY hg (op:=binaryOp op) h⟩
theorem tH{op:CmpOp}{g:D->D->Res D}{fa fb:ac->Res D}(ho:FOp X (compareOp op) g)(hg:∀ x y,noX (g x y)=true)(ha:FE X H0 Ex a fa)(hb:FE X H0 Ex b fb)(hm:behindInMarks op b=false):FE X H0 Ex (.Compare a [op] [b] pos) (f2 g fa fb):=
 ⟨PE.pre (qV ho.go ha.go hb.go hm) fun _ _ _ h=>kY hg (op:=compareOp op) h⟩
theorem SR.isInt{Hs H0 H:Hp}{vs:List (Option V)}{ds:List (Option D)}{v:V}{i:Int}(S:SR Hs H0 H (some v::vs) (some (.int i)::ds)):v=.int i:=by
 cases S.head;rfl
theorem SR.isBl{Hs H0 H:Hp}{vs:List (Option V)}{ds:List (Option D)}{v:V}{i:Bool}(S:SR Hs H0 H (some v::vs) (some (.bl i)::ds)):v=.bl i:=by
 cases S.head;rfl
theorem SR.isStr{Hs H0 H:Hp}{vs:List (Option V)}{ds:List (Option D)}{v:V}{i:Str}(S:SR Hs H0 H (some v::vs) (some (.str i)::ds)):v=.str i:=by
 cases S.head;rfl
def gI(C:Int->Int->Bool)(g:Int->Int->D):D->D->Res D:=fun x y=>match x,y with
 | .int i,.int j=>if C i j then .ok (g i j) else .bad
 |_,_=>.bad
theorem aP(C:Int->Int->Bool)(g:Int->Int->D):∀ x y,noX (gI C g x y)=true:=by
 intro x y;unfold gI;split
 ·split<;>rfl
 ·rfl
theorem jZ{f:Value->Value->Sem Value}{C:Int->Int->Prop}{C':Int->Int->Bool}{g:Int->Int->Int}(h:OpR X f (rI C fun i j=>.int (g i j)))(hc:∀ i j,C' i j=true->C i j):FOp X f (gI C' fun i j=>.int (g i j)):=by
 refine ⟨OpR.pre h ?_⟩;rintro x y H Q ⟨Hs,H0,vs,ds,d1,d2,d,S,e,k⟩;unfold gI at e;split at e
 ·rename_i i j
  split at e
  ·rename_i hcc
   cases e
   cases SR.isInt S
   cases SR.isInt S.drop
   exact ⟨i,j,rfl,rfl,hc i j hcc,k _ H S.drop.drop.int⟩
  ·cases e
 ·cases e
theorem pH{f:Value->Value->Sem Value}{g:Int->Int->Int}(h:OpR X f (rI0 fun i j=>.int (g i j))):FOp X f (gI (fun _ _=>true) fun i j=>.int (g i j)):=by
 refine ⟨OpR.pre h ?_⟩;rintro x y H Q ⟨Hs,H0,vs,ds,d1,d2,d,S,e,k⟩;unfold gI at e;split at e
 ·rename_i i j
  cases e
  cases SR.isInt S
  cases SR.isInt S.drop
  exact ⟨i,j,rfl,rfl,k _ H S.drop.drop.int⟩
 ·cases e
theorem lj{f:Value->Value->Sem Value}{g:Int->Int->Bool}(h:OpR X f (rI0 fun i j=>.bl (g i j))):FOp X f (gI (fun _ _=>true) fun i j=>.bl (g i j)):=by
 refine ⟨OpR.pre h ?_⟩;rintro x y H Q ⟨Hs,H0,vs,ds,d1,d2,d,S,e,k⟩;unfold gI at e;split at e
 ·rename_i i j
  cases e
  cases SR.isInt S
  cases SR.isInt S.drop
  exact ⟨i,j,rfl,rfl,k _ H S.drop.drop.bl⟩
 ·cases e
def de:=gI (fun _ _=>true) fun i j=>.int (i - j)
def ci:=gI (fun i j=>(decide (-(2 ^ 64)<i)&&decide (i<2 ^ 64))||(decide (-(2 ^ 64)<j)&&decide (j<2 ^ 64))) fun i j=>.int (i*j)
def jl:=gI (fun _ j=>decide (0<j)&&decide (j<1073741824)) fun i j=>.int (i / j)
def b7:=gI (fun _ j=>decide (0<j)) fun i j=>.int (i % j)
def dLt:=gI (fun _ _=>true) fun i j=>.bl (decide (i<j))
def dLe:=gI (fun _ _=>true) fun i j=>.bl (decide (i<=j))
def dGt:=gI (fun _ _=>true) fun i j=>.bl (decide (j<i))
def dGe:=gI (fun _ _=>true) fun i j=>.bl (decide (j<=i))
theorem gT:FOp X (binaryOp .Sub) de:=pH sP
theorem dw:FOp X (binaryOp .Mult) ci:=jZ sQ fun i j h=>by
 simp at h;exact h
theorem mj:FOp X (binaryOp .FloorDiv) jl:=jZ qT fun i j h=>by
 simp at h;exact h
theorem cR:FOp X (binaryOp .Mod) b7:=jZ sR fun i j h=>by
 simp at h;exact h
theorem mU:FOp X (compareOp .Lt) dLt:=lj fG
theorem u6:FOp X (compareOp .Gt) dGt:=lj uU
theorem SR.laidL{Hs H0 H Hf:Hp}{fp:List Addr}{vs:List (Option V)}{ds:List (Option D)}(O:Own Hf H fp vs ds)(F:Fine Hs H0 Hf H fp){us:List V}{es:List D}(R:Reps Hf us es)(ht:∀ e∈es,e.tag=.f){p:Addr}(hp:H p=none) :
    SR Hs H0 (upd H p (.lst us)) (some (.ref p)::vs) (some (.lst .o es)::ds):=by
 obtain ⟨hf,h0⟩:=F.fresh hp;have s:Same H (upd H p (.lst us)):=fun b o e=>by rw[aD (aY e hp)];exact e
 refine ⟨Hf,[p]++fp,.cons (.lst bc (RepOs.ofReps R ht)) (O.mono (Same.refl _) s),?_,?_,F.fh.trans s,F.zh.trans s,F.sf,F.new⟩
 ·refine List.nodup_cons.mpr ⟨fun m=>?_,F.nd⟩
  obtain ⟨o,e⟩:=O.there p m;rw[hp] at e;cases e
 ·intro a m
  rcases List.mem_cons.mp m with e | m
  ·subst e;exact ⟨hf,h0⟩
  ·exact F.own a m
def aX:D->D->Res D:=fun x y=>match x,y with
 | .int i,.int j=>.ok (.int (i+j))
 | .str i,.str j=>if i.length+j.length<=sizeLine then .ok (.str (i++j)) else .bad
 | .lst t xs,.lst u ys=>match D.its (.lst t xs),D.its (.lst u ys) with
  |some xs',some ys'=>if xs'.length+ys'.length<=sizeLine then .ok (.lst .o (xs'++ys')) else .bad
  |_,_=>.bad
 |_,_=>.bad
theorem aZ:∀ x y,noX (aX x y)=true:=by
 intro x y;unfold aX;split
 ·rfl
 ·split<;>rfl
 ·split
  ·split<;>rfl
  ·rfl
 ·rfl
theorem bG:FOp X (binaryOp .Add) aX:=by
 refine ⟨OpR.pre (OpR.or sO (OpR.or mL tz)) ?_⟩;rintro x y H Q ⟨Hs,H0,vs,ds,d1,d2,d,S,e,k⟩;unfold aX at e;split at e
 ·rename_i i j
  cases e
  cases SR.isInt S
  cases SR.isInt S.drop
  exact .inl ⟨i,j,rfl,rfl,k _ H S.drop.drop.int⟩
 ·rename_i i j
  split at e
  ·rename_i hl
   cases e
   cases SR.isStr S
   cases SR.isStr S.drop
   exact .inr (.inl ⟨i,j,rfl,rfl,hl,k _ H S.drop.drop.str⟩)
  ·cases e
 ·rename_i t xs u ys
  split at e
  ·rename_i xs' ys' hx hy
   split at e
   ·rename_i hl
    cases e
    obtain ⟨Hf,fp,O,F⟩:=S;obtain ⟨a2,us2,rfl,e2,Hg,fq,O1,F1,s1,R2⟩:=O.items F hy;obtain ⟨a1,us1,rfl,e1,Hk,fr,O2,F2,s2,R1⟩:=O1.items F1 hx;refine .inr (.inr ⟨a1,a2,us1,us2,rfl,rfl,e1,e2,by rw[R1.length,R2.length];exact hl,fun p hp=>k _ _ ?_⟩);exact SR.laidL O2 F2 (R1.append (R2.mono s2)) (fun z m=>(List.mem_append.mp m).elim (D.its_tag hx z) (D.its_tag hy z)) hp
   ·cases e
  ·cases e
 ·cases e
theorem Reps.rep{H:Hp}{us:List V}{es:List D}(R:Reps H us es):∀ k:Nat,Reps H (List.replicate k us).flatten (List.replicate k es).flatten
 | 0=>.nil
 |k+1=>by
  rw[List.replicate_succ,List.replicate_succ,List.flatten_cons,List.flatten_cons];exact R.append (Reps.rep R k)
structure FIx (X:Cx) (g:D->D->Res D):Prop where
 go:IxR X fun x y H Q=>∃ Hs H0 vs ds d1 d2 d,
 SR Hs H0 H (some y::some x::vs) (some d2::some d1::ds)/\g d1 d2=.ok d/\∀ v H',SR Hs H0 H' (some v::vs) (some d::ds)->Q v H'
theorem rg{g:D->D->Res D}{fa fb:ac->Res D}(ho:FIx X g)(hg:∀ x y,noX (g x y)=true)(ha:FE X H0 Ex a fa)(hb:FE X H0 Ex b fb)(hs:jV b):FE X H0 Ex (.Subscript a b pos) (f2 g fa fb):=
 ⟨PE.pre (uZ ho.go ha.go hb.go hs) fun _ _ _ h=>kY hg (op:=fun _ _=>pure .none) h⟩
theorem IxR.pre{r r':R2}(h:IxR X r)(i:∀ x y H Q,r' x y H Q->r x y H Q):IxR X r':=fun v sl pins s σ H x y a u Q I p q w z=>h v sl pins s σ H x y a u Q I p q (i x y H Q w) z
def be{α:Type}:Option α->Res α
 |some a=>.ok a
 |none=>.bad
def dIx:D->D->Res D:=fun x y=>match x,y with
 | .lst t xs,.int i=>match ixN xs.length i with
  |some j=>be (D.el (.lst t xs) j)
  |none=>.bad
 | .tup xs,.int i=>match ixN xs.length i with
  |some j=>be (D.el (.tup xs) j)
  |none=>.bad
 | .str z,.int i=>match atI z.cps.toList i with
  |some c=>if z.length<=sizeLine then .ok (.str ⟨#[c]⟩) else .bad
  |none=>.bad
 | .scr ns,.int i=>match atI ns i with
  |some c=>.ok (.int c)
  |none=>.bad
 |_,_=>.bad
theorem ku{α:Type}(o:Option α):noX (be o)=true:=by cases o<;>rfl
theorem ll{α:Type}{o:Option α}{a:α}(h:be o=.ok a):o=some a:=by
 cases o with
 |some b=>cases h;rfl
 |none=>cases h
theorem rh:∀ x y,noX (dIx x y)=true:=by
 intro x y;unfold dIx;split
 ·split
  ·exact ku _
  ·rfl
 ·split
  ·exact ku _
  ·rfl
 ·split
  ·split<;>rfl
  ·rfl
 ·split<;>rfl
 ·rfl
theorem nS{α:Type}{xs:List α}{i:Int}{j:Nat}{v:α}(h:ixN xs.length i=some j)(e:xs[j]?=some v):atI xs i=some v:=by
 unfold atI;rw[h];exact e
theorem tJ:FIx X dIx:=by
 refine ⟨IxR.pre tq ?_⟩;rintro x y H Q ⟨Hs,H0,vs,ds,d1,d2,d,S,e,k⟩;unfold dIx at e;split at e
 ·rename_i t xs i
  cases SR.isInt S
  split at e
  ·rename_i j hj
   have he:=ll e;obtain ⟨a,us,u,rfl,h1,h2,S'⟩:=S.drop.elem he;have hl:us.length=xs.length:=by
    have:=S.drop.head
    cases this with
    |lst q R=>
     have h1':H a=some (.lst us):=h1;rw[h1'] at q;cases q;exact R.length
   exact .inl ⟨a,us,i,u,rfl,rfl,SqL.of h1,nS (by rw[hl];exact hj) h2,k _ H S'⟩
  ·cases e
 ·rename_i xs i
  cases SR.isInt S
  split at e
  ·rename_i j hj
   have he:=ll e;obtain ⟨a,us,u,rfl,h1,h2,S'⟩:=S.drop.elem he;have hl:us.length=xs.length:=by
    have:=S.drop.head
    cases this with
    |tup q R=>
     have h1':H a=some (.tup us):=h1;rw[h1'] at q;cases q;exact R.length
   exact .inr (.inl ⟨a,us,i,u,rfl,rfl,SqT.of h1,nS (by rw[hl];exact hj) h2,k _ H S'⟩)
  ·cases e
 ·rename_i z i
  cases SR.isInt S
  split at e
  ·rename_i c hc
   split at e
   ·rename_i hz
    cases e
    cases SR.isStr S.drop
    exact .inr (.inr ⟨z,i,c,rfl,rfl,hz,hc,k _ H S.drop.drop.str⟩)
   ·cases e
  ·cases e
 ·rename_i ns i
  cases SR.isInt S
  split at e
  ·rename_i c hc
   cases e
   have:=S.drop.head
   cases this with
   |scr q=>
    refine .inl ⟨_,_,i,.int c,rfl,rfl,.inl (.inr ⟨_,q⟩),?_,k _ H S.drop.drop.int⟩;obtain ⟨j,h1,h2,_⟩:=ie hc;unfold atI at hc ⊢;rw[List.length_map]
    cases hj:ixN ns.length i with
    |none=>rw[hj] at hc;cases hc
    |some j=>
     rw[hj] at hc;have hc:ns[j]?=some c:=hc;show (ns.map V.int)[j]?=some (V.int c);rw[List.getElem?_map,hc];rfl
  ·cases e
 ·cases e
theorem bS{fa fb:ac->Res D}(ha:FE X H0 Ex a fa)(hb:FE X H0 Ex b fb)(hs:jV b:=by intro _ _;rfl):FE X H0 Ex (.Subscript a b pos) (f2 dIx fa fb):=rg tJ rh ha hb hs
theorem pI{us:List V}{es:List D}{ts:List (V × D)}(h:us.length=es.length):tvs (held us es ts)=hv us++tvs ts:=by
 have:(us.zip es).map (fun t=>some t.1)=us.map some:=by
  induction us generalizing es with
  |nil=>rfl
  |cons u us ih=>
   cases es with
   |nil=>simp at h
   |cons e es=>simp[ih (es:=es) (by simpa using h)]
 simp[tvs,held,hv,<- this]
theorem pJ{us:List V}{es:List D}{ts:List (V × D)}(h:us.length=es.length):tds (held us es ts)=hd es++tds ts:=by
 have:(us.zip es).map (fun t=>some t.2)=es.map some:=by
  induction us generalizing es with
  |nil=>
   cases es with
   |nil=>rfl
   |cons e es=>simp at h
  |cons u us ih=>
   cases es with
   |nil=>simp at h
   |cons e es=>simp[ih (es:=es) (by simpa using h)]
 simp[tds,held,hd,<- this]
theorem SX.held{Hs H0 H:Hp}{us:List V}{es:List D}{ts:List (V × D)}{σ:St}{ρ:ac}(h:us.length=es.length)(S:SX Hs H0 H (held us es ts) σ ρ):SR Hs H0 H (hv us++(tvs ts++σ)) (hd es++(tds ts++ρ)):=by
 unfold SX at S;rw[pI h,pJ h,List.append_assoc,List.append_assoc] at S;exact S
def ag:ac->Res (List D):=fun _=>.ok []
def aa(f:ac->Res D)(g:ac->Res (List D)):ac->Res (List D):=fun ρ=>f ρ >>= fun d=>g ρ >>= fun ds=>.ok (d::ds)
theorem aj:FA X H0 Ex [] ag:=by
 refine ⟨PA.pre dj ?_⟩;rintro σ H Q ⟨Hs,ρ,ts,S,p⟩;exact p [] H rfl S
theorem ae{es:List Expr}{fe:ac->Res D}{fs:ac->Res (List D)}(he:FE X H0 Ex e fe)(hr:FA X H0 Ex es fs)(hs:starEach (e::es) X.env=(false,eval e X.env)::starEach es X.env:=by rfl):FA X H0 Ex (e::es) (aa fe fs):=by
 refine ⟨PA.pre (cv he.go hr.go hs) ?_⟩;rintro σ H Q ⟨Hs,ρ,ts,S,p⟩;refine ⟨Hs,ρ,ts,S,(Post.bind p).imp fun d _ p1 v H1 S1=>⟨Hs,ρ,(v,d)::ts,S1,(Post.bind p1).imp fun ds _ p2 us H2 hl S2=>?_⟩⟩;refine p2 (v::us) H2 (by simp[hl]) ?_;have:held (v::us) (d::ds) ts=held us ds ((v,d)::ts):=by simp[held]
 rw[this];exact S2
def nb(es:List D):Bool:=es.all fun e=>!(e.tag == .b)
theorem jm{es:List D}(h:nb es=true):∀ e∈es,e.tag≠.b:=fun e m=>by
 have:=List.all_eq_true.mp h e m;simpa using this
def bT(fa:ac->Res (List D)):ac->Res D:=fun ρ=>fa ρ >>= fun es=>if nb es&&decide (es.length<=sizeLine) then .ok (.lst .o es) else .bad
def eJ(fa:ac->Res (List D)):ac->Res D:=fun ρ=>fa ρ >>= fun es=>if nb es&&decide (es.length<=sizeLine) then .ok (.tup (D.fzs es)) else .bad
theorem cw{es:List Expr}{fa:ac->Res (List D)}(h:FA X H0 Ex es fa):FE X H0 Ex (.List es pos) (bT fa):=by
 refine ⟨PE.pre (sX h.go) ?_⟩;rintro σ H Q ⟨Hs,ρ,ts,S,p⟩;refine ⟨Hs,ρ,ts,S,(Post.bind p).imp fun ds _ p1 us H1 hl S1=>?_⟩;split at p1
 ·rename_i hc
  simp at hc;exact ⟨by rw[hl];exact hc.2,fun q hq=>p1 _ _ ((SX.held hl S1).mkList hl (jm hc.1) hq)⟩
 ·exact p1.elim
theorem gU{es:List Expr}{fa:ac->Res (List D)}{x1}(h:FA X H0 Ex es fa):FE X H0 Ex (.Tuple es x1 pos) (eJ fa):=by
 refine ⟨PE.pre (sW h.go) ?_⟩;rintro σ H Q ⟨Hs,ρ,ts,S,p⟩;refine ⟨Hs,ρ,ts,S,(Post.bind p).imp fun ds _ p1 us H1 hl S1=>?_⟩;split at p1
 ·rename_i hc
  simp at hc;exact ⟨by rw[hl];exact hc.2,fun q hq=>p1 _ _ ((SX.held hl S1).mkTup hl (jm hc.1) hq)⟩
 ·exact p1.elim
structure FCall (X:Cx) (f:Value) (g:List D->Res D):Prop where
 go:CallR X f fun us H Q=>∃ Hs H0 vs ds es d,us.length=es.length ∧
 SR Hs H0 H (hv us++vs) (hd es++ds)/\g es=.ok d/\∀ v H',SR Hs H0 H' (some v::vs) (some d::ds)->Q v H'
theorem CallR.pre{f:Value}{r r':List V->Hp->VK->Prop}(h:CallR X f r)(i:∀ x H Q,r' x H Q->r x H Q):CallR X f r':=fun pins s σ H x y Q I a q=>h pins s σ H x y Q I a (i x H Q q)
def fCB(g:List D->Res D)(fa:ac->Res (List D)):ac->Res D:=fun ρ=>fa ρ >>= g
theorem nU{H0:Hp}{g:List D->Res D}{fa:ac->Res (List D)}(hg:∀ es,noX (g es)=true){σ:St}{H:Hp}{Q:VK}(h:TEF H0 Ex (fCB g fa) σ H Q) :
    tCB (fun us H Q=>∃ Hs H0 vs ds es d,us.length=es.length/\SR Hs H0 H (hv us++vs) (hd es++ds)/\g es=.ok d/\∀ v H',SR Hs H0 H' (some v::vs) (some d::ds)->Q v H') (TAF H0 Ex fa) σ H Q:=by
 obtain ⟨Hs,ρ,ts,S,p⟩:=h;refine ⟨Hs,ρ,ts,S,(Post.bind p).imp fun es _ p1 us H1 hl S1=>?_⟩;have hn:=hg es
 cases e:g es with
 |ok d=>rw[e] at p1;exact ⟨Hs,H0,_,_,es,d,hl,SX.held hl S1,e,p1⟩
 |exc C=>rw[e] at hn;cases hn
 |bad=>rw[e] at p1;exact p1.elim
theorem bd{id:String}{x:Str}{p:Pos}{es:List Expr}{g:List D->Res D}{fa:ac->Res (List D)}(hc:FCall X (.builtin id) g)(hn:∀ es,noX (g es)=true)(hg:Gl X x)(hm:X.mg x=none)(hv:bootBuiltins x=some (.builtin id))(ha:FA X H0 Ex (e::es) fa)
    (hn':x ≠ "__name__" := by decide) (hdb:(x == ("__debug__" : Str))=false:=by decide) (h1:starEach (e::es) X.env=(false,eval e X.env)::starEach es X.env:=by rfl) (h2:(backTo pos (starEach es X.env)).any (·.1)=false:=by rfl):FE X H0 Ex (.Call (.Name x p) (e::es) [] pos) (fCB g fa):=
 ⟨PE.pre (lf hc.go hg hm hv ha.go hn' hdb h1 h2) fun _ _ _ h=>nU hn h⟩
end
end Mi
namespace Mi
open PySem PySem.Spec L2
open PyProof.Rows hiding St
inductive FOut where
 |nx (ρ:ac) | rt (d:D) | bk (ρ:ac) | ct (ρ:ac) | exc (C:Value) | bad
def SS(Hs H0 H:Hp)(σ:St)(ρ:ac):Prop:=SR Hs H0 H σ ρ/\noB ρ
def PostS(Hs H0:Hp)(Ex:Value->Prop)(D:Ends)(r:FOut):Prop:=
 match r with
 | .nx ρ=>∀ σ H,SS Hs H0 H σ ρ->D.nx σ H
 | .rt d=>∀ v H,SR Hs H0 H [some v] [some d]->D.rt v H
 | .bk ρ=>∀ σ H,SS Hs H0 H σ ρ->D.bk σ H
 | .ct ρ=>∀ σ H,SS Hs H0 H σ ρ->D.ct σ H
 | .exc C=>Ex C
 | .bad=>False
def TSF(H0:Hp)(Ex:Value->Prop)(g:ac->FOut):TS:=fun D σ H=>∃ Hs ρ,SS Hs H0 H σ ρ/\PostS Hs H0 Ex D (g ρ)
structure FS (X:Cx) (H0:Hp) (Ex:Value->Prop) (st:Stmt) (g:ac->FOut):Prop where
 go:PS X st (TSF H0 Ex g)
structure FSs (X:Cx) (H0:Hp) (Ex:Value->Prop) (st:List Stmt) (g:ac->FOut):Prop where
 go:PSs X st (TSF H0 Ex g)
def aft{α:Type}(r:Res α)(k:α->FOut):FOut:=
 match r with
 | .ok a=>k a
 | .exc C=>.exc C
 | .bad=>.bad
theorem PostS.aft{α:Type}{Hs H0:Hp}{Ex:Value->Prop}{D:Ends}{r:Res α}{k:α->FOut}(h:PostS Hs H0 Ex D (aft r k)):Post Ex r fun a=>PostS Hs H0 Ex D (k a):=by
 cases r with
 |ok a=>exact h
 |exc C=>exact h
 |bad=>exact h
section
variable {X:Cx}{Ex:Value->Prop}{H0:Hp}{e:Expr}{f:ac->Res D}{g g1 g2:ac->FOut}{pos:Pos}{st:Stmt}{sts:List Stmt}
def aV:ac->FOut:=fun ρ=>.nx ρ
def az(g1 g2:ac->FOut):ac->FOut:=fun ρ=>match g1 ρ with
 | .nx ρ'=>g2 ρ'
 |r=>r
theorem ba:FSs X H0 Ex [] aV:=⟨PSs.pre qQ fun D σ H ⟨Hs,ρ,S,p⟩=>p σ H S⟩
theorem ri{H0:Hp}{D:Ends}{σ:St}{H:Hp}(h:TSF H0 Ex (az g1 g2) D σ H):sG (TSF H0 Ex g1) (TSF H0 Ex g2) D σ H:=by
 obtain ⟨Hs,ρ,S,p⟩:=h;refine ⟨Hs,ρ,S,?_⟩;unfold az at p
 cases e:g1 ρ with
 |nx ρ'=>rw[e] at p;exact fun σ' H' S'=>⟨Hs,ρ',S',p⟩
 |rt d=>rw[e] at p;exact p
 |bk ρ'=>rw[e] at p;exact p
 |ct ρ'=>rw[e] at p;exact p
 |exc C=>rw[e] at p;exact p
 |bad=>rw[e] at p;exact p
theorem ao(h1:FS X H0 Ex st g1)(h2:FSs X H0 Ex sts g2):FSs X H0 Ex (st::sts) (az g1 g2):=⟨PSs.pre (pk h1.go h2.go) fun _ _ _ h=>ri h⟩
theorem au(h1:FS X H0 Ex st g1):FSs X H0 Ex [st] g1:=⟨qR h1.go⟩
def bx(f:ac->Res D):ac->FOut:=fun ρ=>aft (f ρ) fun _=>.nx ρ
theorem bW(he:FE X H0 Ex e f)(hs:swapsWith e none pos.line X.env=pure false:=by rfl):FS X H0 Ex (.Expr e pos) (bx f):=by
 refine ⟨PS.pre (jU he.go hs) ?_⟩;rintro D σ H ⟨Hs,ρ,⟨S,n⟩,p⟩;exact ⟨Hs,ρ,[],S,(PostS.aft p).imp fun d _ p1 v H1 S1=>p1 σ H1 ⟨S1.drop,n⟩⟩
def bj(f:ac->Res D):ac->FOut:=fun ρ=>aft (f ρ) fun d=>if d.tag=.b then .bad else .rt d
theorem bn(he:FE X H0 Ex e f):FS X H0 Ex (.Return (some e) pos) (bj f):=by
 refine ⟨PS.pre (nI he.go) ?_⟩;rintro D σ H ⟨Hs,ρ,⟨S,n⟩,p⟩;refine ⟨Hs,ρ,[],S,(PostS.aft p).imp fun d _ p1 v H1 S1=>?_⟩;split at p1
 ·exact p1.elim
 ·exact p1 v H1 (SR.only (vs':=[]) (ds':=[]) S1)
def mV(i:Nat):ac->FOut:=fun ρ=>match ρ[i]? with
 |some (some d)=>.rt d
 |_=>.bad
theorem rj(i:Nat){x:Str}{p':Pos}(h:PV X (.Name x p') i):FS X H0 Ex (.Return (some (.Name x p')) pos) (mV i):=by
 refine ⟨PS.pre (nI h.go) ?_⟩;rintro D σ H ⟨Hs,ρ,⟨S,n⟩,p⟩;unfold mV at p;split at p
 ·rename_i d hd
  obtain ⟨v,hv,S'⟩:=S.move hd (n d (List.mem_of_getElem? hd));exact ⟨v,hv,p v H (SR.only (vs':=[]) (ds':=[]) S')⟩
 ·exact p.elim
def gIf(t:ac->Res Bool)(g1 g2:ac->FOut):ac->FOut:=fun ρ=>aft (t ρ) fun b=>if b=true then g1 ρ else g2 ρ
theorem bi{c:Expr}{a b:List Stmt}{t:ac->Res Bool}(hc:FT X H0 Ex c t)(ha:FSs X H0 Ex a g1)(hb:FSs X H0 Ex b g2):FS X H0 Ex (.If c a b pos) (gIf t g1 g2):=by
 refine ⟨PS.pre (uN hc.go ha.go hb.go) ?_⟩;rintro D σ H ⟨Hs,ρ,⟨S,n⟩,p⟩;refine ⟨Hs,ρ,[],S,(PostS.aft p).imp fun b _ p1 H1 S1=>?_⟩
 cases b with
 |true=>rw[if_pos rfl] at p1 ⊢;exact ⟨Hs,ρ,⟨S1,n⟩,p1⟩
 |false=>rw[if_neg Bool.false_ne_true] at p1 ⊢;exact ⟨Hs,ρ,⟨S1,n⟩,p1⟩
def aE(i:Nat)(f:ac->Res D):ac->FOut:=fun ρ=>aft (f ρ) fun d=>if d.tag=.b\/ρ.length<=i then .bad else .nx (ρ.set i (some d))
theorem SR.set0{Hs H0 H:Hp}{v:V}{d:D}{σ:St}{ρ:ac}(S:SX Hs H0 H [(v,d)] σ ρ)(t:d.tag≠.b)(n:noB ρ){i:Nat}(hi:i<ρ.length):SS Hs H0 H (σ.set i (some v)) (ρ.set i (some d)):=
 ⟨SR.set S t hi,n.set fun d' e=>by cases e;exact t⟩
theorem rk{H0:Hp}{i:Nat}{D:Ends}{σ:St}{H:Hp}(h:TSF H0 Ex (aE i f) D σ H):sJ (TEF H0 Ex f) (kW i) D σ H:=by
 obtain ⟨Hs,ρ,⟨S,n⟩,p⟩:=h;refine ⟨Hs,ρ,[],S,(PostS.aft p).imp fun d _ p1 v H1 S1=>?_⟩;split at p1
 ·exact p1.elim
 ·rename_i hc
  exact p1 _ H1 (SR.set0 S1 (fun z=>hc (.inl z)) n (by omega))
theorem aS{i:Nat}{x:Str}{pos':Pos}(hN:X.N.Nodup)(hi:X.N[i]?=some x)(hx:Loc X.env.scope x)(he:FE X H0 Ex e f)(hs:swapsWith e (some (.Name x pos')) pos.line X.env=pure false:=by rfl)(hf:X.fn x=true\/X.env.scope.names.lookup x=some .local:=by first | exact .inl rfl | exact .inr rfl | assumption) :
    FS X H0 Ex (.Assign [.Name x pos'] e pos) (aE i f):=⟨PS.pre (sK hN hi hx he.go hs hf) fun _ _ _ h=>rk h⟩
def fFz(f:ac->Res D):ac->Res D:=fun ρ=>f ρ >>= fun d=>if d.tag=.b then .bad else .ok d.fz
theorem bu(he:FE X H0 Ex e f):FE X H0 Ex e (fFz f):=by
 refine ⟨PE.pre he.go ?_⟩;rintro σ H Q ⟨Hs,ρ,ts,S,p⟩;refine ⟨Hs,ρ,ts,S,(Post.bind p).imp fun d _ p1 v H1 S1=>?_⟩;split at p1
 ·exact p1.elim
 ·rename_i hc
  exact p1 v H1 (SR.frz S1 hc)
def frzAt(i:Nat)(ρ:ac):ac:=match ρ[i]? with
 |some (some d)=>ρ.set i (some d.fz)
 |_=>ρ
theorem SR.frzAt{Hs H0 H:Hp}{σ:St}{ρ:ac}(S:SR Hs H0 H σ ρ)(n:noB ρ)(i:Nat):SS Hs H0 H σ (frzAt i ρ):=by
 unfold Mi.frzAt;split
 ·rename_i d hd
  obtain ⟨v,hv,S'⟩:=S.move hd (n d (List.mem_of_getElem? hd));have S1:=S'.frz (n d (List.mem_of_getElem? hd));have hi:i<ρ.length:=(List.getElem?_eq_some_iff.mp hd).1;have S2:=SR.set S1 (by rw[d.fz_tag];decide) (i:=i) (by simpa using hi);rw[List.set_set] at S2;have hvi:σ.set i (some v)=σ:=by
   obtain ⟨a,b⟩:=List.getElem?_eq_some_iff.mp hv;rw[<- b];exact List.set_getElem_self a
  rw[hvi] at S2;exact ⟨S2,n.set fun d' e=>by cases e;rw[d.fz_tag];decide⟩
 ·exact ⟨S,n⟩
end
end Mi
namespace L2
open PySem PySem.Spec PyProof.Rows
def dE(cells:List (Str × Addr)):List (Str × NameKind)->List (Str × Addr)->List (Str × Addr)
 | [],acc=>acc
 | (n,k)::r,acc=>if k == .free then dE cells r ((n,(cells.lookup n).getD 0)::acc) else dE cells r acc
theorem dF{scope:Scope}{env:Env}(h:∀ x∈scope.names,x.2=.free->∃ c,env.cells.lookup x.1=some c):closureFor scope env=pure (dE env.cells scope.names []):=by
 unfold closureFor;have go:∀ (names:List (Str × NameKind)) (acc:List (Str × Addr)),(∀ x∈names,x.2=.free->∃ c,env.cells.lookup x.1=some c) →
     (forIn names acc (fun (x:Str × NameKind) (r:List (Str × Addr))=>(if (x.2 == NameKind.free)=true then (do let y <- cellOf env x.1;pure (ForInStep.yield ((x.1,y)::r))) else pure (ForInStep.yield r):Sem (ForInStep (List (Str × Addr))))):Sem (List (Str × Addr)))=pure (dE env.cells names acc):=by
  intro names;induction names with
  |nil=>intro acc _;rfl
  |cons x r ih=>
   intro acc hx;obtain ⟨n,k⟩:=x;rw[List.forIn_cons];unfold dE
   cases hk:(k == NameKind.free) with
   |false=>
    simp only[hk,Bool.false_eq_true,if_false];exact ih acc fun y hy=>hx y (List.mem_cons_of_mem _ hy)
   |true=>
    obtain ⟨c,hc⟩:=hx (n,k) List.mem_cons_self (by simpa using hk);simp only[hk,if_true,cellOf,hc,Option.getD_some];exact ih _ fun y hy=>hx y (List.mem_cons_of_mem _ hy)
 have:=go scope.names [] h;simpa using this
theorem ck:∀ (names:List (Str × NameKind)) (n:Nat) (acc:List (Str × Addr)),cellsFrom n names acc=cellsFrom n names []++acc
 | [],_,_=>rfl
 | (x,k)::r,n,acc=>by
  unfold cellsFrom;split
  ·rw[ck r (n+1) ((x,n)::acc),ck r (n+1) [(x,n)]]
   simp
  ·exact ck r n acc
theorem dU:∀ (names:List (Str × NameKind)) (n:Nat) {x:Str} {c:Addr},(x,c)∈cellsFrom n names []->(x,NameKind.cell)∈names
 | [],_,_,_,h=>by simp[cellsFrom] at h
 | (y,k)::r,n,x,c,h=>by
  unfold cellsFrom at h;split at h
  ·rename_i hk
   rw[ck] at h;rcases List.mem_append.mp h with h | h
   ·exact List.mem_cons_of_mem _ (dU r (n+1) h)
   ·simp at h
    rw[h.1];have:k=.cell:=by simpa using hk
    rw[this];exact List.mem_cons_self
  ·exact List.mem_cons_of_mem _ (dU r n h)
theorem iZ(cells:List (Str × Addr)):∀ (names:List (Str × NameKind)) (acc:List (Str × Addr)) {x:Str} {c:Addr},(x,c)∈dE cells names acc->((x,NameKind.free)∈names/\c=(cells.lookup x).getD 0)\/(x,c)∈acc
 | [],acc,x,c,h=>.inr h
 | (n,k)::r,acc,x,c,h=>by
  unfold dE at h;split at h
  ·rename_i hk
   rcases iZ cells r _ h with ⟨a,b⟩ | h
   ·exact .inl ⟨List.mem_cons_of_mem _ a,b⟩
   ·rcases List.mem_cons.mp h with h | h
    ·cases h
     have:k=.free:=by simpa using hk
     rw[this];exact .inl ⟨List.mem_cons_self,rfl⟩
    ·exact .inr h
  ·rcases iZ cells r _ h with ⟨a,b⟩ | h
   ·exact .inl ⟨List.mem_cons_of_mem _ a,b⟩
   ·exact .inr h
theorem i5(cells:List (Str × Addr)):∀ (names:List (Str × NameKind)) (acc:List (Str × Addr)) {x:Str},((x,NameKind.free)∈names\/∃ c,(x,c)∈acc)->∃ c,(x,c)∈dE cells names acc
 | [],acc,x,h=>by
  rcases h with h | h
  ·simp at h
  ·exact h
 | (n,k)::r,acc,x,h=>by
  unfold dE;split
  ·refine i5 cells r _ ?_
   rcases h with h | ⟨c,h⟩
   ·rcases List.mem_cons.mp h with h | h
    ·cases h;exact .inr ⟨_,List.mem_cons_self⟩
    ·exact .inl h
   ·exact .inr ⟨c,List.mem_cons_of_mem _ h⟩
  ·rename_i hk
   refine i5 cells r _ ?_;rcases h with h | ⟨c,h⟩
   ·rcases List.mem_cons.mp h with h | h
    ·cases h;exact absurd rfl hk
    ·exact .inl h
   ·exact .inr ⟨c,h⟩
theorem fI{α:Type}:∀ {l:List (Str × α)} {x:Str} {c:α},(x,c)∈l->∃ c',l.lookup x=some c'
 | (k,v)::r,x,c,h=>by
  rw[List.lookup_cons]
  cases hb:x == k with
  |true=>exact ⟨v,rfl⟩
  |false=>
   rcases List.mem_cons.mp h with h | h
   ·cases h;simp at hb
   ·exact fI h
theorem cx{α:Type}:∀ {l:List (Str × α)} {x:Str} {c:α},(l.map (·.1)).Nodup->(x,c)∈l->l.lookup x=some c
 | (k,v)::r,x,c,nd,h=>by
  rw[List.lookup_cons];rw[List.map_cons] at nd;obtain ⟨n1,n2⟩:=List.nodup_cons.mp nd;rcases List.mem_cons.mp h with h1 | h1
  ·cases h1;simp
  ·have:(x == k)=false:=by
      simp only[beq_eq_false_iff_ne];intro e;exact n1 (e ▸ List.mem_map.mpr ⟨_,h1,rfl⟩)
   rw[this];exact cx n2 h1
theorem jo{α:Type}:∀ (l r:List (Str × α)) (x:Str),(l++r).lookup x=(l.lookup x).or (r.lookup x)
 | [],r,x=>by simp
 | (k,v)::l,r,x=>by
  rw[List.cons_append,List.lookup_cons,List.lookup_cons]
  cases hb:x == k with
  |true=>rfl
  |false=>exact jo l r x
def nV(X:Cx)(scope:Scope)(C:Addr)(cells:List (Str × Addr)):Env:=
 { scope:=relabel scope X.env,locals:=C,globals:=X.env.globals,cells:=cells,qual:=X.env.qual,func:=none,code:=X.env.code,frame:=X.env.frame,builtins:=X.env.builtins }
def bf(X:Cx)(scope:Scope)(N:List Str)(C:Addr)(cells:List (Str × Addr))(s0:Shared)(H0:Hp)(ex:List Addr)(pn:List (Addr × Obj)):Cx where
 prog:=X.prog
 w:=X.w
 K:=X.K
 mg:=X.mg
 base:=X.base
 A:=X.A
 N:=N
 s₀:=s0
 H₀:=H0
 env:=nV X scope C cells
 outer:=X.stack
 stack:=X.stack
 ex:=ex
 fn:=fun x=>decide (scope.names.lookup x=some .cell)
 calm:=X.calm
 pn:=pn
 xe:=fun _ _=>False
structure CompScope (X:Cx) (scope:Scope) (own:List Str) (cap:List (Str × Nat)):Prop where
 kind:scope.kind=.function
 nd:(scope.names.map (·.1)).Nodup
 free:∀ x∈scope.names,x.2=.free->X.env.kindOf x.1=some .cell\/X.env.kindOf x.1=some .free
 capN:∀ p∈cap,X.N[p.2]?=some p.1/\scope.names.lookup p.1=some .free
 ndN:(own++cap.map (·.1)).Nodup
theorem f7{scope:Scope}{env:Env}(x:Str):(relabel scope env).names.lookup x=match scope.names.lookup x with
    |some .free=>if env.scope.kind == ScopeKind.function&&env.kindOf x == some NameKind.cell then some .cell else some .free
    |k=>k:=by
 unfold relabel;show List.lookup x (scope.names.map _)=_;induction scope.names with
 |nil=>rfl
 |cons p r ih=>
  obtain ⟨n,k⟩:=p;rw[List.map_cons,List.lookup_cons,List.lookup_cons];have hfst:(if (k == NameKind.free&&env.scope.kind == ScopeKind.function&&env.kindOf n == some NameKind.cell)=true then (n,NameKind.cell) else (n,k)).1=n:=by split<;>rfl
  show (match x == (if (k == NameKind.free&&env.scope.kind == ScopeKind.function&&env.kindOf n == some NameKind.cell)=true then (n,NameKind.cell) else (n,k)).1 with | true=>some (if (k == NameKind.free&&env.scope.kind == ScopeKind.function&&env.kindOf n == some NameKind.cell)=true then (n,NameKind.cell) else (n,k)).2 | false=>_)=_;rw[hfst]
  cases hx:x == n with
  |false=>exact ih
  |true=>
   have e:x=n:=by simpa using hx
   subst e
   cases k with
   |free=>
    cases hc:(env.scope.kind == ScopeKind.function&&env.kindOf x == some NameKind.cell) with
    |true=>simp only[beq_self_eq_true,Bool.true_and,hc,if_true]
    |false=>simp only[beq_self_eq_true,Bool.true_and,hc,Bool.false_eq_true,if_false]
   |_=>rfl
theorem iK{M:Model}{A:Around}{E:Value->Shared->Prop}{s:Shared}{scope:Scope}{g:Addr}{cl:List (Str × Addr)}{qual:Str}{env:Env}{Q:Env->Shared->Prop}
    (h:∀ h':Heap,h'.Ns s.heap.objs.size (fun _=>none)->(∀ b o,s.heap.get? b=some o->h'.get? b=some o) →
     (∀ x c,(x,c)∈cellsFrom (s.heap.objs.size+1) scope.names []->h'.IsCell c none/\s.heap.objs.size+1<=c)->((cellsFrom (s.heap.objs.size+1) scope.names []).Pairwise fun x y=>x.2≠y.2) →
     Q { scope,locals:=s.heap.objs.size,globals:=g,cells:=cellsFrom (s.heap.objs.size+1) scope.names cl,qual,func:=none,code:=env.code,frame:=env.frame,builtins:=env.builtins } { s with heap:=h' }) :
    wpAny M A (newFunctionEnv scope g cl [] qual none .none (some env)) Q E s:=by
 simp only[newFunctionEnv,Option.isSome_some,if_true];refine wpAny_bind (wpAny_alloc ?_);refine wpAny_bind (wpAny_layCells _ (fun name kind cells=>by cases hkc:kind == NameKind.cell<;>simp[hkc]) _ _ _ _ ?_)
 have ok:=cellsFrom_ok scope.names (s.heap.push { cls:=.type "dict", data:=.dict #[] }) (s.heap.objs.size+1) [] ⟨fun _ _ hm=>(nomatch hm),List.Pairwise.nil⟩ (by rw[Heap.size_push];exact Nat.le_refl _);rw[Heap.size_push] at ok;rw[show ({ s with heap:=s.heap.push { cls:=.type "dict", data:=.dict #[] } }:Shared).heap.objs.size=s.heap.objs.size+1 from Heap.size_push ..]
 refine wpAny_bind (wpAny_pure (wpAny_pure ?_));exact h _ ((Heap.Ns.new s.heap (.type "dict")).keeps (pushCells_keeps _ _)) (fun b o e=>pushCells_keeps _ _ b o (Heap.get?_push_of_some _ e)) (fun x c m=>ok.empty x c m) ok.apart
section
variable {X:Cx}{pins:List (Addr × Obj)}{σ:St}{H:Hp}{s:Shared}{scope:Scope}{own:List Str}{cap:List (Str × Nat)}
abbrev bU(X:Cx)(scope:Scope)(n:Nat):List (Str × Addr):=cellsFrom (n+1) scope.names (dE X.env.cells scope.names [])
theorem bz(I:Inv X pins σ H s)(S:CompScope X scope own cap){n:Nat}{x:Str}{c:Addr}(h:(bU X scope n).lookup x=some c) :
    ((x,c)∈cellsFrom (n+1) scope.names []/\scope.names.lookup x=some .cell)\/(scope.names.lookup x=some .free/\X.env.cells.lookup x=some c):=by
 unfold bU at h;rw[ck,jo] at h
 cases e:(cellsFrom (n+1) scope.names []).lookup x with
 |some c'=>
  rw[e] at h
  cases h
  have m:=PySem.mem_of_lookup e;exact .inl ⟨m,cx S.nd (dU _ _ m)⟩
 |none=>
  rw[e] at h;have h:(dE X.env.cells scope.names []).lookup x=some c:=h;rcases iZ _ _ _ (PySem.mem_of_lookup h) with ⟨a,b⟩ | a
  ·have hk:=cx S.nd a
   obtain ⟨c',hc'⟩:=I.ok.has x (S.free _ a rfl);rw[hc'] at b;exact .inr ⟨hk,by rw[hc',b];rfl⟩
  ·simp at a
theorem iL(I:Inv X pins σ H s)(S:CompScope X scope own cap){n:Nat}{x:Str}(h:scope.names.lookup x=some .free):∃ c,(bU X scope n).lookup x=some c/\X.env.cells.lookup x=some c:=by
 have m:=PySem.mem_of_lookup h;obtain ⟨c,hc⟩:=i5 X.env.cells scope.names [] (.inl m);obtain ⟨c',hc'⟩:=fI (l:=bU X scope n) (x:=x) (c:=c) (by unfold bU;rw[ck];exact List.mem_append_right _ hc);rcases bz I S hc' with ⟨_,k⟩ | ⟨_,k⟩
 ·rw[h] at k;cases k
 ·exact ⟨c',hc',k⟩
theorem lm{H3:Hp}{h3:Heap}(I:Inv X pins σ H s)(I3:Inv X pins σ H3 { s with heap:=h3 })(kp3:∀ b o,s.heap.get? b=some o->h3.get? b=some o)(S:CompScope X scope own cap){fp:List Addr}(u3:Un (frs X.stack) fp H H3 s.heap h3)
    (hf:∀ b∈fp,cQ X pins H b) (he:∀ b∈fp,∃ o,s.heap.get? b=some o) {h':Heap}
    (ns:h'.Ns h3.objs.size (fun _=>none)) (kp:∀ b o,h3.get? b=some o->h'.get? b=some o)
    (cl:∀ x c,(x,c)∈cellsFrom (h3.objs.size+1) scope.names []->h'.IsCell c none/\h3.objs.size+1<=c) (ap:(cellsFrom (h3.objs.size+1) scope.names []).Pairwise fun x y=>x.2≠y.2) (hle:s.heap.objs.size<=h3.objs.size) :
    Inv (bf X scope (own++cap.map (·.1)) h3.objs.size (bU X scope h3.objs.size) s H fp (X.pn++pins)) [] (List.replicate own.length none++cap.map fun p=>(σ[p.2]?).join) H3 { s with heap:=h' }:=by
 have low:∀ x c,X.env.cells.lookup x=some c->c<s.heap.objs.size:=fun x c e=>let ⟨v,q⟩:=I.cell x c e;q.lt;have fresh:∀ a,h3.objs.size<=a->H3 a=none:=fun a h=>I3.hok.fresh h;have notStk:∀ b,b≠X.env.locals->b∉X.fs->b∉frs X.stack:=fun b h1 h2 m=>by
  rcases List.mem_cons.mp (I.stkSub b m) with e | e
  ·exact h1 e
  ·exact h2 e
 refine ⟨⟨I.ok.mod,S.kind,I.ok.glob,I.ok.blt,hle,fun x y c h1 h2=>?_,fun x hx=>?_,fun x c hx h1=>?_,I.ok.hd,I.ok.frames,.inl rfl,fun b hb=>⟨?_,fun x c h1 z=>?_⟩,fun b o e=>I.bs b o e,Nat.le_trans I.ok.bsz I.sz,fun b o e hb=>?_,fun b hb=>?_,I.stack,fun b hb=>I.stkFree b hb⟩,
  rfl,I.bare,u3.trans (Un.kept kp),⟨_,ns,fun i x v h1 h2 hv3=>?_⟩,fun x c h1=>?_,fresh _ (Nat.le_refl _),fun x c h1=>?_,fun p hp=>?_,I3.hok.kept kp,?_⟩
 ·
  rcases bz I S h1 with ⟨m1,k1⟩ | ⟨k1,c1⟩ <;> rcases bz I S h2 with ⟨m2,k2⟩ | ⟨k2,c2⟩
  ·exact name_of_addr ap m1 m2
  ·exact absurd (Nat.lt_of_lt_of_le (low y c c2) hle) (Nat.not_lt.mpr (Nat.le_of_succ_le (cl x c m1).2))
  ·exact absurd (Nat.lt_of_lt_of_le (low x c c1) hle) (Nat.not_lt.mpr (Nat.le_of_succ_le (cl y c m2).2))
  ·exact I.ok.inj x y c c1 c2
 ·have hx:(relabel scope X.env).names.lookup x=some .cell\/(relabel scope X.env).names.lookup x=some .free:=hx
  rw[f7] at hx
  cases e:scope.names.lookup x with
  |none=>rw[e] at hx;simp at hx
  |some k=>
   cases k with
   |free=>obtain ⟨c,a,_⟩:=iL (n:=h3.objs.size) I S e;exact ⟨c,a⟩
   |cell=>
    have q:=PySem.W.cellsFrom_some scope.names (h3.objs.size+1) (dE X.env.cells scope.names []) (.inl e);exact Option.isSome_iff_exists.mp q
   |_=>rw[e] at hx;simp at hx
 ·have hx:scope.names.lookup x=some .cell:=of_decide_eq_true hx
  rcases bz I S h1 with ⟨m1,k1⟩ | ⟨k1,c1⟩
  ·show s.heap.objs.size<=c
   have:=(cl x c m1).2;omega
  ·rw[hx] at k1;cases k1
 ·obtain ⟨o,e⟩:=he b hb
  exact Nat.ne_of_lt (Nat.lt_of_lt_of_le (Heap.lt_size e) hle)
 ·subst z
  rcases bz I S h1 with ⟨m1,k1⟩ | ⟨k1,c1⟩
  ·obtain ⟨o,e⟩:=he c hb
   exact absurd (Nat.lt_of_lt_of_le (Heap.lt_size e) hle) (Nat.not_lt.mpr (Nat.le_of_succ_le (cl x c m1).2))
  ·exact (hf c hb).2.2.2.2.1 x c c1 rfl
 ·rcases (hf b hb).2.2.2.1 with z | z
  ·exact I.ok.noex b o e z
  ·exact absurd (Nat.lt_of_lt_of_le (Heap.lt_size e) (Nat.le_trans I.ok.bsz z)) (Nat.lt_irrefl _)
 ·exact notStk b (hf b hb).2.1 (hf b hb).2.2.1
 ·
  by_cases hi:i<own.length
  ·rw[List.getElem?_append_left (by simpa using hi),List.getElem?_replicate] at h2
   split at h2<;>cases h2
  ·rw[List.getElem?_append_right (by simpa using hi)] at h2
   have h1:(own++cap.map (·.1))[i]?=some x:=h1;rw[List.getElem?_append_right (by omega)] at h1;rw[List.length_replicate] at h2;rw[List.getElem?_map] at h1 h2
   cases e:cap[i - own.length]? with
   |none=>rw[e] at h1;cases h1
   |some p=>
    rw[e] at h1 h2;have e1:p.1=x:=Option.some.inj h1;subst e1;have e2:(σ[p.2]?).join=some v:=Option.some.inj h2;obtain ⟨hN,hk⟩:=S.capN p (List.mem_of_getElem? e);have e3:σ[p.2]?=some (some v):=by
     cases q:σ[p.2]? with
     |none=>rw[q] at e2;cases e2
     |some o=>rw[q] at e2;rw[show o=some v from e2]
    obtain ⟨c,a1,a2⟩:=iL (n:=h3.objs.size) I S hk;have hvis:X.env.kindOf p.1=some .cell\/X.env.kindOf p.1=some .free:=S.free _ (PySem.mem_of_lookup hk) rfl;obtain ⟨m,hn,hl⟩:=I.loc;obtain ⟨u,r,l⟩:=hl p.2 p.1 v hN e3 (by rcases hvis with z | z;exact .inr (.inl z);exact .inr (.inr z));refine ⟨u,r,.inr ⟨?_,c,a1,?_⟩⟩
    ·show (relabel scope X.env).names.lookup p.1=some .cell\/(relabel scope X.env).names.lookup p.1=some .free
     rw[f7,hk]
     cases hb:(X.env.scope.kind == ScopeKind.function&&X.env.kindOf p.1 == some NameKind.cell) with
     |true=>exact .inl (by simp[hb])
     |false=>exact .inr (by simp[hb])
    ·rcases l with ⟨z,_⟩ | ⟨_,c',b1,b2⟩
     ·rcases hvis with y | y<;>rw[y] at z<;>cases z
     ·rw[a2] at b1
      cases b1
      exact (b2.keeps kp3).keeps kp
 ·rcases bz I S h1 with ⟨m1,k1⟩ | ⟨k1,c1⟩
  ·exact ⟨none,(cl x c m1).1⟩
  ·obtain ⟨v,q⟩:=I.cell x c c1
   exact ⟨v,(q.keeps kp3).keeps kp⟩
 ·rcases bz I S h1 with ⟨m1,k1⟩ | ⟨k1,c1⟩
  ·exact fresh c (by have:=(cl x c m1).2;omega)
  ·exact I3.freeC x c c1
 ·have hp:p∈(X.pn++pins)++[]:=hp
  rw[List.append_nil] at hp;obtain ⟨a,b,c,d,e⟩:=I3.pin p hp;exact ⟨kp _ _ a,b,Nat.ne_of_lt (Heap.lt_size a),notStk _ c d,e⟩
 ·show _=(own++cap.map (·.1)).length
  simp
end
section
variable {prog:Program}{w:World}{A:Around}{R:Result->Shared->Prop}{s:Shared}
theorem nW{elt target iter:Expr}{ifs:List Expr}{scope:Scope}{pos:Pos}{it acc:Value}{env:Env}(I:Nat->Shared->Prop)
    (turn:∀ n s,I n s->wpAny (model prog w) A (pyNext it) (fun r s₁=>match r with
     |none=>R (.ok .next) s₁
     |some v=>wpAny (model prog w) A (letOwnedTupleGo target it v) (fun _ s₁'=>wpAny (model prog w) A (assign target env v) (fun _ s₂=>
         wpAny (model prog w) A (forIn ifs true fun c r=>if r=true then do let ok <- isTrue c env (eval c env);pure (ForInStep.yield ok) else pure (ForInStep.yield r)) (fun ok s₃=>
          if ok=true then wpAny (model prog w) A (eval elt env) (fun x s₄=>
           wpAny (model prog w) A (call (.builtin "list.append") [acc,x]) (fun _ s₅=>∃ m,m<n/\I m s₅) (fun _ _=>False) s₄) (fun _ _=>False) s₃
          else ∃ m,m<n/\I m s₃) (fun _ _=>False) s₂) (fun _ _=>False) s₁') (fun _ _=>False) s₁) (fun _ _=>False) s)
    (n:Nat) (h:I n s):codeAny (model prog w) A (.compLoop (.ListComp elt [⟨target,iter,ifs,0⟩] scope pos) 0 it acc env) R s:=by
 refine codeAny_loop rfl I (fun n s hI=>?_) n h;show wpAny _ A ((compTurn (.ListComp elt [⟨target,iter,ifs,0⟩] scope pos) 0 it acc env).onRaise (fun x=>do noteFrame x env;theTreesLotGoes x)) _ _ s;refine wpAny_noted ?_;rw[compTurn_list];refine wpAny_bind (wpAny_standAt (wpAny_bind (wpAny_mono (turn n s hI) (fun r s₁ h₁=>?_) fun _ _ h'=>h'.elim)))
 cases r with
 |none=>exact wpAny_pure h₁
 |some v=>
  refine wpAny_bind (wpAny_mono h₁ (fun _ s₁' h₁'=>?_) fun _ _ h'=>h'.elim);refine wpAny_bind (wpAny_mono h₁' (fun _ s₂ h₂=>wpAny_bind (wpAny_mono h₂ (fun ok s₃ h₃=>?_) fun _ _ h'=>h'.elim)) fun _ _ h'=>h'.elim)
  cases ok with
  |false=>exact wpAny_pure ⟨rfl,h₃⟩
  |true=>
   exact wpAny_bind (wpAny_bind (wpAny_mono h₃ (fun x s₄ h₄=>wpAny_bind (wpAny_mono h₄ (fun _ s₅ h₅=>wpAny_pure (wpAny_pure ⟨rfl,h₅⟩)) fun _ _ h'=>h'.elim)) fun _ _ h'=>h'.elim))
end
end L2
namespace Mi
open PySem PySem.Spec L2
open PyProof.Rows hiding St
def Yl(B H:Hp)(x:V)(H':Hp)(d:D):Prop:=d.tag=.f/\((H'=H/\Rep B x d)\/∃ p us ds,H p=none/\H'=upd H p (.tup us)/\x=.ref p/\d=.tup ds/\Reps B us ds)
def df(J:It)(B:Hp)(items:List D):Prop:=∀ H,Same B H->∀ i,(∀ d,items[i]?=some d->J.go i H/\∀ x H',J.yld i H x H'->Yl B H x H' d)/\(i=items.length->J.stop i H)
def TIF(H0:Hp)(Ex:Value->Prop)(fi:ac->Res (List D)):TI:=fun σ H R=>∃ Hs ρ ts,SX Hs H0 H ts σ ρ ∧
 Post Ex (fi ρ) fun items=>∀ J H' Hf fp,df J Hf items->Own Hf H' fp (tvs ts++σ) (tds ts++ρ)->Fine Hs H0 Hf H' fp->R J H'
structure FI (X:Cx) (H0:Hp) (Ex:Value->Prop) (tg iter:Expr) (fi:ac->Res (List D)):Prop where
 go:PI X tg iter (TIF H0 Ex fi)
theorem PI.pre{X:Cx}{tg e:Expr}{t t':TI}(h:PI X tg e t)(i:∀ σ H Q,t' σ H Q->t σ H Q):PI X tg e t':=fun pins s σ H Q I q=>h pins s σ H Q I (i σ H Q q)
def TGF(H0:Hp)(gt:D->ac->Res ac):TG:=fun v σ H Q=>∃ Hs ρ d ts,SX Hs H0 H ((v,d)::ts) σ ρ/\d.tag≠.b/\noB ρ/\Post (fun _=>False) (gt d ρ) fun ρ'=>∀ σ',SX Hs H0 H ts σ' ρ'->noB ρ'->Q σ' H
structure FG (X:Cx) (H0:Hp) (tg:Expr) (gt:D->ac->Res ac):Prop where
 go:PG X tg (TGF H0 gt)
structure MG (X:Cx) (tg:Expr) (i:Nat):Prop where
 go:PG X tg (kW i)
structure Po (X:Cx):Prop where
 go:PassesOwn (model X.prog X.w) X.A X.env X.xe
theorem PG.pre{X:Cx}{tg:Expr}{t t':TG}(h:PG X tg t)(i:∀ v σ H Q,t' v σ H Q->t v σ H Q):PG X tg t':=fun pins s σ H v u Q I r q=>h pins s σ H v u Q I r (i v σ H Q q)
theorem eA{α:Type}:∀ (l r:List α) (i:Nat) (x:α),(l++r).set (l.length+i) x=l++r.set i x
 | [],r,i,x=>by simp
 |a::l,r,i,x=>by
  have e:(a::l).length+i=(l.length+i)+1:=by simp;omega
  rw[e,List.cons_append,List.set_cons_succ,eA l r i x];rfl
theorem SX.set{Hs H0 H:Hp}{v:V}{d:D}{ts:List (V × D)}{σ:St}{ρ:ac}(S:SX Hs H0 H ((v,d)::ts) σ ρ)(t:d.tag≠.b){i:Nat}(hi:i<ρ.length):SX Hs H0 H ts (σ.set i (some v)) (ρ.set i (some d)):=by
 have S':SR Hs H0 H (some v::(tvs ts++σ)) (some d::(tds ts++ρ)):=S;have:=SR.set S' t (i:=(tds ts).length+i) (by rw[List.length_append];omega);rw[eA,fZ,<- fY ts,eA] at this;exact this
section
variable {X:Cx}{Ex:Value->Prop}{H0:Hp}{e iter tg:Expr}{f:ac->Res D}{pos:Pos}
def aB(i:Nat):D->ac->Res ac:=fun d ρ=>if ρ.length<=i then .bad else .ok (ρ.set i (some d))
theorem bL{i:Nat}{x:Str}(hN:X.N.Nodup)(hi:X.N[i]?=some x)(hx:Loc X.env.scope x)(hf:X.fn x=true\/X.env.scope.names.lookup x=some .local:=by first | exact .inl rfl | exact .inr rfl | assumption):FG X H0 (.Name x pos) (aB i):=by
 refine ⟨PG.pre (l8 hN hi hx hf) ?_⟩;rintro v σ H Q ⟨Hs,ρ,d,ts,S,t,n,p⟩;unfold aB at p;split at p
 ·exact p.elim
 ·exact p _ (SX.set S t (by omega)) (n.set fun d' e=>by cases e;exact t)
def eR:List Nat->List D->ac->Res ac
 | [],[],ρ=>.ok ρ
 |i::is,d::ds,ρ=>if ρ.length<=i then .bad else eR is ds (ρ.set i (some d.asF))
 |_,_,_=>.bad
def gp(is:List Nat):D->ac->Res ac:=fun d ρ=>match d with
 | .tup ds=>eR is ds ρ
 |_=>.bad
def vZ(H0:Hp)(is:List Nat):TGs:=fun vs σ H Q=>∃ Hs Hf fp ρ ds ts,Own Hf H fp (tvs ts++σ) (tds ts++ρ)/\Fine Hs H0 Hf H fp/\Reps Hf vs ds/\noB ρ/\Post (fun _=>False) (eR is ds ρ) fun ρ'=>∀ σ',SX Hs H0 H ts σ' ρ'->noB ρ'->Q σ' H
structure FGs (X:Cx) (H0:Hp) (es:List Expr) (is:List Nat):Prop where
 go:PGs X es (vZ H0 is)
theorem ig{i:Nat}{x:Str}(hN:X.N.Nodup)(hi:X.N[i]?=some x)(hx:Loc X.env.scope x)(hf:X.fn x=true\/X.env.scope.names.lookup x=some .local:=by first | exact .inl rfl | exact .inr rfl | assumption):MG X (.Name x pos) i:=⟨l8 hN hi hx hf⟩
theorem ml:FGs X H0 [] []:=by
 refine ⟨?_⟩;intro pins s σ H vs us Q I r h;refine qS pins s σ H vs us Q I r ?_;obtain ⟨Hs,Hf,fp,ρ,ds,ts,O,F,R,n,p⟩:=h
 cases R with
 |nil=>exact ⟨rfl,p σ ⟨Hf,fp,O,F⟩ n⟩
 |cons a b=>exact p.elim
theorem gq{i:Nat}{is:List Nat}{x:Str}{p:Pos}{es:List Expr}(h1:MG X (.Name x p) i)(h2:FGs X H0 es is)
    (hs:(assignEach (.Name x p::es) X.env).map (·.2)=assign (.Name x p) X.env::(assignEach es X.env).map (·.2):=by rfl):FGs X H0 (.Name x p::es) (i::is):=by
 refine ⟨?_⟩;intro pins s σ H vs us Q I r h;refine pq h1.go h2.go hs pins s σ H vs us Q I r ?_;obtain ⟨Hs,Hf,fp,ρ,ds,ts,O,F,R,n,p⟩:=h
 cases R with
 |nil=>exact p.elim
 |cons a b=>
  rename_i v d vs ds;unfold eR at p;split at p
  ·exact p.elim
  ·rename_i hi
   refine ⟨v,vs,rfl,?_⟩;obtain ⟨fp',O',fp2,pm,sl⟩:=Own.put (.fz a.asF d.asF_tag) O (i:=(tds ts).length+i) (by rw[List.length_append];omega);rw[eA,fZ,<- fY ts,eA] at O';exact ⟨Hs,Hf,fp',_,ds,ts,O',(F.subl sl).perm (by simpa using pm),b,n.set fun d' e=>by cases e;rw[d.asF_tag];decide,p⟩
theorem nZ{es:List Expr}{k:Nat}{is:List Nat}(hc:X.calm=true)(h:FGs X H0 es is)(hn:(assignEach es X.env).length=is.length:=by rfl)(hst:(assignEach es X.env).findIdx? (·.1)=none:=by rfl):FG X H0 (.Tuple es k pos) (gp is):=by
 refine ⟨PG.pre (sI hc h.go hn hst) ?_⟩;rintro v σ H Q ⟨Hs,ρ,d,ts,S,t,n,p⟩;unfold gp at p;split at p
 ·rename_i ds
  obtain ⟨Hf,fp,O,F⟩:=S
  cases O with
  |brw z h r=>exact absurd z t
  |cons h r=>
   cases h with
   |fz h z=>
    cases h with
    |tup h q=>
     refine ⟨_,_,rfl,SqT.of (F.fh _ _ h),?_,Hs,Hf,_,ρ,ds,ts,r,F.subl (List.sublist_append_right _ _),q,n,p⟩;rw[q.length];have:∀ (is:List Nat) (ds:List D) (ρ:ac) {Ex:Value->Prop} {k:ac->Prop},Post Ex (eR is ds ρ) k->ds.length=is.length:=by
      intro is;induction is with
      |nil=>intro ds ρ Ex k h;cases ds with | nil=>rfl | cons a b=>exact h.elim
      |cons i is ih=>
       intro ds ρ Ex k h
       cases ds with
       |nil=>exact h.elim
       |cons a b=>
        unfold eR at h;split at h
        ·exact h.elim
        ·simp[ih b _ h]
     exact this is ds ρ p
 ·exact p.elim
theorem tK{K:PySem.W.Frag}{B:Hp}{a:Addr}{us:List V}{ds:List D}(h:B a=some (.lst us))(R:Reps B us ds)(t:∀ e∈ds,e.tag=.f):df (Itl K a) B ds:=by
 intro H s i;have hl:=R.length;refine ⟨fun d hd=>?_,fun hi=>⟨us,SqL.of (s _ _ h),by omega⟩⟩;obtain ⟨u,hu,ru⟩:=R.get hd;refine ⟨⟨us,u,SqL.of (s _ _ h),hu⟩,fun x H' ⟨e,y⟩=>⟨t d (List.mem_of_getElem? hd),.inl ⟨e,?_⟩⟩⟩;have:=y us (SqL.of (s _ _ h));rw[hu] at this
 cases this
 exact ru
def aI(lo:Int)(n:Nat):List D:=(List.range n).map fun (i:Nat)=>D.int (lo+(i:Int))
theorem tL{lo:Int}{n:Nat}{B:Hp}:df (Itr lo n) B (aI lo n):=by
 intro H s i;refine ⟨fun d hd=>?_,fun hi=>(show n<=i from Nat.le_of_eq (by simpa [aI] using hi.symm))⟩;simp only[aI,List.getElem?_map] at hd
 cases e:(List.range n)[i]? with
 |none=>rw[e] at hd;cases hd
 |some j=>
  rw[e] at hd;obtain ⟨h1,h2⟩:=List.getElem?_eq_some_iff.mp e;simp at h1 h2;subst h2;have hd:D.int (lo+(i:Int))=d:=Option.some.inj hd;subst hd;exact ⟨h1,fun x H' ⟨e1,e2⟩=>⟨rfl,.inl ⟨e1,by rw[e2];exact .int⟩⟩⟩
def b4(fa:ac->Res (List D)):ac->Res (List D):=fun ρ=>fa ρ >>= fun es=>match es with
 | [.int j]=>if decide (-(2 ^ 62)<=j)&&decide (j<2 ^ 62) then .ok (aI 0 j.toNat) else .bad
 |_=>.bad
theorem cS{a:Expr}{p:Pos}{fa:ac->Res (List D)}(hg:Gl X "range")(hm:X.mg "range" = none)(ha:FA X H0 Ex [a] fa)(hs:starEach [a] X.env=[(false,eval a X.env)]:=by rfl):FI X H0 Ex tg (.Call (.Name "range" p) [a] [] pos) (b4 fa):=by
 refine ⟨PI.pre (nK hg hm ha.go hs) ?_⟩;rintro σ H R ⟨Hs,ρ,ts,S,p⟩;refine ⟨Hs,ρ,ts,S,(Post.bind p).imp fun es _ p1 us H1 hl S1=>?_⟩;split at p1
 ·rename_i j _
  split at p1
  ·rename_i hc
   simp at hc;obtain ⟨u,rfl⟩:∃ u,us=[u]:=by
    cases us with
    |nil=>simp at hl
    |cons u r=>cases r with | nil=>exact ⟨u,rfl⟩ | cons _ _=>simp at hl
   have S2:=SX.held hl S1;simp[hv,hd] at S2
   cases SR.isInt S2
   obtain ⟨Hf,fp,O,F⟩:=S2.drop;exact ⟨j,rfl,by omega,by omega,p1 _ H1 Hf fp tL O F⟩
  ·exact p1.elim
 ·exact p1.elim
def bM(gt:D->ac->Res ac)(gb:ac->FOut):List D->ac->FOut
 | [],ρ=>.nx ρ
 |x::xs,ρ=>match gt x ρ with
  | .ok ρ1=>match gb ρ1 with
   | .nx ρ2=>bM gt gb xs ρ2
   | .ct ρ2=>bM gt gb xs ρ2
   | .bk ρ2=>.nx ρ2
   |r=>r
  |_=>.bad
def dW(fi:ac->Res (List D))(gt:D->ac->Res ac)(gb:ac->FOut):ac->FOut:=fun ρ=>aft (fi ρ) fun items=>bM gt gb items ρ
theorem SR.base{Hs H0 Hf H1 H:Hp}{fp:List Addr}{vs:List (Option V)}{ds:List (Option D)}(F:Fine Hs H0 Hf H1 fp)(S:SR Hf H0 H vs ds):SR Hs H0 H vs ds:=by
 obtain ⟨Hg,fq,O,G⟩:=S;refine ⟨Hg,fq,O,G.nd,G.own,G.fh,G.zh,F.sf.trans G.sf,fun a o e=>?_⟩;rcases G.new a o e with ⟨o',z⟩ | z
 ·exact F.new a o' z
 ·exact .inr z
theorem PostS.base{Hs H0 Hf H1:Hp}{fp:List Addr}(F:Fine Hs H0 Hf H1 fp){D:Ends}{r:FOut}(p:PostS Hs H0 Ex D r):PostS Hf H0 Ex D r:=by
 cases r with
 |nx ρ=>exact fun σ H S=>p σ H ⟨SR.base F S.1,S.2⟩
 |rt d=>exact fun v H S=>p v H (SR.base F S)
 |bk ρ=>exact fun σ H S=>p σ H ⟨SR.base F S.1,S.2⟩
 |ct ρ=>exact fun σ H S=>p σ H ⟨SR.base F S.1,S.2⟩
 |exc C=>exact p
 |bad=>exact p
theorem SR.re{Hs H0 Hf H:Hp}{fp:List Addr}{vs:List (Option V)}{ds:List (Option D)}(O:Own Hf H fp vs ds)(F:Fine Hs H0 Hf H fp):SR Hf H0 H vs ds:=
 ⟨Hf,fp,O,F.nd,F.own,F.fh,F.zh,Same.refl _,fun a o e=>.inl ⟨o,e⟩⟩
theorem SR.yl{B H0 H H':Hp}{vs:List (Option V)}{ds:List (Option D)}{x:V}{d:D}(S:SR B H0 H vs ds)(y:Yl B H x H' d):SR B H0 H' (some x::vs) (some d::ds):=by
 obtain ⟨t,y⟩:=y;obtain ⟨Hf,fp,O,F⟩:=S;rcases y with ⟨rfl,r⟩ | ⟨p,us,es,hp,rfl,rfl,rfl,R⟩
 ·exact ⟨Hf,[]++fp,.cons (.fz (r.mono F.sf) t) O,F⟩
 ·have sf:Same Hf (upd Hf p (.tup us)):=fun b o e=>by rw[aD (aY e (F.fresh hp).1)];exact e
  exact SR.laidF O F hp (.tup bc ((R.mono F.sf).mono sf)) rfl
theorem f8{body:List Stmt}{fi:ac->Res (List D)}{gt:D->ac->Res ac}{gb:ac->FOut}(hp:Po X)(hc:X.calm=true)(hi:FI X H0 Ex tg iter fi)(hg:FG X H0 tg gt)(hb:FSs X H0 Ex body gb)
    (hs:∀ x,foldedSetIterable iter X.env x=pure x:=by intro _;rfl):FS X H0 Ex (.For tg iter body [] pos) (dW fi gt gb):=by
 refine ⟨PS.pre (sM hp.go hc hi.go hg.go hb.go hs) ?_⟩;rintro D σ H ⟨Hs,ρ,⟨S,n⟩,p⟩;refine ⟨Hs,ρ,[],S,(PostS.aft p).imp fun items _ p1 J H1 Hf fp ok O F=>?_⟩;have p2:=PostS.base F p1;refine ⟨fun i m σ H=>m=items.length - i/\i<=items.length/\∃ ρ',SS Hf H0 H σ ρ'/\PostS Hf H0 Ex D (bM gt gb (items.drop i) ρ'),⟨items.length,by simp,Nat.zero_le _,ρ,⟨SR.re O F,n⟩,by simpa using p2⟩,?_⟩
 rintro i m σ H ⟨rfl,hi,ρ',⟨S,n⟩,p⟩;have sH:Same Hf H:=let ⟨_,_,_,G⟩:=S;G.sf.trans G.fh;obtain ⟨h1,h2⟩:=ok H sH i;by_cases hlt:i<items.length
 ·have hd:items[i]?=some items[i]:=by simp[hlt]
  obtain ⟨go,yl⟩:=h1 _ hd;have hdrop:items.drop i=items[i]::items.drop (i+1):=List.drop_eq_getElem_cons hlt;rw[hdrop] at p;unfold bM at p;refine .inr ⟨go,fun σ' H'=>∃ ρ2,SS Hf H0 H' σ' ρ2/\PostS Hf H0 Ex D (bM gt gb (items.drop (i+1)) ρ2),fun σ' H' ⟨ρ2,S2,q2⟩=>⟨items.length - (i+1),by omega,rfl,hlt,ρ2,S2,q2⟩,fun x H' y=>?_⟩;have S':=SR.yl S (yl x H' y)
  have t:items[i].tag≠.b:=by rw[(yl x H' y).1];decide
  refine ⟨Hf,ρ',items[i],[],S',t,n,?_⟩
  cases e:gt items[i] ρ' with
  |exc C=>rw[e] at p;exact p.elim
  |bad=>rw[e] at p;exact p.elim
  |ok ρ1=>
   rw[e] at p;intro σ1 S1 n1;refine ⟨Hf,ρ1,⟨S1,n1⟩,?_⟩;dsimp only at p
   cases e2:gb ρ1 with
   |nx ρ2=>rw[e2] at p;exact fun σ2 H2 S2=>⟨ρ2,S2,p⟩
   |ct ρ2=>rw[e2] at p;exact fun σ2 H2 S2=>⟨ρ2,S2,p⟩
   |bk ρ2=>rw[e2] at p;exact p
   |rt d=>rw[e2] at p;exact p
   |exc C=>rw[e2] at p;exact p
   |bad=>rw[e2] at p;exact p
 ·have e:i=items.length:=by omega
  subst e;rw[List.drop_length] at p;exact .inl ⟨h2 rfl,p σ H ⟨S,n⟩⟩
end
structure FTs (X:Cx) (H0:Hp) (ifs:List Expr) (ft:ac->Res Bool):Prop where
 go:∀ (pins:List (Addr × Obj)) (s:Shared) (σ:St) (H:Hp) (Q:Bool->Hp->Prop),Inv X pins σ H s->TTF H0 (fun _=>False) ft σ H Q →
 wpAny (model X.prog X.w) X.A (forIn ifs true fun c r=>if r=true then do let ok <- isTrue c X.env (eval c X.env);pure (ForInStep.yield ok) else pure (ForInStep.yield r)) (TP X pins σ Q) X.xe s
def aO:ac->Res Bool:=fun _=>.ok true
theorem cy{X:Cx}:FTs X H0 [] aO:=by
 refine ⟨?_⟩;intro pins s σ H Q I h;obtain ⟨Hs,ρ,ts,S,p⟩:=h;exact wpAny_tests_nil ⟨H,I,p H S⟩
def bp(gt:D->ac->Res ac)(ft:ac->Res Bool)(fe:ac->Res D):List D->ac->List D->Res (List D)
 | [],_,acc=>.ok acc
 |x::xs,ρ,acc=>gt x ρ >>= fun ρ1=>ft ρ1 >>= fun b=>if b=true then fe ρ1 >>= fun d=>if d.tag=.b\/sizeLine<=acc.length then .bad else bp gt ft fe xs ρ1 (acc++[d]) else bp gt ft fe xs ρ1 acc
def aL(ρ:ac)(j:Nat):Option D:=match ρ[j]? with
 |some (some d)=>if d.tag=.f then some d else none
 |_=>none
def aT(own:Nat)(cap:List Nat)(fi:ac->Res (List D))(gt:D->ac->Res ac)(ft:ac->Res Bool)(fe:ac->Res D):ac->Res D:=fun ρ=>
 fi ρ >>= fun items=>match bp gt ft fe items (List.replicate own none++cap.map (aL ρ)) [] with
  | .ok ds=>.ok (.lst .o ds)
  |_=>.bad
theorem fJ{Hf H:Hp}{vs:List (Option V)}{ds:List (Option D)}{fp:List Addr}(O:Own Hf H fp vs ds):∀ (n:Nat) (cap:List Nat) (k:Nat),(∀ j∈cap,True) →
    Own Hf H [] (List.replicate n none++cap.map fun j=>(vs[k+j]?).join) (List.replicate n none++cap.map fun j=>aL (ds.drop k) j)
 | 0,[],_,_=>.nil
 | 0,j::cap,k,h=>by
  have ih:=fJ O 0 cap k fun _ _=>trivial;simp only[List.replicate_zero,List.nil_append,List.map_cons] at ih ⊢;unfold aL;rw[List.getElem?_drop];split
  ·rename_i d hd
   split
   ·rename_i t
    obtain ⟨v,hv,r⟩:=O.getV hd;rw[hv]
    cases r with
    |fz r _=>exact Own.cons (fp:=[]) (.fz r t) ih
    |lst z _ _=>exact absurd t z
    |dic z _ _=>exact absurd t z
    |ins z _ _=>exact absurd t z
    |slf _ _=>cases t
   ·exact .skip ih
  ·exact .skip ih
 |n+1,cap,k,h=>by
  rw[List.replicate_succ,List.replicate_succ];exact .skip (fJ O n cap k h)
section
variable {elt target iter:Expr}{ifs:List Expr}{scope:Scope}{pos:Pos}{gt:D->ac->Res ac}{ft:ac->Res Bool}{fe:ac->Res D}
theorem n6{Xc:Cx}(hc:Xc.calm=true)(hx:Xc.xe=fun _ _=>False)(iG:FG Xc Xc.H₀ target gt)(iT:FTs Xc Xc.H₀ ifs ft)(iE:FE Xc Xc.H₀ (fun _=>False) elt fe){J:It}{fpi:List Addr}{it:Addr}{tn:Nat->Heap->Prop}
    (T:Turn Xc.prog Xc.w Xc.K target J fpi it tn) (stat:∀ {H':Hp},(∀ b∈fpi,H' b=none)->∀ b∈fpi,cQ Xc [] H' b) {items:List D} {B:Hp} (ok:df J B items) {out:List D} {Da:Addr} {R:Result->Shared->Prop}
    {σ0:St} {H1:Hp} {s1:Shared} {ρ0:ac} (I0:Inv Xc [] σ0 H1 s1) (st:tn 0 s1.heap) (fr:∀ b∈fpi,H1 b=none) (S0:SR B Xc.H₀ H1 (some (.ref Da)::σ0) (some (.lst .o [])::ρ0)) (n0:noB ρ0) (ho:bp gt ft fe items ρ0 []=.ok out)
    (hR:∀ σ' H' s',Inv Xc [] σ' H' s'->SR B Xc.H₀ H' [some (.ref Da)] [some (.lst .o out)]->R (.ok .next) s') :
    codeAny (model Xc.prog Xc.w) Xc.A (.compLoop (.ListComp elt [⟨target,iter,ifs,0⟩] scope pos) 0 (.ref it) (.ref Da) Xc.env) R s1:=by
 refine nW (fun n s'=>∃ i σ' H' ρ' acc,n=items.length - i/\i<=items.length/\Inv Xc [] σ' H' s'/\tn i s'.heap/\(∀ b∈fpi,H' b=none)/\SR B Xc.H₀ H' (some (.ref Da)::σ') (some (.lst .o acc)::ρ')/\noB ρ'/\bp gt ft fe (items.drop i) ρ' acc=.ok out)
  ?_ items.length ⟨0,σ0,H1,ρ0,[],by simp,Nat.zero_le _,I0,st,fr,S0,n0,by simpa using ho⟩
 rintro n s2 ⟨i,σ2,H2,ρ2,acc,rfl,hi,I2,st2,fr2,S2,n2,e2⟩;have sB:Same B H2:=let ⟨_,_,_,G⟩:=S2;G.sf.trans G.fh;obtain ⟨h1,h2⟩:=ok H2 sB i;by_cases hlt:i<items.length
 ·have hd:items[i]?=some items[i]:=by simp[hlt]
  obtain ⟨go,yl⟩:=h1 _ hd;have hdrop:items.drop i=items[i]::items.drop (i+1):=List.drop_eq_getElem_cons hlt;rw[hdrop] at e2;unfold bp at e2;refine thn (T.item Xc rfl rfl rfl hc i [] s2 σ2 H2 (fun _ _=>False) I2 (stat fr2) st2 go) fun r s3 ⟨u,hr,h3⟩=>?_;subst hr;refine thn h3 fun _ s4 ⟨x,H4,I4,r4,y4,st4,fr4⟩=>?_;have Y:=yl x H4 y4
  have S4:SX B Xc.H₀ H4 [(x,items[i]),(.ref Da,.lst .o acc)] σ2 ρ2:=SR.yl S2 Y;have t4:items[i].tag≠.b:=by rw[Y.1];decide
  have I4':=I4.pinned (stat fr4) (T.obj _ _ st4)
  cases eg:gt items[i] ρ2 with
  |exc C=>rw[eg] at e2;cases e2
  |bad=>rw[eg] at e2;cases e2
  |ok ρ3=>
   rw[eg] at e2;have e2:(ft ρ3 >>= fun b=>if b=true then fe ρ3 >>= fun d=>if d.tag=.b\/sizeLine<=acc.length then .bad else bp gt ft fe (items.drop (i+1)) ρ3 (acc++[d]) else bp gt ft fe (items.drop (i+1)) ρ3 acc)=.ok out:=e2
   have again:∀ {σ7:St} {H7:Hp} {s7:Shared} {ρ7:ac} {acc':List D},Inv Xc ([]++fW fpi s4.heap) σ7 H7 s7->SR B Xc.H₀ H7 (some (.ref Da)::σ7) (some (.lst .o acc')::ρ7)->noB ρ7->bp gt ft fe (items.drop (i+1)) ρ7 acc'=.ok out →
       ∃ m,m<items.length - i/\∃ i σ' H' ρ' acc,m=items.length - i/\i<=items.length/\Inv Xc [] σ' H' s7/\tn i s7.heap/\(∀ b∈fpi,H' b=none)/\SR B Xc.H₀ H' (some (.ref Da)::σ') (some (.lst .o acc)::ρ')/\noB ρ'/\bp gt ft fe (items.drop i) ρ' acc=.ok out:=fun {σ7 H7 s7 ρ7 acc'} I7 S7 n7 e7=>by
    refine ⟨items.length - (i+1),by omega,i+1,σ7,H7,ρ7,acc',rfl,hlt,I7.unpinned,T.keep _ _ _ st4 fun b hb o e=>(I7.pin (b,o) (List.mem_append_right _ (List.mem_append_right _ (cY hb e)))).1,fun b hb=>?_,S7,n7,e7⟩;obtain ⟨o,e,d⟩:=T.obj _ _ st4 b hb;exact (I7.pin (b,o) (List.mem_append_right _ (List.mem_append_right _ (cY hb e)))).2.1
   refine wpAny_mono (iG.go _ s4 σ2 H4 x u (fun σ' H'=>SX B Xc.H₀ H' [(.ref Da,.lst .o acc)] σ' ρ3/\noB ρ3) I4' r4 ⟨B,ρ2,items[i],[(.ref Da,.lst .o acc)],S4,t4,n2,by rw[eg];exact fun σ' S' n'=>⟨S',n'⟩⟩) (fun _ s5 ⟨σ5,H5,I5,S5,n5⟩=>?_) (fun _ _ z=>by rw[hx] at z;exact z)
   cases eb:ft ρ3 with
   |exc C=>rw[eb] at e2;cases e2
   |bad=>rw[eb] at e2;cases e2
   |ok b=>
    rw[eb] at e2;refine wpAny_mono (iT.go _ s5 σ5 H5 (fun b' H'=>b'=b/\SX B Xc.H₀ H' [(.ref Da,.lst .o acc)] σ5 ρ3) I5 ⟨B,ρ3,[(.ref Da,.lst .o acc)],S5,by rw[eb];exact fun H' S'=>⟨rfl,S'⟩⟩) (fun b' s6 ⟨H6,I6,hb,S6⟩=>?_) (fun _ _ z=>by rw[hx] at z;exact z);subst hb
    cases b' with
    |false=>
     have e2:bp gt ft fe (items.drop (i+1)) ρ3 acc=.ok out:=e2;rw[if_neg Bool.false_ne_true];exact again I6 S6 n5 e2
    |true=>
     have e2:(fe ρ3 >>= fun d=>if d.tag=.b\/sizeLine<=acc.length then .bad else bp gt ft fe (items.drop (i+1)) ρ3 (acc++[d]))=.ok out:=e2;rw[if_pos rfl]
     cases ed:fe ρ3 with
     |exc C=>rw[ed] at e2;cases e2
     |bad=>rw[ed] at e2;cases e2
     |ok d=>
      rw[ed] at e2;have e2:(if d.tag=.b\/sizeLine<=acc.length then .bad else bp gt ft fe (items.drop (i+1)) ρ3 (acc++[d]))=Res.ok out:=e2;split at e2
      ·cases e2
      ·rename_i hcd
       refine wpAny_mono (iE.go _ s6 σ5 H6 (fun v H'=>SX B Xc.H₀ H' [(v,d),(.ref Da,.lst .o acc)] σ5 ρ3) I6 ⟨B,ρ3,[(.ref Da,.lst .o acc)],S6,by rw[ed];exact fun v H' S'=>S'⟩) (fun uv s7 ⟨v,H7,I7,r7,S7⟩=>?_) (fun _ _ z=>by rw[hx] at z;exact z);have nn:noB (some (.lst .o acc)::ρ3):=fun d' m=>by
        rcases List.mem_cons.mp m with e | m
        ·cases e;exact fun z=>nomatch z
        ·exact n5 d' m
       obtain ⟨p,us,hp,hH,hl,S8⟩:=SR.append (vs:=some (.ref Da)::σ5) (ds:=some (.lst .o acc)::ρ3) S7 (fun z=>hcd (.inl z)) nn (i:=0) (xs:=acc) rfl;have hp:p=Da:=by simpa using hp.symm
       subst hp;refine wpAny_mono (fH (X:=Xc) _ s7 σ5 H7 (.ref p) [v] (.ref p) [uv] (fun _ H'=>H'=upd H7 p (.lst (us++[v]))) I7 rfl (.cons r7 .nil) ⟨p,us,v,rfl,rfl,hH,by rw[hl];omega,rfl⟩) (fun _ s8 ⟨_,H8,I8,_,e8⟩=>?_) (fun _ _ z=>by rw[hx] at z;exact z);subst e8;exact again I8 S8 n5 e2
 ·have e:i=items.length:=by omega
  subst e;rw[List.drop_length] at e2;have e2:Res.ok acc=.ok out:=e2
  cases e2
  refine thn (T.done Xc rfl rfl rfl hc _ [] s2 σ2 H2 (fun _ _=>False) I2 (stat fr2) st2 (h2 rfl)) fun r s3 ⟨hr,I3⟩=>?_;subst hr;exact hR σ2 H2 s3 I3 (SR.only (vs':=[]) (ds':=[]) S2)
end
section
variable {X:Cx}{Ex:Value->Prop}{H0:Hp}{elt target iter:Expr}{ifs:List Expr}{scope:Scope}{pos:Pos}{own:List Str}{cap:List (Str × Nat)}
theorem jp{pins:List (Addr × Obj)}{σ:St}{H Hf Hs:Hp}{s:Shared}{fp:List Addr}{ρ:ac}{ts:List (V × D)}{items:List D}{gt:D->ac->Res ac}{ft:ac->Res Bool}{fe:ac->Res D}{it:Addr}{fpi:List Addr}{tn:Nat->Heap->Prop}{J:It}
    (hc:X.calm=true) (CS:CompScope X scope own cap)
    (inner:∀ C cells s0 H0 ex pn,(own++cap.map (·.1)).Nodup->FG (bf X scope (own++cap.map (·.1)) C cells s0 H0 ex pn) H0 target gt/\FTs (bf X scope (own++cap.map (·.1)) C cells s0 H0 ex pn) H0 ifs ft/\FE (bf X scope (own++cap.map (·.1)) C cells s0 H0 ex pn) H0 (fun _=>False) elt fe)
    (I:Inv X pins σ H s) (T:Turn X.prog X.w X.K target J fpi it tn) (st:tn 0 s.heap) (hf:∀ b∈fpi,cQ X pins H b) (ok:df J Hf items)
    (O:Own Hf H fp (tvs ts++σ) (tds ts++ρ)) (F:Fine Hs H0 Hf H fp) {out:List D} (ho:bp gt ft fe items (List.replicate own.length none++cap.map fun p=>aL ρ p.2) []=.ok out)
    {RR:Value->Addr->Result->Shared->Prop}
    (hRR:∀ D C s' H' m,s'.heap.Ns C m->s.heap.objs.size<=C->(∀ h'',Heap.SameBut C s'.heap h''->Inv X pins σ H' { s' with heap:=h'' }/\H' C=none)->SR Hf H H' [some (.ref D)] [some (.lst .o out)]->RR (.ref D) C (.ok .next) s') :
    wpAny (model X.prog X.w) X.A (newList []) (fun acc s₃=>wpAny (model X.prog X.w) X.A (newFunctionEnv scope X.env.globals (dE X.env.cells scope.names []) [] X.env.qual none .none (some X.env)) (fun cenv s₄=>
     codeAny (model X.prog X.w) X.A (.compStart (.ListComp elt [⟨target,iter,ifs,0⟩] scope pos) 0 (.ref it) acc { cenv with scope:=relabel scope X.env }) (RR acc cenv.locals) s₄) X.xe s₃) X.xe s:=by
 have hfr:H s.heap.objs.size=none:=I.hok.fresh (Nat.le_refl _);refine wpAny_newObj_type ?_ (by show ([]:List Value).toArray.size<=sizeLine;simp);have I3:Inv X pins σ (upd H s.heap.objs.size (.lst [])) { s with heap:=s.heap.push { cls:=.type "list", dict:=none,data:=.seq ([]:List Value).toArray } }:=
  I.laid (t':=s.toks) (fun b u e=>Heap.get?_push_of_some _ e) (Nat.le_refl _) ⟨Nat.zero_le _,[],0,.nil,Heap.get?_push_size _ rfl⟩
 have kp3:∀ b o,s.heap.get? b=some o->(s.heap.push { cls:=.type "list", dict:=none,data:=.seq ([]:List Value).toArray }).get? b=some o:=fun b o e=>Heap.get?_push_of_some _ e;have hsz3:(s.heap.push { cls:=.type "list", dict:=none,data:=.seq ([]:List Value).toArray }).objs.size=s.heap.objs.size+1:=Heap.size_push ..
 generalize s.heap.push { cls:=.type "list", dict:=none,data:=.seq ([]:List Value).toArray }=h3 at I3 kp3 hsz3 ⊢;have hle:s.heap.objs.size<=h3.objs.size:=by rw[hsz3];exact Nat.le_succ _
 refine iK (s:={ s with heap:=h3 }) fun h' ns kp cl ap=>?_;have he:∀ b∈fpi,∃ o,s.heap.get? b=some o:=fun b hb=>let ⟨o,e,_⟩:=T.obj 0 _ st b hb;⟨o,e⟩;have u3:Un (frs X.stack) fpi H (upd H s.heap.objs.size (.lst [])) s.heap h3:=Un.laid kp3 (Nat.le_refl _) hfr;have IC:=lm I I3 kp3 CS u3 hf he ns kp cl ap (by omega)
 obtain ⟨iG,iT,iE⟩:=inner h3.objs.size (bU X scope h3.objs.size) s H fpi (X.pn++pins) CS.ndN;have fpC:∀ {H':Hp},(∀ b∈fpi,H' b=none)->∀ b∈fpi,cQ (bf X scope (own++cap.map (·.1)) h3.objs.size (bU X scope h3.objs.size) s H fpi (X.pn++pins)) [] H' b:=fun {H'} hn b hb=>by
  obtain ⟨o,e⟩:=he b hb;refine ⟨hn b hb,?_,?_,.inl hb,fun x c hx z=>?_,fun p hp z=>?_⟩
  ·exact Nat.ne_of_lt (Nat.lt_of_lt_of_le (Heap.lt_size e) hle)
  ·show b∉frs X.stack
   intro m;rcases List.mem_cons.mp (I.stkSub b m) with z | z
   ·exact (hf b hb).2.1 z
   ·exact (hf b hb).2.2.1 z
  ·have hx:(bU X scope h3.objs.size).lookup x=some c:=hx
   subst z;rcases bz I CS hx with ⟨m1,k1⟩ | ⟨k1,c1⟩
   ·exact absurd (Nat.lt_of_lt_of_le (Heap.lt_size e) hle) (Nat.not_lt.mpr (Nat.le_of_succ_le (cl x c m1).2))
   ·exact (hf c hb).2.2.2.2.1 x c c1 rfl
  ·have hp:p∈(X.pn++pins)++[]:=hp
   rw[List.append_nil] at hp;exact (hf b hb).2.2.2.2.2 p hp z
 have st':tn 0 h':=T.keep _ _ _ (T.keep _ _ _ st fun b _ o e=>kp3 b o e) fun b _ o e=>kp b o e;have fr':∀ b∈fpi,upd H s.heap.objs.size (.lst []) b=none:=fun b hb=>by
  obtain ⟨o,e⟩:=he b hb;rw[aD (Nat.ne_of_lt (Heap.lt_size e))];exact (hf b hb).1
 have O0:=fJ O own.length (cap.map (·.2)) (tds ts).length fun _ _=>trivial;have F0:Fine Hf H Hf H []:=⟨List.nodup_nil,fun _ m=>by simp at m,F.fh,Same.refl _,Same.refl _,fun a o e=>.inl ⟨o,e⟩⟩
 have S0:SR Hf H (upd H s.heap.objs.size (.lst [])) (some (.ref s.heap.objs.size)::(List.replicate own.length none++cap.map fun p=>(σ[p.2]?).join)) (some (.lst .o [])::(List.replicate own.length none++cap.map fun p=>aL ρ p.2)):=by
  refine SR.laidL (us:=[]) (es:=[]) ?_ F0 .nil (fun _ m=>by simp at m) hfr;rw[List.map_map,List.map_map] at O0;have e1:(fun j=>((tvs ts++σ)[(tds ts).length+j]?).join) ∘ (fun (p:Str × Nat)=>p.2)=fun p=>(σ[p.2]?).join:=by
   funext p;show ((tvs ts++σ)[(tds ts).length+p.2]?).join=_;rw[fZ,<- fY ts,gn]
  have e2:(fun j=>aL ((tds ts++ρ).drop (tds ts).length) j) ∘ (fun (p:Str × Nat)=>p.2)=fun p=>aL ρ p.2:=by
   funext p;show aL ((tds ts++ρ).drop (tds ts).length) p.2=_;rw[List.drop_left]
  rw[e1,e2] at O0;exact O0
 have n0:noB (List.replicate own.length none++cap.map fun p=>aL ρ p.2):=fun d m=>by
  rcases List.mem_append.mp m with m | m
  ·rw[List.mem_replicate] at m;cases m.2
  ·obtain ⟨p,_,e⟩:=List.mem_map.mp m
   unfold aL at e;split at e
   ·split at e
    ·rename_i t;cases e;rw[t];decide
    ·cases e
   ·cases e
 have loop:=n6 (Xc:=bf X scope (own++cap.map (·.1)) h3.objs.size (bU X scope h3.objs.size) s H fpi (X.pn++pins)) (elt:=elt) (target:=target) (iter:=iter) (ifs:=ifs) (scope:=scope) (pos:=pos) hc rfl iG iT iE T fpC ok IC st' fr' S0 n0 ho
  (R:=RR (.ref s.heap.objs.size) h3.objs.size) (fun σ' H' s' I' S'=>?_)
 ·exact codeAny_compStart_list loop (T.self X.A 0 _ _ _ st' loop)
 ·obtain ⟨m,hn,_⟩:=I'.loc
  have hC:H' h3.objs.size=none:=I'.free;refine hRR _ _ s' H' m hn hle (fun h'' sb=>⟨?_,hC⟩) S';have un:Un (frs X.stack) fpi H H' s.heap s'.heap:=I'.base;have hos:s'.os=s.os:=I'.os;have un2:Un (frs X.stack) fpi H H' s.heap h'':=by
   have hne:∀ b o,s.heap.get? b=some o->b≠h3.objs.size:=fun b o e=>Nat.ne_of_lt (Nat.lt_of_lt_of_le (Heap.lt_size e) hle);refine ⟨fun b o e n hb hx=>(sb.2 b (hne b o e)).trans (un.keep b o e n hb hx),fun b o e n hb hx=>?_,un.free,fun b o e hx=>?_,un.tups,un.frzs,un.tbls⟩
   ·obtain ⟨sl,q⟩:=un.slot b o e n hb hx
    exact ⟨sl,(sb.2 b (hne b o e)).trans q⟩
   ·obtain ⟨o',q⟩:=un.there b o e hx
    exact ⟨o',(sb.2 b (hne b o e)).trans q⟩
  have hok:HOk X.prog X.w H' h'':=fun b u e=>by
   refine (I'.hok b u e).stay (fun c v hc q=>(sb.2 c ?_).trans q) (fun _ q=>q) fun _ _ q=>q;rintro rfl;rcases hc with rfl | hc
   ·rw[hC] at e;cases e
   ·rw[hC] at hc;cases hc
  exact I.call' (s':={ s' with heap:=h'' }) (ch:=fpi) hos un2 hok I'.bare fun b hb=>⟨(hf b hb).2.2.2.1,(hf b hb).2.1,(hf b hb).2.2.2.2.1,(hf b hb).2.2.2.2.2⟩
theorem dX{fi:ac->Res (List D)}{gt:D->ac->Res ac}{ft:ac->Res Bool}{fe:ac->Res D}(hc:X.calm=true)(CS:CompScope X scope own cap)(hi:FI X H0 Ex target iter fi)
    (inner:∀ C cells s0 H0 ex pn,(own++cap.map (·.1)).Nodup->FG (bf X scope (own++cap.map (·.1)) C cells s0 H0 ex pn) H0 target gt/\FTs (bf X scope (own++cap.map (·.1)) C cells s0 H0 ex pn) H0 ifs ft/\FE (bf X scope (own++cap.map (·.1)) C cells s0 H0 ex pn) H0 (fun _=>False) elt fe)
    (hs:∀ x,foldedSetIterable iter X.env x=pure x:=by intro _;rfl):FE X H0 Ex (.ListComp elt [⟨target,iter,ifs,0⟩] scope pos) (aT own.length (cap.map (·.2)) fi gt ft fe):=by
 refine ⟨?_⟩;intro pins s σ H Q I h;obtain ⟨Hs,ρ,ts,S,p⟩:=h;rw[eval_ListComp];refine wpAny_comprehension_free (use:=none) rfl hs (dF fun x hx hk=>I.ok.has x.1 (CS.free x hx hk)) CS.kind (fun x hx hl=>by rw[<- hl];exact cx CS.nd hx) ?_
 refine thn (hi.go pins s σ H (fun J H'=>∃ Hf fp items,df J Hf items/\Own Hf H' fp (tvs ts++σ) (tds ts++ρ)/\Fine Hs H0 Hf H' fp/\∃ out,bp gt ft fe items (List.replicate own.length none++cap.map fun p=>aL ρ p.2) []=.ok out/\∀ v H',SX Hs H0 H' ((v,.lst .o out)::ts) σ ρ->Q v H') I ⟨Hs,ρ,ts,S,?_⟩) fun xv s1 h1=>thn h1 fun itv s2 h2=>?_
 ·unfold aT at p
  refine (Post.bind p).imp fun items _ p1 J H' Hf fp ok O F=>?_;rw[List.map_map] at p1
  cases e:bp gt ft fe items (List.replicate own.length none++cap.map fun p=>aL ρ p.2) [] with
  |ok out=>
   have e':bp gt ft fe items (List.replicate own.length none++cap.map (aL ρ ∘ fun p=>p.2)) []=.ok out:=e;rw[e'] at p1;exact ⟨Hf,fp,items,ok,O,F,out,e,p1⟩
  |exc C=>
   have e':bp gt ft fe items (List.replicate own.length none++cap.map (aL ρ ∘ fun p=>p.2)) []=.exc C:=e;rw[e'] at p1;exact p1.elim
  |bad=>
   have e':bp gt ft fe items (List.replicate own.length none++cap.map (aL ρ ∘ fun p=>p.2)) []=.bad:=e;rw[e'] at p1;exact p1.elim
 ·obtain ⟨it,fpi,tn,J,H2,rfl,I2,T,st,hf,Hf,fp,items,ok,O,F,out,ho,k⟩:=h2
  refine jp (RR:=fun acc C=>compPost (model X.prog X.w) X.A X.xe none (EP X pins σ Q) acc C) hc CS inner I2 T st hf ok O F ho ?_;intro Da C s' H' m hn hC hI S';refine ⟨m,hn,fun h'' sb=>?_⟩;exact ⟨.ref Da,H',(hI h'' sb).1,rfl,k _ H' (SR.told O F S' (fun z=>nomatch z))⟩
end
section
variable {X:Cx}{Ex:Value->Prop}{H0:Hp}{elt target iter:Expr}{ifs:List Expr}{scope:Scope}{pos:Pos}{own:List Str}{cap:List (Str × Nat)}
theorem gr{i:Nat}{x:Str}{px pc:Pos}{fi:ac->Res (List D)}{gt:D->ac->Res ac}{ft:ac->Res Bool}{fe:ac->Res D}(hN:X.N.Nodup)(hi':X.N[i]?=some x)(hx:Loc X.env.scope x)(hc:X.calm=true)(CS:CompScope X scope own cap)(hi:FI X H0 Ex target iter fi)
    (inner:∀ C cells s0 H0 ex pn,(own++cap.map (·.1)).Nodup->FG (bf X scope (own++cap.map (·.1)) C cells s0 H0 ex pn) H0 target gt/\FTs (bf X scope (own++cap.map (·.1)) C cells s0 H0 ex pn) H0 ifs ft/\FE (bf X scope (own++cap.map (·.1)) C cells s0 H0 ex pn) H0 (fun _=>False) elt fe)
    (hsw:swapsWith (.ListComp elt [⟨target,iter,ifs,0⟩] scope pc) (some (.Name x px)) pos.line X.env=pure true:=by rfl)
    (hf:X.fn x=true\/X.env.scope.names.lookup x=some .local:=by first | exact .inl rfl | exact .inr rfl | assumption)
    (hs:∀ x,foldedSetIterable iter X.env x=pure x:=by intro _;rfl):FS X H0 Ex (.Assign [.Name x px] (.ListComp elt [⟨target,iter,ifs,0⟩] scope pc) pos) (aE i (aT own.length (cap.map (·.2)) fi gt ft fe)):=by
 refine ⟨?_⟩;intro pins s σ H En I h;obtain ⟨Hs,ρ,⟨S,n⟩,p⟩:=h;rw[exec_Assign_Name_used _ _ _ _ hsw];refine wpAny_bind (wpAny_standAt (wpAny_bind ?_));show wpAny _ X.A (do let _ <- comprehension (.ListComp elt [⟨target,iter,ifs,0⟩] scope pc) scope X.env _ (newList []) false (eval iter X.env) (some (assign (.Name x px) X.env))) _ _ s
 refine wpAny_bind (wpAny_mono (wpAny_comprehension_free (use:=some (assign (.Name x px) X.env)) (Q:=fun _ s'=>SP X pins En .next s') rfl hs (dF fun x hx hk=>I.ok.has x.1 (CS.free x hx hk)) CS.kind (fun x hx hl=>by rw[<- hl];exact cx CS.nd hx) ?_) (fun _ s' hq=>wpAny_pure (wpAny_pure hq)) fun _ _ e=>e);have p:=PostS.aft p
 refine thn (hi.go pins s σ H (fun J H'=>∃ Hf fp items,df J Hf items/\Own Hf H' fp σ ρ/\Fine Hs H0 Hf H' fp/\i<ρ.length/\∃ out,bp gt ft fe items (List.replicate own.length none++cap.map fun p=>aL ρ p.2) []=.ok out/\∀ σ' H',SS Hs H0 H' σ' (ρ.set i (some (.lst .o out)))->En.nx σ' H') I ⟨Hs,ρ,[],S,?_⟩) fun xv s1 h1=>thn h1 fun itv s2 h2=>?_
 ·unfold aT at p
  refine (Post.bind p).imp fun items _ p1 J H' Hf fp ok O F=>?_;rw[List.map_map] at p1
  cases e:bp gt ft fe items (List.replicate own.length none++cap.map fun p=>aL ρ p.2) [] with
  |ok out=>
   have e':bp gt ft fe items (List.replicate own.length none++cap.map (aL ρ ∘ fun p=>p.2)) []=.ok out:=e;rw[e'] at p1;have p1:PostS Hs H0 Ex En (if (D.lst .o out).tag=.b\/ρ.length<=i then .bad else .nx (ρ.set i (some (.lst .o out)))):=p1;split at p1
   ·exact p1.elim
   ·rename_i hcc
    refine ⟨Hf,fp,items,ok,O,F,?_,out,e,p1⟩;by_cases hl:ρ.length<=i
    ·exact absurd (.inr hl) hcc
    ·omega
  |exc C=>
   have e':bp gt ft fe items (List.replicate own.length none++cap.map (aL ρ ∘ fun p=>p.2)) []=.exc C:=e;rw[e'] at p1;exact p1.elim
  |bad=>
   have e':bp gt ft fe items (List.replicate own.length none++cap.map (aL ρ ∘ fun p=>p.2)) []=.bad:=e;rw[e'] at p1;exact p1.elim
 ·obtain ⟨it,fpi,tn,J,H2,rfl,I2,T,st,hf2,Hf,fp,items,ok,O,F,hil,out,ho,k⟩:=h2
  refine jp (ts:=[]) (RR:=fun acc C=>compPost (model X.prog X.w) X.A X.xe (some (assign (.Name x px) X.env)) (fun _ s'=>SP X pins En .next s') acc C) hc CS inner I2 T st hf2 ok O F ho ?_;intro Da C s' H' m hn hC hI S';have I':Inv X pins σ H' s':=(hI s'.heap (Heap.SameBut.refl ..)).1;have hHC:H' C=none:=(hI s'.heap (Heap.SameBut.refl ..)).2
  have S'':SX Hs H0 H' [(.ref Da,.lst .o out)] σ ρ:=SR.told O F S' (fun z=>nomatch z);have hCL:C≠X.env.locals:=Nat.ne_of_gt (Nat.lt_of_lt_of_le I2.lt hC);have hCc:∀ y c,X.env.cells.lookup y=some c->c≠C:=fun y c e=>by
   obtain ⟨v,q⟩:=I2.cell y c e;exact Nat.ne_of_lt (Nat.lt_of_lt_of_le q.lt hC)
  show wpAny (model X.prog X.w) X.A (assign (.Name x px) X.env (.ref Da)) _ X.xe s';refine wpAny_assign_Name (gP (v:=.ref Da) I' hN hi' hx rfl (fun s3 I3 ⟨a,sb,ha⟩=>?_) hf);have hCa:C≠a:=by
   rcases ha with ha | ha
   ·rw[ha];exact hCL
   ·exact (hCc x a ha).symm
  refine ⟨m,hn.sameBut sb hCa,fun h'' sb2=>?_⟩;refine ⟨_,H',I3.turned (t':=s3.toks) (it:=C) (fun b o hb e=>(sb2.2 b hb).trans e) hHC hCL (.inr (Nat.le_trans I2.sz hC)) hCc (fun p hp=>?_),k _ H' (SR.set0 S'' (fun z=>nomatch z) n hil)⟩;exact Nat.ne_of_lt (Nat.lt_of_lt_of_le (Heap.lt_size (I2.pin p hp).1) hC)
theorem pK{st:Stmt}{g:ac->FOut}(i:Nat)(h:FS X H0 Ex st g):FS X H0 Ex st (fun ρ=>match g ρ with | .nx ρ'=>.nx (frzAt i ρ') | r=>r):=by
 refine ⟨PS.pre h.go ?_⟩;rintro En σ H ⟨Hs,ρ,S,p⟩;refine ⟨Hs,ρ,S,?_⟩;dsimp only at p
 cases e:g ρ with
 |nx ρ'=>rw[e] at p;exact fun σ' H' S'=>p σ' H' (S'.1.frzAt S'.2 i)
 |rt d=>rw[e] at p;exact p
 |bk ρ'=>rw[e] at p;exact p
 |ct ρ'=>rw[e] at p;exact p
 |exc C=>rw[e] at p;exact p
 |bad=>rw[e] at p;exact p
theorem ii{st:Stmt}{f:ac->Res D}{i:Nat}(h:FS X H0 Ex st (aE i f)):FS X H0 Ex st (aE i (fFz f)):=by
 have h1:=pK i h;have:(fun ρ=>match aE i f ρ with | .nx ρ'=>.nx (frzAt i ρ') | r=>r)=aE i (fFz f):=by
  funext ρ;unfold aE fFz
  cases f ρ with
  |bad=>rfl
  |exc C=>rfl
  |ok d=>
   show (match (if d.tag=.b\/ρ.length<=i then FOut.bad else .nx (ρ.set i (some d))) with | .nx ρ'=>.nx (frzAt i ρ') | r=>r)=aft (if d.tag=.b then .bad else .ok d.fz) _;by_cases hb:d.tag=.b
   ·rw[if_pos (.inl hb),if_pos hb];rfl
   ·rw[if_neg hb]
    show _=(if d.fz.tag=.b\/ρ.length<=i then FOut.bad else .nx (ρ.set i (some d.fz)));by_cases hl:ρ.length<=i
    ·rw[if_pos (.inr hl),if_pos (.inr hl)]
    ·rw[if_neg (fun z=>z.elim hb hl),if_neg (fun z=>z.elim (by rw[d.fz_tag];decide) hl)]
     show FOut.nx (frzAt i (ρ.set i (some d)))=_;unfold frzAt;rw[List.getElem?_set_self (by omega)];show FOut.nx ((List.set ρ i (some d)).set i (some d.fz))=_;rw[List.set_set]
 rw[this] at h1;exact h1
end
def spF(n:Nat)(F:List D->Res D):Sp:=fun vs H Q E=>∃ Hs ds,ds.length=n/\Same Hs H/\Reps Hs vs ds/\(∀ d∈ds,d.tag=.f)/\match F ds with
 | .ok d=>∀ v H',SR Hs H H' [some v] [some d]->Q v H'
 | .exc C=>∀ H',Same H H'->E C none H'
 | .bad=>False
def cZ(F:List D->Res D)(es:List D):Res D:=match F (D.fzs es) with
 | .ok d=>if (nb es=true/\d.tag≠.b)\/d.atom=true then .ok d else .bad
 |r=>r
theorem SR.allRep{Hs H0 H:Hp}{vs:List (Option V)}{ds:List (Option D)}:∀ {us:List V} {es:List D},us.length=es.length->SR Hs H0 H (hv us++vs) (hd es++ds)->Reps H us es:=by
 intro us;induction us using List.reverseRecOn' with
 |nil=>intro es hl S;cases es with | nil=>exact .nil | cons a b=>simp at hl
 |snoc us u ih=>
  intro es hl S
  cases es using List.reverseRecOn' with
  |nil=>simp at hl
  |snoc es e=>
   rw[jW,jX] at S;exact (ih (by simpa using hl) S.drop).append (.cons S.head .nil)
theorem pL{H H':Hp}{v:V}{d:D}(h:Rep H v d)(a:d.atom=true):Rep H' v d:=by
 cases h<;>first | exact .non | exact .bl | exact .int | exact .str | cases a
theorem pM{d:D}(a:d.atom=true):d.tag=.f:=by cases d<;>first | rfl | cases a
theorem ij(es:List D):(D.fzs es).length=es.length:=by rw[D.fzs_map,List.length_map]
section
variable {X:Cx}{Ex:Value->Prop}{H0:Hp}{CX:CXT}{k n:Nat}{f:Addr}{fd:FuncData}{ps:List Str}{F:List D->Res D}{x:Str}{p pos:Pos}{e:Expr}{es:List Expr}
abbrev Exk(H0:Hp)(Ex:Value->Prop):XK:=fun C _ H'=>Ex C/\Same H0 H'
theorem lq{us:List V}{ds:List D}{Hs H1:Hp}{ts:List (V × D)}{σ:St}{ρ:ac}{Q:VK}(hn:ds.length=n)(hl:us.length=ds.length)(S1:SX Hs H0 H1 (held us ds ts) σ ρ)(p1:Post Ex (cZ F ds) fun d=>∀ v H',SX Hs H0 H' ((v,d)::ts) σ ρ->Q v H') :
    spF n F us H1 Q (Exk H0 Ex):=by
 have S2:=SX.held hl S1;unfold cZ at p1
 cases eF:F (D.fzs ds) with
 |bad=>rw[eF] at p1;exact p1.elim
 |exc C=>
  rw[eF] at p1;exact ⟨H1,D.fzs ds,by rw[ij];exact hn,Same.refl _,(SR.allRep hl S2).fz,fX ds,by rw[eF];exact fun H' s=>⟨p1,S2.same.trans s⟩⟩
 |ok d=>
  rw[eF] at p1;have p1:Post Ex (if (nb ds=true/\d.tag≠.b)\/d.atom=true then Res.ok d else .bad) fun d=>∀ v H',SX Hs H0 H' ((v,d)::ts) σ ρ->Q v H':=p1;split at p1
  ·rename_i hc
   by_cases hb:nb ds=true/\d.tag≠.b
   ·obtain ⟨Hf,fp,O,G,R⟩:=S2.frozen hl (jm hb.1)
    exact ⟨Hf,D.fzs ds,by rw[ij];exact hn,G.fh,R,fX ds,by rw[eF];exact fun v H' S'=>p1 v H' (SR.told O G S' hb.2)⟩
   ·have ha:d.atom=true:=hc.resolve_left hb
    refine ⟨H1,D.fzs ds,by rw[ij];exact hn,Same.refl _,(SR.allRep hl S2).fz,fX ds,?_⟩;rw[eF];intro v H' S';have S3:SX Hs H0 H1 ts σ ρ:=by
     have:∀ (us:List V) (ds:List D),us.length=ds.length->SR Hs H0 H1 (hv us++(tvs ts++σ)) (hd ds++(tds ts++ρ))->SR Hs H0 H1 (tvs ts++σ) (tds ts++ρ):=by
      intro us;induction us using List.reverseRecOn' with
      |nil=>intro es hl S;cases es with | nil=>exact S | cons a b=>simp at hl
      |snoc us u ih=>
       intro es hl S
       cases es using List.reverseRecOn' with
       |nil=>simp at hl
       |snoc es e=>rw[jW,jX] at S;exact ih es (by simpa using hl) S.drop
     exact this us ds hl S2
    exact p1 v H' ((SR.grow S3 S'.same).atom (fun H=>pL S'.head ha) (pM ha))
  ·exact p1.elim
theorem rm{fa:ac->Res (List D)}(G:FnOk X.prog X.w X.K X.mg X.base CX k f fd ps (spF n F))(hr:Room k X.A)(hg:Gl X x)(hm:X.mg x=some (.ref f))(hk:PySem.W.keepIn X.K (.ref f)=true)(hb:Binds X.K fd ps [])(hx:et CX X (Exk H0 Ex))
    (ha:FA X H0 Ex (e::es) fa) (hn:(e::es).length=n) (hdb:(x == ("__debug__" : Str))=false:=by decide) (he:starEach (e::es) X.env=(false,eval e X.env)::starEach es X.env:=by rfl) (hpl:(backTo pos (starEach es X.env)).any (·.1)=false:=by rfl) :
    FE X H0 Ex (.Call (.Name x p) (e::es) [] pos) (fun ρ=>fa ρ >>= fun ds=>if ds.length=n then cZ F ds else .bad):=by
 refine ⟨PE.pre (mf (dvs:=[]) (E:=Exk H0 Ex) G hr hg hm hk hb .nil hx ha.go hdb he hpl) ?_⟩;rintro σ H Q ⟨Hs,ρ,ts,S,p⟩;refine ⟨Hs,ρ,ts,S,(Post.bind p).imp fun ds _ p1 us H1 hl S1=>?_⟩;split at p1
 ·rename_i hds
  rw[List.append_nil];exact lq hds hl S1 p1
 ·exact p1.elim
def aJ(N:Nat)(g:ac->FOut)(ds:List D):Res D:=match g (ds.map some++List.replicate (N - ds.length) none) with
 | .rt d=>.ok d
 | .nx _=>.ok .non
 | .exc C=>.exc C
 |_=>.bad
theorem dG{Hs H:Hp}:∀ {vs:List V} {ds:List D} (k:Nat),Reps Hs vs ds->(∀ d∈ds,d.tag=.f)->Own Hs H [] (vs.map some++List.replicate k none) (ds.map some++List.replicate k none)
 |_,_,0,.nil,_=>.nil
 |_,_,k+1,.nil,h=>.skip (dG k .nil h)
 |_,_,k,.cons r q,h=>Own.cons (fp:=[]) (.fz r (h _ List.mem_cons_self)) (dG k q fun d m=>h d (List.mem_cons_of_mem _ m))
theorem Fun.okX{P:Program}{w:World}{K:PySem.W.Frag}{mg:Str->Option Value}{base:Heap}{x qual:Str}{st:Stmt}{f:Addr}{fd:FuncData}{N ps:List Str}{k:Nat}{sp:Sp}(F:Fun K x qual st f fd)(S:FnScope N ps (am st))(len:∀ vs H Q E,sp vs H Q E->vs.length=ps.length)
    (hbody:∀ (cdv:Value) (A:Around) (outer:List Env) (s:Shared) (H:Hp) (vs:List V) (Q:VK) (E:XK),Room k (A.deeper (envOfC qual (am st) s.heap.objs.size f cdv))->sp vs H Q E →
     ∃ t,PSs (gl CX P w K mg base N qual (am st) f cdv A outer s H E) (bD st) t/\t { nx:=fun _ H'=>Q .non H',rt:=Q } (cN N vs) H):FnOk P w K mg base CX (k+1) f fd ps sp:=by
 obtain ⟨oc,od,kV,doc,pm,an,cdv,ct,osl,rfl,lk,hcd⟩:=F.ex;exact uY lk hcd S len fun A outer s H vs Q E hr hsp=>hbody cdv A outer s H vs Q E hr hsp
theorem mm{P:Program}{w:World}{K:PySem.W.Frag}{mg:Str->Option Value}{base:Heap}{x qual:Str}{st:Stmt}{f:Addr}{fd:FuncData}{N ps:List Str}{k:Nat}{F:List D->Res D}(U:Fun K x qual st f fd)(S:FnScope N ps (am st))
    (hbody:∀ (cdv:Value) (A:Around) (outer:List Env) (s:Shared) (H:Hp) (E:XK) (ds:List D),Room k (A.deeper (envOfC qual (am st) s.heap.objs.size f cdv))->ds.length=ps.length->(∀ C,F ds=.exc C->∀ H',Same H H'->E C none H') →
     ∃ g,FSs (gl CX P w K mg base N qual (am st) f cdv A outer s H E) H (fun C=>F ds=.exc C) (bD st) g/\F ds=aJ N.length g ds) :
    FnOk P w K mg base CX (k+1) f fd ps (spF ps.length F):=by
 refine Fun.okX U S (fun vs H Q E h=>?_) (fun cdv A outer s H vs Q E hr h=>?_)
 ·obtain ⟨Hs,ds,hl,_,R,_⟩:=h
  rw[R.length];exact hl
 ·obtain ⟨Hs,ds,hl,sH,R,ht,p⟩:=h
  obtain ⟨g,hg,eF⟩:=hbody cdv A outer s H E ds hr hl (fun C eC H' sh=>by rw[eC] at p;exact p H' sh);refine ⟨_,hg.go,Hs,ds.map some++List.replicate (N.length - ds.length) none,⟨⟨Hs,[],?_,List.nodup_nil,fun _ m=>by simp at m,sH,Same.refl _,Same.refl _,fun a o e=>.inl ⟨o,e⟩⟩,?_⟩,?_⟩
  ·have:=dG (Hs:=Hs) (H:=H) (N.length - ds.length) R ht
   unfold L2.cN;rw[R.length];exact this
  ·intro d m
   rcases List.mem_append.mp m with m | m
   ·obtain ⟨d',m',e⟩:=List.mem_map.mp m
    cases e
    rw[ht d m'];decide
   ·rw[List.mem_replicate] at m;cases m.2
  ·unfold aJ at eF
   cases eg:g (ds.map some++List.replicate (N.length - ds.length) none) with
   |rt d=>
    rw[eg] at eF;have eF:F ds=.ok d:=eF;rw[eF] at p;exact fun v H' S'=>p v H' S'
   |nx ρ'=>
    rw[eg] at eF;have eF:F ds=.ok .non:=eF;rw[eF] at p;refine fun σ' H' S'=>p .non H' ?_;exact SR.only (vs':=[]) (ds':=[]) S'.1.non
   |exc C=>rw[eg] at eF;exact eF
   |bk ρ'=>rw[eg] at eF;have eF:F ds=.bad:=eF;rw[eF] at p;exact p.elim
   |ct ρ'=>rw[eg] at eF;have eF:F ds=.bad:=eF;rw[eF] at p;exact p.elim
   |bad=>rw[eg] at eF;have eF:F ds=.bad:=eF;rw[eF] at p;exact p.elim
end
section
variable {X:Cx}{Ex:Value->Prop}{H0:Hp}{a b c e:Expr}{rest:List Expr}{f fa fb fc:ac->Res D}{ta tb:ac->Res Bool}{pos:Pos}
def asB:D->Res Bool
 | .bl b=>.ok b
 |_=>.bad
def ftB(f:ac->Res D):ac->Res Bool:=fun ρ=>f ρ >>= asB
theorem lr{d:D}{k:Bool->Prop}(p:Post Ex (asB d) k):∃ b,d=.bl b/\k b:=by
 cases d with
 |bl b=>exact ⟨b,rfl,p⟩
 |_=>exact p.elim
theorem jq(h:FE X H0 Ex e f)(he:∀ whole,isTrue e X.env whole=(do let v <- whole;standAt e.pos;holding [v] (truthy v)):=by intro _;rfl):FT X H0 Ex e (ftB f):=by
 refine ⟨PT.pre (sy h.go he) ?_⟩;rintro σ H Q ⟨Hs,ρ,ts,S,p⟩;refine ⟨Hs,ρ,ts,S,(Post.bind p).imp fun d _ p1 v H1 S1=>?_⟩;obtain ⟨b,rfl,k⟩:=lr p1;exact ⟨b,SR.isBl S1,k H1 S1.drop⟩
def ft2(g:D->D->Res D)(fa fb:ac->Res D):ac->Res Bool:=fun ρ=>f2 g fa fb ρ >>= asB
theorem bg{op:CmpOp}{g:D->D->Res D}(ho:FOp X (compareOp op) g)(hg:∀ x y,noX (g x y)=true)(ha:FE X H0 Ex a fa)(hb:FE X H0 Ex b fb)(hm:behindInMarks op b=false):FT X H0 Ex (.Compare a [op] [b] pos) (ft2 g fa fb):=by
 refine ⟨PT.pre (qW ho.go ha.go hb.go hm) ?_⟩;rintro σ H Q ⟨Hs,ρ,ts,S,p⟩;refine kY hg (op:=compareOp op) ⟨Hs,ρ,ts,S,(Post.bind p).imp fun d _ p1 v H1 S1=>?_⟩;obtain ⟨b,rfl,k⟩:=lr p1;exact ⟨b,SR.isBl S1,k H1 S1.drop⟩
def b8(t:ac->Res Bool):ac->Res Bool:=fun ρ=>t ρ >>= fun b=>.ok (!b)
theorem dk(h:FT X H0 Ex a ta):FT X H0 Ex (.UnaryOp .Not a pos) (b8 ta):=by
 refine ⟨PT.pre (sD h.go) ?_⟩;rintro σ H Q ⟨Hs,ρ,ts,S,p⟩;exact ⟨Hs,ρ,ts,S,(Post.bind p).imp fun b _ p1 H1 S1=>p1 H1 S1⟩
structure FW (X:Cx) (H0:Hp) (Ex:Value->Prop) (e:Expr) (f:ac->Res Bool):Prop where
 go:PW X e (TTF H0 Ex f)
theorem PW.pre{t t':TT}(h:PW X e t)(i:∀ σ H Q,t' σ H Q->t σ H Q):PW X e t':=fun wh pins s σ H Q I q=>h wh pins s σ H Q I (i σ H Q q)
theorem FW.ft(h:FW X H0 Ex e ta):FT X H0 Ex e ta:=⟨PW.pt h.go⟩
theorem mn(h:FT X H0 Ex a ta):FW X H0 Ex (.BoolOp .And [a] pos) ta:=⟨qP h.go⟩
theorem n8(h:FT X H0 Ex a ta):FW X H0 Ex (.BoolOp .Or [a] pos) ta:=⟨sA h.go⟩
def jr(s t:ac->Res Bool):ac->Res Bool:=fun ρ=>s ρ >>= fun b=>if b=true then t ρ else .ok false
def j0(s t:ac->Res Bool):ac->Res Bool:=fun ρ=>s ρ >>= fun b=>if b=true then .ok true else t ρ
theorem n9(ha:FT X H0 Ex a ta)(hb:FW X H0 Ex (.BoolOp .And (b::rest) pos) tb):FW X H0 Ex (.BoolOp .And (a::b::rest) pos) (jr ta tb):=by
 refine ⟨PW.pre (sC ha.go hb.go) ?_⟩;rintro σ H Q ⟨Hs,ρ,ts,S,p⟩;refine ⟨Hs,ρ,ts,S,(Post.bind p).imp fun b _ p1 H1 S1=>?_⟩
 cases b with
 |true=>rw[if_pos rfl] at p1 ⊢;exact ⟨Hs,ρ,ts,S1,p1⟩
 |false=>rw[if_neg Bool.false_ne_true] at p1 ⊢;exact p1 H1 S1
theorem mW(ha:FT X H0 Ex a ta)(hb:FW X H0 Ex (.BoolOp .Or (b::rest) pos) tb):FW X H0 Ex (.BoolOp .Or (a::b::rest) pos) (j0 ta tb):=by
 refine ⟨PW.pre (uJ ha.go hb.go) ?_⟩;rintro σ H Q ⟨Hs,ρ,ts,S,p⟩;refine ⟨Hs,ρ,ts,S,(Post.bind p).imp fun b _ p1 H1 S1=>?_⟩
 cases b with
 |true=>rw[if_pos rfl] at p1 ⊢;exact p1 H1 S1
 |false=>rw[if_neg Bool.false_ne_true] at p1 ⊢;exact ⟨Hs,ρ,ts,S1,p1⟩
def mX(s t:ac->Res D):ac->Res D:=fun ρ=>s ρ >>= fun d=>asB d >>= fun b=>if b=true then t ρ else .ok (.bl false)
theorem tM{op}(h:FE X H0 Ex a f):FE X H0 Ex (.BoolOp op [a] pos) f:=⟨sE h.go⟩
theorem pN{d:D}{α:Type}{g:Bool->Res α}{k:α->Prop}(p:Post Ex (asB d >>= g) k):∃ b,d=.bl b/\Post Ex (g b) k:=by
 cases d with
 |bl b=>exact ⟨b,rfl,p⟩
 |_=>exact p.elim
theorem tN(ha:FE X H0 Ex a fa)(hb:FE X H0 Ex (.BoolOp .And (b::rest) pos) fb):FE X H0 Ex (.BoolOp .And (a::b::rest) pos) (mX fa fb):=by
 refine ⟨PE.pre (sF ha.go hb.go) ?_⟩;rintro σ H Q ⟨Hs,ρ,ts,S,p⟩;refine ⟨Hs,ρ,ts,S,(Post.bind p).imp fun d _ p1 v H1 S1=>?_⟩;obtain ⟨b,rfl,k⟩:=pN p1;refine ⟨b,SR.isBl S1,?_⟩
 cases b with
 |true=>rw[if_pos rfl] at k ⊢;exact ⟨Hs,ρ,ts,S1.drop,k⟩
 |false=>rw[if_neg Bool.false_ne_true] at k ⊢;exact k _ H1 S1.drop.bl
def fIf(t:ac->Res Bool)(f g:ac->Res D):ac->Res D:=fun ρ=>t ρ >>= fun b=>if b=true then f ρ else g ρ
theorem pO(hc:FT X H0 Ex c ta)(ha:FE X H0 Ex a fa)(hb:FE X H0 Ex b fb):FE X H0 Ex (.IfExp c a b pos) (fIf ta fa fb):=by
 refine ⟨PE.pre (pj hc.go ha.go hb.go) ?_⟩;rintro σ H Q ⟨Hs,ρ,ts,S,p⟩;refine ⟨Hs,ρ,ts,S,(Post.bind p).imp fun b _ p1 H1 S1=>?_⟩
 cases b with
 |true=>rw[if_pos rfl] at p1 ⊢;exact ⟨Hs,ρ,ts,S1,p1⟩
 |false=>rw[if_neg Bool.false_ne_true] at p1 ⊢;exact ⟨Hs,ρ,ts,S1,p1⟩
def gu:D->Res D
 | .int i=>.ok (.int (-i))
 |_=>.bad
def f1(g:D->Res D)(fa:ac->Res D):ac->Res D:=fun ρ=>fa ρ >>= g
theorem js(ha:FE X H0 Ex a fa):FE X H0 Ex (.UnaryOp .USub a pos) (f1 gu fa):=by
 refine ⟨PE.pre (uR sS ha.go) ?_⟩;rintro σ H Q ⟨Hs,ρ,ts,S,p⟩;refine ⟨Hs,ρ,ts,S,(Post.bind p).imp fun d _ p1 v H1 S1=>?_⟩
 cases d with
 |int i=>exact ⟨i,SR.isInt S1,p1 _ H1 S1.drop.int⟩
 |_=>exact p1.elim
theorem dH{us:List V}{es:List D}{d:D}(hl:us.length=es.length)(h:es=[d]):∃ u,us=[u]:=by
 subst h
 cases us with
 |nil=>simp at hl
 |cons u r=>cases r with | nil=>exact ⟨u,rfl⟩ | cons _ _=>simp at hl
theorem lu{us:List V}{es:List D}{d d':D}(hl:us.length=es.length)(h:es=[d,d']):∃ u w,us=[u,w]:=by
 subst h
 cases us with
 |nil=>simp at hl
 |cons u r=>cases r with | nil=>simp at hl | cons w r=>cases r with | nil=>exact ⟨u,w,rfl⟩ | cons _ _=>simp at hl
def bq:List D->Res D
 | [.lst _ xs]=>.ok (.int xs.length)
 | [.tup xs]=>.ok (.int xs.length)
 | [.str z]=>if z.length<=sizeLine then .ok (.int z.length) else .bad
 | [.scr ns]=>.ok (.int ns.length)
 |_=>.bad
theorem bC:∀ es,noX (bq es)=true:=by
 intro es;unfold bq;split<;>first | rfl | (split<;>rfl)
theorem cc:FCall X (.builtin "len") bq:=by
 refine ⟨CallR.pre (CallR.or lg lh) ?_⟩;rintro us H Q ⟨Hs,H0,vs,ds,es,d,hl,S,e,k⟩;unfold bq at e;split at e
 ·rename_i t xs
  obtain ⟨u,rfl⟩:=dH hl rfl
  cases e
  have S':SR Hs H0 H (some u::vs) (some (.lst t xs)::ds):=S;have hh:=S'.head
  cases hh with
  |lst q R=>exact .inl ⟨_,_,rfl,.inl (SqL.of q),by rw[R.length];exact k _ H S'.drop.int⟩
 ·rename_i xs
  obtain ⟨u,rfl⟩:=dH hl rfl
  cases e
  have S':SR Hs H0 H (some u::vs) (some (.tup xs)::ds):=S;have hh:=S'.head
  cases hh with
  |tup q R=>exact .inl ⟨_,_,rfl,.inr (SqT.of q),by rw[R.length];exact k _ H S'.drop.int⟩
 ·rename_i z
  obtain ⟨u,rfl⟩:=dH hl rfl;split at e
  ·rename_i hz
   cases e
   have S':SR Hs H0 H (some u::vs) (some (.str z)::ds):=S
   cases SR.isStr S'
   exact .inr ⟨z,rfl,hz,k _ H S'.drop.int⟩
  ·cases e
 ·rename_i ns
  obtain ⟨u,rfl⟩:=dH hl rfl
  cases e
  have S':SR Hs H0 H (some u::vs) (some (.scr ns)::ds):=S;have hh:=S'.head
  cases hh with
  |scr q=>exact .inl ⟨_,_,rfl,.inl (.inl (.inr ⟨_,q⟩)),by rw[List.length_map];exact k _ H S'.drop.int⟩
 ·cases e
def bF:List D->Res D
 | [d]=>match d.its with
  |some ys=>.ok (.lst .o ys)
  |none=>.bad
 |_=>.bad
theorem cD:∀ es,noX (bF es)=true:=by
 intro es;unfold bF;split
 ·split<;>rfl
 ·rfl
theorem dy:FCall X (.type "list") bF:=by
 refine ⟨CallR.pre li ?_⟩;rintro us H Q ⟨Hs,H0,vs,ds,es,d,hl,S,e,k⟩;unfold bF at e;split at e
 ·rename_i d1
  split at e
  ·rename_i ys hy
   cases e
   obtain ⟨u,rfl⟩:=dH hl rfl;have S':SR Hs H0 H (some u::vs) (some d1::ds):=S;obtain ⟨a,us,rfl,ha,Hf,fp,O,F,R⟩:=S'.items hy;refine ⟨a,us,rfl,?_,fun l hl=>k _ _ (SR.laidL O F R (D.its_tag hy) hl)⟩
   cases hi:d1.isL with
   |true=>rw[hi] at ha;exact .inl (SqL.of ha)
   |false=>rw[hi] at ha;exact .inr (SqT.of ha)
  ·cases e
 ·cases e
theorem cT{T:String}{x:Str}{p:Pos}{es:List Expr}{g:List D->Res D}{fa:ac->Res (List D)}(hc:FCall X (.type T) g)(hn:∀ es,noX (g es)=true)(hg:Gl X x)(hm:X.mg x=none)(hv:bootBuiltins x=some (.type T))(ha:FA X H0 Ex (e::es) fa)
    (hn':x ≠ "__name__" := by decide) (hdb:(x == ("__debug__" : Str))=false:=by decide) (h1:starEach (e::es) X.env=(false,eval e X.env)::starEach es X.env:=by rfl) (h2:(backTo pos (starEach es X.env)).any (·.1)=false:=by rfl):FE X H0 Ex (.Call (.Name x p) (e::es) [] pos) (fCB g fa):=
 ⟨PE.pre (kn hc.go hg hm hv ha.go hn' hdb h1 h2) fun _ _ _ h=>nU hn h⟩
def gv:List D->Res D
 | [.int i,.int j]=>.ok (.int (if j<i then j else i))
 |_=>.bad
theorem og:∀ es,noX (gv es)=true:=by intro es;unfold gv;split<;>rfl
theorem rn(hc:X.calm=true):FCall X (.builtin "min") gv:=by
 refine ⟨CallR.pre (nN hc) ?_⟩;rintro us H Q ⟨Hs,H0,vs,ds,es,d,hl,S,e,k⟩;unfold gv at e;split at e
 ·rename_i i j
  cases e
  obtain ⟨u,w,rfl⟩:=lu hl rfl;have S':SR Hs H0 H (some w::some u::vs) (some (.int j)::some (.int i)::ds):=S
  cases SR.isInt S'
  cases SR.isInt S'.drop
  exact ⟨i,j,rfl,k _ H S'.drop.drop.int⟩
 ·cases e
def cU(neg:Bool):D->D->Res D:=fun x y=>match x,y with
 | .int i,.int j=>.ok (.bl (neg != decide (i=j)))
 | .str i,.str j=>.ok (.bl (neg != decide (i=j)))
 | .bl i,.bl j=>.ok (.bl (neg != decide (i=j)))
 |_,_=>.bad
theorem dr(n:Bool):∀ x y,noX (cU n x y)=true:=by intro x y;unfold cU;split<;>rfl
theorem tP:FOp X (compareOp .Eq) (cU false):=by
 refine ⟨OpR.pre uS ?_⟩;rintro x y H Q ⟨Hs,H0,vs,ds,d1,d2,d,S,e,k⟩;unfold cU at e;split at e
 ·rename_i i j
  cases e;cases SR.isInt S;cases SR.isInt S.drop
  refine ⟨rfl,?_⟩;have:decide (V.int i=V.int j)=(false != decide (i=j)):=by simp
  rw[this];exact k _ H S.drop.drop.bl
 ·rename_i i j
  cases e;cases SR.isStr S;cases SR.isStr S.drop
  refine ⟨rfl,?_⟩;have:decide (V.str i=V.str j)=(false != decide (i=j)):=by simp
  rw[this];exact k _ H S.drop.drop.bl
 ·rename_i i j
  cases e;cases SR.isBl S;cases SR.isBl S.drop
  refine ⟨rfl,?_⟩;have:decide (V.bl i=V.bl j)=(false != decide (i=j)):=by simp
  rw[this];exact k _ H S.drop.drop.bl
 ·cases e
theorem f9:FOp X (compareOp .NotEq) (cU true):=by
 refine ⟨OpR.pre uT ?_⟩;rintro x y H Q ⟨Hs,H0,vs,ds,d1,d2,d,S,e,k⟩;unfold cU at e;split at e
 ·rename_i i j
  cases e;cases SR.isInt S;cases SR.isInt S.drop
  refine ⟨rfl,?_⟩;have:(!decide (V.int i=V.int j))=(true != decide (i=j)):=by simp
  rw[this];exact k _ H S.drop.drop.bl
 ·rename_i i j
  cases e;cases SR.isStr S;cases SR.isStr S.drop
  refine ⟨rfl,?_⟩;have:(!decide (V.str i=V.str j))=(true != decide (i=j)):=by simp
  rw[this];exact k _ H S.drop.drop.bl
 ·rename_i i j
  cases e;cases SR.isBl S;cases SR.isBl S.drop
  refine ⟨rfl,?_⟩;have:(!decide (V.bl i=V.bl j))=(true != decide (i=j)):=by simp
  rw[this];exact k _ H S.drop.drop.bl
 ·cases e
theorem SR.recv{Hs H0 H:Hp}{σ:St}{ρ:ac}(S:SR Hs H0 H σ ρ){i:Nat}{t:Tg}{xs:List D}(e:ρ[i]?=some (some (.lst t xs))):∃ p us,σ[i]?=some (some (.ref p))/\H p=some (.lst us)/\us.length=xs.length:=by
 obtain ⟨v,hv,S'⟩:=S.get e;have h:=S'.head
 cases t with
 |f=>cases h with | lst q R=>exact ⟨_,_,hv,q,R.length⟩
 |o=>cases h with | lst q R=>exact ⟨_,_,hv,q,R.length⟩
 |b=>cases h with | lst q R=>exact ⟨_,_,hv,q,R.length⟩
def eU(i:Nat)(f:ac->Res D):ac->FOut:=fun ρ=>match ρ[i]? with
 |some (some (.lst .o xs))=>aft (f ρ) fun d=>if d.tag=.b\/sizeLine<=xs.length then .bad else .nx (ρ.set i (some (.lst .o (xs++[d]))))
 |_=>.bad
theorem oh{i:Nat}{x:Str}{p1 p2 p3:Pos}(hv:PV X (.Name x p1) i)(he:FE X H0 Ex e f)
    (hbase:attributeBase (.Name x p1) "append" X.env (eval (.Name x p1) X.env)=eval (.Name x p1) X.env:=by rfl)
    (hfew:((backTo p3 (starEach [e] X.env)).all (fun x=>!x.1)&&(backToKw p3 (keywordEach [] X.env)).all (fun x=>x.1.isSome)&&decide (([e]:List Expr).length+([]:List Keyword).length+(if ([]:List Keyword).isEmpty then 0 else 1)<30))=true:=by rfl)
    (hline:(p2.endLine == p3.line)=true:=by rfl) (hplain:(backTo p3 (starEach [] X.env)).any (·.1)=false:=by rfl) (hs1:starEach [e] X.env=(false,eval e X.env)::starEach [] X.env:=by rfl)
    (hsw:swapsWith (.Call (.Attribute (.Name x p1) "append" p2) [e] [] p3) none pos.line X.env=pure false:=by rfl) :
    FS X H0 Ex (.Expr (.Call (.Attribute (.Name x p1) "append" p2) [e] [] p3) pos) (eU i f):=by
 refine ⟨PS.pre (jU (jh PySem.F.plainAttrs_list PySem.F.slot_list_append PySem.F.type_list_append fH hv.go (cv he.go dj hs1) hbase hfew hline hs1 hplain) hsw) ?_⟩;rintro En σ H ⟨Hs,ρ,⟨S,n⟩,p⟩;unfold eU at p;split at p
 ·rename_i xs hx
  obtain ⟨q,us,hq,hH,hl⟩:=S.recv hx;refine ⟨.ref q,hq,.inl ⟨rfl,us,SqL.of hH⟩,Hs,ρ,[],S,(PostS.aft p).imp fun d _ p1 v H1 S1=>?_⟩;split at p1
  ·exact p1.elim
  ·rename_i hc
   have S1:SR Hs H0 H1 (some v::σ) (some d::ρ):=S1;obtain ⟨q',us',hq',hH',hl',S2⟩:=S1.append (fun z=>hc (.inl z)) n hx;rw[hq] at hq'
   cases hq'
   refine ⟨q,us',v,rfl,rfl,hH',?_,p1 σ _ ⟨S2,n.set fun d' z=>by cases z;exact fun y=>nomatch y⟩⟩;rw[hl'];exact Nat.lt_of_not_le fun z=>hc (.inr z)
 ·exact p.elim
end
def K2(h h':Heap):Prop:=∀ b o vs,h.get? b=some o->o.data=.fields vs->∃ o' vs',h'.get? b=some o'/\o'.data=.fields vs'/\vs'[2]?=vs[2]?
theorem K2.refl(h:Heap):K2 h h:=fun b o vs e d=>⟨o,vs,e,d,rfl⟩
theorem K2.trans{a b c:Heap}(x:K2 a b)(y:K2 b c):K2 a c:=fun q o vs e d=>by
 obtain ⟨o1,v1,e1,d1,r1⟩:=x q o vs e d;obtain ⟨o2,v2,e2,d2,r2⟩:=y q o1 v1 e1 d1;exact ⟨o2,v2,e2,d2,r2.trans r1⟩
def C2(f:Obj->Obj):Prop:=∀ o vs,o.data=.fields vs->∃ vs',(f o).data=.fields vs'/\vs'[2]?=vs[2]?
theorem K2.upd{h:Heap}{a:Addr}{f:Obj->Obj}(c:C2 f):K2 h (h.update a f):=fun b o vs e d=>by
 by_cases hb:b=a
 ·subst hb
  obtain ⟨v,dv,r⟩:=c o vs d;exact ⟨f o,v,Heap.get?_update_self f e (Obj.isFreed_of_fields dv),dv,r⟩
 ·exact ⟨o,vs,(Heap.get?_update_other h f (Ne.symm hb)).trans e,d,rfl⟩
theorem K2.push{h:Heap}(o:Obj):K2 h (h.push o):=fun b o' vs e d=>⟨o',vs,Heap.get?_push_of_some o e,d,rfl⟩
theorem oi{i:Nat}{v:Value}(hi:i≠2):C2 (Obj.mapFields (·.setIfInBounds i v)):=fun o vs d=>
 ⟨_,Obj.data_mapFields d _,Array.getElem?_setIfInBounds_ne hi⟩
theorem pP(g:Obj->Array (Option Value)):C2 (fun o=>{ o with slots:=g o }):=fun o vs d=>⟨vs,d,rfl⟩
def Fl{α:Type}:Sem α->Prop
 | .pure _ | .raise _ | .unsupported _ | .finish _=>True
 | .rule _ k | .at _ k | .point _ k=>Fl (k ())
 | .load _ _ k=>∀ o,Fl (k o)
 | .loadIfAlive _ k=>∀ o,Fl (k o)
 | .update _ _ f k=>C2 f/\Fl (k ())
 | .alloc _ k=>∀ a,Fl (k a)
 | .fresh k=>∀ a,Fl (k a)
 | .ask k=>∀ a,Fl (k a)
 | .handled _ k=>∀ a,Fl (k a)
 | .stack k=>∀ a,Fl (k a)
 | .thread k=>∀ a,Fl (k a)
 |_=>False
theorem Fl.bind{α β:Type}{f:α->Sem β}(hf:∀ a,Fl (f a)):∀ {m:Sem α},Fl m->Fl (m.bind f):=by
 intro m;induction m with
 |pure a=>intro _;exact hf a
 |raise e=>intro _;exact trivial
 |unsupported w=>intro _;exact trivial
 |finish e=>intro _;exact trivial
 |rule t k ih=>intro h;exact ih () h
 | «at» p k ih=>intro h;exact ih () h
 |point l k ih=>intro h;exact ih () h
 |load a p k ih=>intro h;exact fun o=>ih o (h o)
 |loadIfAlive a k ih=>intro h;exact fun o=>ih o (h o)
 |update a p g k ih=>intro h;exact ⟨h.1,ih () h.2⟩
 |alloc o k ih=>intro h;exact fun a=>ih a (h a)
 |fresh k ih=>intro h;exact fun a=>ih a (h a)
 |ask k ih=>intro h;exact fun a=>ih a (h a)
 |handled o k ih=>intro h;exact fun a=>ih a (h a)
 |stack k ih=>intro h;exact fun a=>ih a (h a)
 |thread k ih=>intro h;exact fun a=>ih a (h a)
 |_=>intro h;exact h.elim
theorem u7{α:Type}{M:Model}{Γ:PySem.Ctx}{Q:α->Pos->Shared->Prop}{E:Value->Pos->Shared->Prop}{h0:Heap}:∀ {t:Sem α} {p:Pos} {s:Shared},Fl t->K2 h0 s.heap->Sem.wp M Γ t Q E p s →
    Sem.wp M Γ t (fun a p s'=>Q a p s'/\K2 h0 s'.heap) (fun e p s'=>E e p s'/\K2 h0 s'.heap) p s:=by
 intro t;induction t with
 |pure a=>intro p s _ k w;exact ⟨w,k⟩
 |raise e=>intro p s _ k w;exact ⟨w,k⟩
 |unsupported w=>intro p s _ _ w;exact w
 |finish e=>intro p s _ _ w;exact w
 |rule t k ih=>intro p s f kk w;exact ih () f kk w
 | «at» p k ih=>intro p s f kk w;exact ih () f kk w
 |point l k ih=>intro p s f kk w;exact ih () f kk w
 |load a p k ih=>intro p s f kk w;obtain ⟨o,e,w⟩:=w;exact ⟨o,e,ih o (f o) kk w⟩
 |loadIfAlive a k ih=>intro p s f kk w;exact ih _ (f _) kk w
 |update a p g k ih=>intro p s f kk w;exact ⟨w.1,ih () f.2 (kk.trans (K2.upd f.1)) w.2⟩
 |alloc o k ih=>intro p s f kk w;exact ih _ (f _) (kk.trans (K2.push o)) w
 |fresh k ih=>intro p s f kk w;exact ih _ (f _) kk w
 |ask k ih=>intro p s f kk w;exact ih _ (f _) kk w
 |handled o k ih=>intro p s f kk w;exact ih _ (f _) kk w
 |stack k ih=>intro p s f kk w;exact ih _ (f _) kk w
 |thread k ih=>intro p s f kk w;exact ih _ (f _) kk w
 |_=>intro p s f;exact f.elim
theorem eZ{α:Type}{M:Model}{A:Around}{Q:α->Shared->Prop}{E:Value->Shared->Prop}{t:Sem α}{s:Shared}(f:Fl t)(h:wpAny M A t Q E s) :
    wpAny M A t (fun a s'=>Q a s'/\K2 s.heap s'.heap) (fun e s'=>E e s'/\K2 s.heap s'.heap) s:=fun Γ p hA=>u7 f (K2.refl _) (h Γ p hA)
theorem lW(v:Value):Fl (fieldsOf v):=by
 unfold fieldsOf
 cases v<;>first | exact trivial | (intro o;dsimp only[Sem.bind];split<;>exact trivial)
theorem gw(v:Value)(i:Nat):Fl (field v i):=by
 unfold field;refine Fl.bind (fun vs=>?_) (lW v);split<;>exact trivial
theorem fU(v:Value)(i:Nat)(u:Value)(hi:i≠2):Fl (setField v i u):=by
 unfold setField
 cases v<;>first | exact trivial | skip
 rename_i a;show Fl (updateField a i u);unfold updateField;intro o;dsimp only[Sem.bind];split
 ·split
  ·exact ⟨oi hi,trivial⟩
  ·exact trivial
 ·exact trivial
theorem e9(e:Value)(f:Option Addr):Fl (setFlight e f):=by
 unfold setFlight;refine Fl.bind (fun tb=>?_) (gw e 1);split
 ·exact fU _ 3 _ (by decide)
 ·exact trivial
theorem oj(env:Env)(outer:List Env):Fl (behindIsImport env outer):=by
 unfold behindIsImport;split
 ·exact trivial
 ·split
  ·exact trivial
  ·refine Fl.bind (fun x=>?_) (gw _ 12)
   exact trivial
theorem ro(env:Env)(b:Bool)(outer:List Env):Fl (keptBack env b outer):=by
 unfold keptBack;split
 ·split
  ·exact trivial
  ·intro st;exact trivial
 ·exact trivial
theorem pQ(l:List Env):Fl (readyFrames l):=by
 induction l with
 |nil=>unfold readyFrames;exact trivial
 |cons env outer ih=>
  unfold readyFrames;split
  ·rename_i f _
   intro o;dsimp only[Sem.bind];split
   ·exact trivial
   ·refine Fl.bind (fun b=>Fl.bind (fun v=>Fl.bind (fun _=>ih) ?_) (ro env b outer)) (oj env outer)
    exact ⟨pP _,trivial⟩
  ·exact trivial
theorem mY(env:Env):Fl (PySem.frameOf env):=by
 unfold PySem.frameOf;refine Fl.bind (fun l=>Fl.bind (fun r=>?_) ?_) (m:=frameEnvs) ?_
 ·split<;>exact trivial
 ·unfold frameObject
  split
  ·exact trivial
  ·refine Fl.bind (fun x=>?_) (pQ _)
   exact trivial
 ·intro st;exact trivial
theorem pR(f:Addr)(b:Bool):Fl (entryPlaceOf f b):=by
 unfold entryPlaceOf;intro st;dsimp only[Sem.bind];split<;>exact trivial
theorem pS(a b c d e:Value)(p:List Value):Fl (EntryCells.newEntry a b c d e p):=by
 unfold EntryCells.newEntry newFields newObj;dsimp only;unfold newObjAsIs;split<;>split<;>first | exact trivial | (intro o;exact trivial)
theorem j3(e:Value)(env:Env):Fl (noteFrame e env):=by
 unfold noteFrame;split
 ·rename_i f _
  refine Fl.bind (fun hd=>?_) (gw e 1);have tail:Fl (do let fr <- PySem.frameOf env;let pl <- entryPlaceOf f (hd != .none);let b <- EntryCells.newEntry hd fr .none (rawInt f) .none pl;setField e 1 b):=
   Fl.bind (fun fr=>Fl.bind (fun pl=>Fl.bind (fun b=>fU e 1 b (by decide)) (pS _ _ _ _ _ _)) (pR _ _)) (mY env)
  dsimp only;split
  ·refine Fl.bind (fun z=>?_) (gw hd 3)
   split
   ·exact trivial
   ·exact Fl.bind (fun _=>tail) (fU hd 3 _ (by decide))
  ·exact tail
 ·exact trivial
theorem gx(e:Value)(env:Env):Fl (leaving env e):=by
 unfold leaving;exact Fl.bind (fun _=>e9 e none) (j3 e env)
def c7(ns:List Int):List Int:=ns.mergeSort fun a b=>decide (a<=b)
theorem dI(ns:List Int):(c7 ns).Perm ns:=List.mergeSort_perm ns _
theorem gW(ns:List Int):(c7 ns).Pairwise (·<=·):=by
 have:=List.pairwise_mergeSort (le:=fun a b:Int=>decide (a<=b)) (fun a b c h1 h2=>by simp at *;omega) (fun a b=>by simp;omega) ns;exact this.imp fun h=>by simpa using h
def fg:List D->Option (List Int)
 | []=>some []
 | .int i::r=>(fg r).map (i::·)
 |_=>none
theorem iM:∀ {ds:List D} {ns:List Int},fg ds=some ns->ds=ns.map D.int
 | [],_,h=>by simp[fg] at h;subst h;rfl
 | .int i::r,ns,h=>by
  simp only[fg,Option.map_eq_some_iff] at h;obtain ⟨m,hm,rfl⟩:=h;rw[iM hm];rfl
 | .non::_,_,h | .bl _::_,_,h | .str _::_,_,h | .lst _ _::_,_,h | .tup _::_,_,h | .dic _ _::_,_,h | .ins _ _ _::_,_,h | .exc _::_,_,h | .scr _::_,_,h | .slf _ _ _::_,_,h=>by cases h
theorem mZ(ns:List Int):fg (ns.map D.int)=some ns:=by
 induction ns with
 |nil=>rfl
 |cons n ns ih=>simp[fg,ih]
theorem kv{H:Hp}:∀ {us:List V} {ns:List Int},Reps H us (ns.map D.int)->us=ns.map V.int
 |_,[],.nil=>rfl
 |_,n::ns,.cons h r=>by cases h;rw[kv r];rfl
theorem lv{H:Hp}(ns:List Int):Reps H (ns.map V.int) (ns.map D.int):=by
 induction ns with
 |nil=>exact .nil
 |cons n ns ih=>exact .cons .int ih
section
variable {X:Cx}{Ex:Value->Prop}{H0:Hp}{e:Expr}{pos:Pos}
theorem i6:CallR X (.builtin "sorted") (fun xs H Q=>∃ p ns,xs=[.ref p]/\SqL X.K H p (ns.map V.int)/\ns.length<64/\∀ l,H l=none->Q (.ref l) (upd H l (.lst ((c7 ns).map V.int)))):=by
 intro pins s σ H xs us Q I r h;obtain ⟨p,ns,rfl,hq,h64,q⟩:=h;obtain ⟨u,rfl,rx⟩:=jg r
 cases rx
 obtain ⟨its,rv,pl,hz⟩:=I.list hq;have hI:IntsAre its ns:=mS rv;have hl:=rv.length;rw[List.length_map] at hl hz;refine sorted_ints pl.isList hI (by omega) fun out ns' a1 a2 a3=>?_;have en:ns'=c7 ns:=PySem.W.ksm_same (a2.trans (dI ns).symm) a3 (gW ns);subst en;obtain ⟨e,he⟩:=sortedAll_at s.heap its out;have hfresh:H (s.heap.objs.size+1)=none:=I.hok.fresh (Nat.le_succ _)
 refine ⟨.ref (s.heap.objs.size+1),_,I.laid (t':=s.toks) (fun b o h=>sortedAll_old h) (Nat.le_succ _) (?_:ObjOk X.prog X.w _ _ _ (.lst ((c7 ns).map V.int))),rfl,q _ hfresh⟩;refine ⟨?_,out.toList,e,gS a1,he⟩;rw[List.length_map,(dI ns).length_eq];exact hz
def cF:List D->Res D
 | [d]=>match d.its with
  |some ys=>match fg ys with
   |some ns=>if d.isL=true/\ns.length<64 then .ok (.lst .o ((c7 ns).map D.int)) else .bad
   |none=>.bad
  |none=>.bad
 |_=>.bad
theorem lw:∀ es,noX (cF es)=true:=by
 intro es;unfold cF;split
 ·split
  ·split
   ·split<;>rfl
   ·rfl
  ·rfl
 ·rfl
theorem m4:FCall X (.builtin "sorted") cF:=by
 refine ⟨CallR.pre i6 ?_⟩;rintro us H Q ⟨Hs,H0,vs,ds,es,d,hl,S,e,k⟩;unfold cF at e;split at e
 ·rename_i d1
  split at e
  ·rename_i ys hy
   split at e
   ·rename_i ns hn
    split at e
    ·rename_i hc
     cases e
     obtain ⟨u,rfl⟩:=dH hl rfl;have S':SR Hs H0 H (some u::vs) (some d1::ds):=S;obtain ⟨a,us,rfl,ha,Hf,fp,O,F,R⟩:=S'.items hy;rw[hc.1] at ha;have hys:=iM hn;subst hys;have hus:=kv R;subst hus;exact ⟨a,ns,rfl,SqL.of ha,hc.2,fun l hl=>k _ _ (SR.laidL O F (lv _) (fun e m=>by obtain ⟨i,_,rfl⟩:=List.mem_map.mp m;rfl) hl)⟩
    ·cases e
   ·cases e
  ·cases e
 ·cases e
def u8(ta:TA):TE:=fun σ H Q=>ta σ H fun vs H1=>∃ j:Int,vs=[.int j]/\∀ p,H1 p=none->Q (.ref p) (upd H1 p (.rng 0 j))
theorem rp{a:Expr}{ta:TA}{p:Pos}(hg:Gl X "range")(hm:X.mg "range" = none)(ha:PA X [a] ta)(hs:starEach [a] X.env=[(false,eval a X.env)]:=by rfl):PE X (.Call (.Name "range" p) [a] [] pos) (u8 ta):=by
 intro pins s σ H Q I h;refine Call_ (eY I hg hm boot_range (PyProof.Rows.callWith_type1 (thn (ha pos pins s σ H _ I h) fun us s1 ⟨vs,H1,I1,r1,q1⟩=>?_) hs rfl));obtain ⟨j,e,q⟩:=q1;subst e
 cases r1 with
 |cons r rr=>
  cases rr
  obtain ⟨t,rfl⟩:=r;refine call_range_1 ⟨.ref s1.heap.objs.size,_,I1.laid (fun b o e=>Heap.get?_push_of_some _ e) (Nat.le_refl _) (?_:ObjOk X.prog X.w _ _ _ (.rng 0 j)),rfl,q _ (I1.hok.fresh (Nat.le_refl _))⟩;exact ⟨_,_,_,Heap.get?_push_size _ rfl⟩
theorem kP(hc:X.calm=true):CallR X (.type "list") (fun xs H Q=>∃ p lo hi,xs=[.ref p]/\H p=some (.rng lo hi)/\-(2 ^ 62)<=lo/\lo<2 ^ 62/\-(2 ^ 62)<=hi/\hi<2 ^ 62/\(hi - lo).toNat<=1000000/\∀ l,H l=none->Q (.ref l) (upd H l (.lst ((List.range (hi - lo).toNat).map fun (i:Nat)=>V.int (lo+(i:Int)))))):=by
 intro pins s σ H xs us Q I r h;obtain ⟨p,lo,hi,rfl,hp,h1,h2,h3,h4,h5,q⟩:=h;obtain ⟨u,rfl,rx⟩:=jg r
 cases rx
 obtain ⟨t,u,v,hr⟩:=I.hok p _ hp;have hn:Builtin.Range.rangeSize lo hi 1=((hi - lo).toNat:Nat):=by rw[rangeSize_one];split<;>omega
 refine call_list_range (n:=(hi - lo).toNat) (I.ok.hd hc) (show IsRange s.heap p lo hi 1 t u v from hr) (small_one h1 h2 h3 h4) hn (by omega) fun h' tk acc c' kp e hS=>?_;refine ⟨.ref s.heap.objs.size,_,I.laid kp (Nat.le_refl _) (?_:ObjOk X.prog X.w _ _ _ (.lst _)),rfl,q _ (I.hok.fresh (Nat.le_refl _))⟩;refine ⟨?_,acc.toList,c',?_,by simpa using e⟩
 ·rw[List.length_map,List.length_range,sizeLine_eq];omega
 ·obtain ⟨z1,z2⟩:=hS
  have go:∀ (n k:Nat) (l:List Value),l.length=n->(∀ j v,l[j]?=some v->∃ t,v=Value.int (lo+((k+j:Nat):Int)*1) t)->Vals ((List.range' k n).map fun (i:Nat)=>V.int (lo+(i:Int))) l:=by
   intro n;induction n with
   |zero=>intro k l hl _;cases l with | nil=>exact .nil | cons a b=>simp at hl
   |succ n ih=>
    intro k l hl hv
    cases l with
    |nil=>simp at hl
    |cons a b=>
     rw[List.range'_succ,List.map_cons];obtain ⟨t,ha⟩:=hv 0 a rfl;refine .cons ⟨t,by rw[ha];congr 1;simp⟩ (ih (k+1) b (by simpa using hl) fun j v hj=>?_);obtain ⟨t',hb⟩:=hv (j+1) v (by simpa using hj);exact ⟨t',by rw[hb,show k+(j+1)=k+1+j by omega]⟩
  have:=go (hi - lo).toNat 0 acc.toList (by simpa using z1) fun j v hj=>by
   obtain ⟨t,e⟩:=z2 j v (by simpa using hj);exact ⟨t,by rw[e,Nat.zero_add]⟩
  rw[List.range_eq_range'];exact this
def cL(fa:ac->Res (List D)):ac->Res D:=fun ρ=>b4 fa ρ >>= fun items=>if items.length<=1000000 then .ok (.lst .o items) else .bad
theorem m5{H:Hp}(lo:Int)(n:Nat):Reps H ((List.range n).map fun (i:Nat)=>V.int (lo+(i:Int))) (aI lo n):=by
 unfold aI;induction List.range n with
 |nil=>exact .nil
 |cons a b ih=>exact .cons .int ih
theorem kx{a:Expr}{p p' q q':Pos}{fa:ac->Res (List D)}(hc:X.calm=true)(hg:Gl X "range")(hm:X.mg "range" = none)(hgl:Gl X "list")(hml:X.mg "list" = none)(ha:FA X H0 Ex [a] fa)(hs:starEach [a] X.env=[(false,eval a X.env)]:=by rfl)
    (h1:starEach [.Call (.Name "range" p) [a] [] q] X.env=(false,eval (.Call (.Name "range" p) [a] [] q) X.env)::starEach [] X.env:=by rfl) (h2:(backTo q' (starEach [] X.env)).any (·.1)=false:=by rfl) :
    FE X H0 Ex (.Call (.Name "list" p') [.Call (.Name "range" p) [a] [] q] [] q') (cL fa):=by
 refine ⟨PE.pre (kn (kP hc) hgl hml (by decide +kernel) (cv (rp hg hm ha.go hs) dj h1) (by decide) (by decide) h1 h2) ?_⟩;rintro σ H Q ⟨Hs,ρ,ts,S,pp⟩;unfold cL b4 at pp;refine ⟨Hs,ρ,ts,S,(Post.bind (Post.bind pp)).imp fun es _ p1 us H1 hl S1=>?_⟩;split at p1
 ·rename_i j _
  split at p1
  ·rename_i hcc
   simp at hcc;have p1:Post Ex (if (aI 0 j.toNat).length<=1000000 then Res.ok (D.lst .o (aI 0 j.toNat)) else .bad) fun d=>∀ v H',SX Hs H0 H' ((v,d)::ts) σ ρ->Q v H':=p1;split at p1
   ·rename_i hlen
    obtain ⟨u,rfl⟩:=dH hl rfl;have S2:SR Hs H0 H1 (some u::(tvs ts++σ)) (some (.int j)::(tds ts++ρ)):=SX.held hl S1
    cases SR.isInt S2
    refine ⟨j,rfl,fun r hr=>?_⟩;have sm:Same H1 (upd H1 r (.rng 0 j)):=fun b o e=>by rw[aD (aY e hr)];exact e
    obtain ⟨Hf,fp,O,F⟩:=S2.drop.grow sm;have hlen:j.toNat<=1000000:=by simpa [aI] using hlen
    refine ⟨r,0,j,rfl,bc,by omega,by omega,by omega,by omega,by simpa using hlen,fun l hl=>p1 _ _ ?_⟩;have:=SR.laidL O F (m5 0 (j - 0).toNat) (fun e m=>by obtain ⟨i,_,rfl⟩:=List.mem_map.mp m;rfl) hl;rw[show j - 0=j by omega] at this ⊢;exact this
   ·exact p1.elim
  ·exact p1.elim
 ·exact p1.elim
def XC(C cls:Value)(vs:Array Value):Prop:=∃ c:Nat,cls=.ref c/\((C=.ref c/\vs[2]?=some .none)\/C=.int (c:Int) 0)
theorem XC.cls{C' cls:Value}{vs:Array Value}{C:Addr}(x:XC C' cls vs)(h:C'=.ref C\/C'=.int (C:Int) 0):cls=.ref C:=by
 obtain ⟨c,a,b⟩:=x;rw[a];rcases h with rfl | rfl
 ·rcases b with ⟨b,_⟩ | b
  ·rw[b]
  ·cases b
 ·rcases b with ⟨b,_⟩ | b
  ·cases b
  ·have b1:=(Value.int.inj b).1
   have:C=c:=Int.ofNat.inj b1;rw[this]
def qB(h0 h:Heap)(H:Hp)(a:Addr)(C:Value):Prop:=∃ oe vs T oT ts,h.get? a=some oe/\XC C oe.cls vs/\oe.data=.fields vs/\vs[1]?=some (.ref T)/\T≠a/\h.get? T=some oT/\oT.data=.fields ts/\ts[3]?=some .none/\H a=none/\H T=none/\h0.get? a=none/\h0.get? T=none
def CXm(P:Program)(w:World):CXT:=fun outer H s E e s'=>∃ a C H',e=.ref a/\s'.os=s.os/\AllBare s'.gens/\Un (frs outer) [] H H' s.heap s'.heap/\HOk P w H' s'.heap/\qB s.heap s'.heap H' a C/\E C none H'
theorem ik{CX:CXT}{P:Program}{w:World}{K:PySem.W.Frag}{mg:Str->Option Value}{base:Heap}{N:List Str}{qual:Str}{scope:Scope}{f:Addr}{cd:Value}{A:Around}{outer:List Env}{s:Shared}{H:Hp}{E:XK}:Po (gl CX P w K mg base N qual scope f cd A outer s H E):=⟨PassesOwn.leaving⟩
theorem rA{X:Cx}{P:Program}{w:World}:et (CXm P w) X (fun _ _ _=>False):=fun _ _ _ _ _ _ _ h=>by
 obtain ⟨_,_,_,_,_,_,_,_,_,z⟩:=h;exact z.elim
structure Cal (P:Program) (w:World) (K:PySem.W.Frag) (mg:Str->Option Value) (base:Heap) (x:Str) (n:Nat) (F:List D->Res D) (k:Nat):Prop where
 ex:∃ f fd ps,FnOk P w K mg base (CXm P w) k f fd ps (spF n F)/\mg x=some (.ref f)/\PySem.W.keepIn K (.ref f)=true/\Binds K fd ps []
structure Df (K:PySem.W.Frag) (mg:Str->Option Value) (x:Str) (st:Stmt) (ps:List Str):Prop where
 ex:∃ f fd,Fun K x x st f fd/\mg x=some (.ref f)/\Binds K fd ps []
def al(n:Nat)(F:List D->Res D)(fa:ac->Res (List D)):ac->Res D:=fun ρ=>fa ρ >>= fun ds=>if ds.length=n then cZ F ds else .bad
theorem CompScope.of{X:Cx}{scope:Scope}{own:List Str}{cap:List (Str × Nat)}(h1:scope.kind=.function)(h2:(scope.names.map (·.1)).Nodup)(h3:(scope.names.all fun x=>!(x.2 == .free)||X.env.kindOf x.1 == some .cell||X.env.kindOf x.1 == some .free)=true)
    (h4:(cap.all fun p=>X.N[p.2]? == some p.1&&scope.names.lookup p.1 == some .free)=true) (h5:(own++cap.map (·.1)).Nodup):CompScope X scope own cap where
 kind:=h1
 nd:=h2
 free:=fun x hx hk=>by
  have:=List.all_eq_true.mp h3 x hx;rw[hk] at this;simp at this;exact this
 capN:=fun p hp=>by
  have:=List.all_eq_true.mp h4 p hp;simp at this;exact this
 ndN:=h5
end
theorem jt{P:Program}{w:World}{H:Hp}{h:Heap}{a:Addr}{o:HO}(x:ObjOk P w H h a o):∃ u,h.get? a=some u:=by
 cases o with
 |lst xs=>obtain ⟨_,_,_,_,e⟩:=x;exact ⟨_,e⟩
 |tup xs=>obtain ⟨_,_,_,o,e,_⟩:=x;exact ⟨_,e⟩
 |dK kvs=>obtain ⟨_,_,_,_,o,_,_,e,_⟩:=x;exact ⟨_,e⟩
 |dT kvs=>obtain ⟨_,_,_,_,o,_,_,e,_⟩:=x;exact ⟨_,e⟩
 |set S n=>obtain ⟨o,_,_,_,e,_⟩:=x;exact ⟨_,e⟩
 |ins C dx fs=>obtain ⟨_,_,_,e,_⟩:=x;exact ⟨_,e⟩
 |own y=>obtain ⟨_,e⟩:=x;exact ⟨_,e⟩
 |xd fs=>obtain ⟨_,⟨_,_,_,e,_⟩,_⟩:=x;exact ⟨_,e⟩
 |rng lo hi=>obtain ⟨_,_,_,e⟩:=x;exact ⟨_,e⟩
 |frz ob u=>obtain ⟨e,_⟩:=x;exact ⟨_,e⟩
 |tbl ps=>exact ⟨_,(show h.get? a=some _ from x)⟩
 |met f y=>exact ⟨_,(show h.get? a=some _ from x)⟩
 |ext φ=>obtain ⟨_,⟨_,e⟩,_⟩:=x;exact ⟨_,e⟩
theorem dz{base h h':Heap}{fs:List Addr}{H1 H':Hp}(u:Un fs [] H1 H' h h'):∀ {l:List Env},(∀ b∈frs l,b∈fs)->(∀ b∈frs l,H1 b=none)->h.FunFrames base l->h'.FunFrames base l
 | [],_,_,_=>trivial
 |env::r,hs,hn,⟨hk,⟨L,o,hf,hb,ho,hd⟩,hr⟩=>by
  have mem:frs (env::r)=L::frs r:=by unfold frs;rw[List.filterMap_cons,hf]
  have hL:L∈frs (env::r):=by rw[mem];exact List.mem_cons_self
  obtain ⟨sl,e⟩:=u.slot L o ho (hn L hL) (hs L hL) (by simp);exact ⟨hk,⟨L,_,hf,hb,e,hd⟩,dz u (fun b m=>hs b (by rw[mem];exact List.mem_cons_of_mem _ m)) (fun b m=>hn b (by rw[mem];exact List.mem_cons_of_mem _ m)) hr⟩
section
variable {P:Program}{w:World}{K:PySem.W.Frag}{mg:Str->Option Value}{base:Heap}{N:List Str}{qual:Str}{scope:Scope}{f:Addr}{cd:Value}{A:Around}{outer:List Env}{s:Shared}{H:Hp}{E:XK}
abbrev cxm(P:Program)(w:World)(K:PySem.W.Frag)(mg:Str->Option Value)(base:Heap)(N:List Str)(qual:Str)(scope:Scope)(f:Addr)(cd:Value)(A:Around)(outer:List Env)(s:Shared)(H:Hp)(E:XK):Cx:=gl (CXm P w) P w K mg base N qual scope f cd A outer s H E
theorem mo{pins:List (Addr × Obj)}{σ:St}{H1 H':Hp}{s1 s':Shared}{a:Addr}{C cls:Value}{Ts:List Addr}{h'':Heap}{oe0:Obj}{vs0:Array Value}(k2:K2 s'.heap h'')(e0:s'.heap.get? a=some oe0)(d0:oe0.data=.fields vs0)(xc:XC C cls vs0)(I:Inv (cxm P w K mg base N qual scope f cd A outer s H E) pins σ H1 s1)
    (u:Un (frs (cxm P w K mg base N qual scope f cd A outer s H E).stack) [] H1 H' s1.heap s'.heap) (hos:s'.os=s1.os) (bare:AllBare s'.gens) (hok:HOk P w H' s'.heap) (ha:H' a=none) (hna:s1.heap.get? a=none) (hT:∀ T∈Ts,H' T=none/\s1.heap.get? T=none)
    (FF:s'.heap.FunFrames base (cxm P w K mg base N qual scope f cd A outer s H E).stack)
    (L:Heap.Left (PySem.W.hideAll s'.heap (a::(Ts++frs (cxm P w K mg base N qual scope f cd A outer s H E).stack))) (cxm P w K mg base N qual scope f cd A outer s H E).stack a cls s'.heap h'') (hE:E C none H'):CXm P w outer H s E (.ref a) { s' with heap:=h'' }:=by
 obtain ⟨st,ff,tr,sl⟩:=L;have ib:Un (frs outer) [] H H1 s.heap s1.heap:=I.base;have kB:∀ b o,s'.heap.get? b=some o->b≠a->b∉Ts->b∉frs (cxm P w K mg base N qual scope f cd A outer s H E).stack->h''.get? b=some o:=fun b o e h1 h2 h3=>st b o (PySem.W.hideAll_get _ e fun m=>by
  rcases List.mem_cons.mp m with z | m
  ·exact h1 z
  ·exact (List.mem_append.mp m).elim h2 h3)
 have frN:∀ b∈frs (cxm P w K mg base N qual scope f cd A outer s H E).stack,H' b=none:=fun b m=>by
  obtain ⟨_,o,ho,_⟩:=I.stack.mem m;exact u.free b o ho (I.stkFree b m) (by simp)
 have eSt:frs (cxm P w K mg base N qual scope f cd A outer s H E).stack=s.heap.objs.size::frs outer:=rfl;have ne1:∀ b o,s.heap.get? b=some o->b≠a/\b∉Ts:=fun b o e=>by
  obtain ⟨o1,e1⟩:=ib.there b o e (by simp);refine ⟨fun z=>?_,fun m=>?_⟩
  ·rw[z,hna] at e1;cases e1
  ·rw[(hT b m).2] at e1;cases e1
 have neL:∀ b o,s.heap.get? b=some o->b≠s.heap.objs.size:=fun b o e=>Nat.ne_of_lt (Heap.lt_size e);refine ⟨a,C,H',rfl,hos.trans I.os,bare,⟨fun b o e n hb _=>?_,fun b o e n hb _=>?_,fun b o e n _=>?_,fun b o e _=>?_,fun b xs e=>u.tups b xs (ib.tups b xs e),fun b o xs e=>u.frzs b o xs (ib.frzs b o xs e),fun b ps e=>?_⟩,fun b ob e=>?_,?_,hE⟩
 ·have nst:b∉frs (cxm P w K mg base N qual scope f cd A outer s H E).stack:=by
     rw[eSt];intro m;rcases List.mem_cons.mp m with z | m
     ·exact neL b o e z
     ·exact hb m
  exact kB b o (u.keep b o (ib.keep b o e n hb (by simp)) (ib.free b o e n (by simp)) nst (by simp)) (ne1 b o e).1 (ne1 b o e).2 nst
 ·have hst:b∈frs (cxm P w K mg base N qual scope f cd A outer s H E).stack:=by rw[eSt];exact List.mem_cons_of_mem _ hb
  obtain ⟨sl1,e1⟩:=ib.slot b o e n hb (by simp);obtain ⟨sl2,e2⟩:=u.slot b _ e1 (ib.free b o e n (by simp)) hst (by simp);obtain ⟨_,o',ho',hd⟩:=FF.mem hst;rw[e2] at ho'
  cases ho'
  obtain ⟨sl3,e3⟩:=sl b _ e2 hd;exact ⟨sl3,e3⟩
 ·obtain ⟨o1,e1⟩:=ib.there b o e (by simp)
  exact u.free b o1 e1 (ib.free b o e n (by simp)) (by simp)
 ·obtain ⟨o1,e1⟩:=ib.there b o e (by simp)
  obtain ⟨o2,e2⟩:=u.there b o1 e1 (by simp);by_cases hst:b∈frs (cxm P w K mg base N qual scope f cd A outer s H E).stack
  ·obtain ⟨_,o',ho',hd⟩:=FF.mem hst
   rw[e2] at ho'
   cases ho'
   obtain ⟨sl3,e3⟩:=sl b _ e2 hd;exact ⟨_,e3⟩
  ·exact ⟨o2,kB b o2 e2 (ne1 b o e).1 (ne1 b o e).2 hst⟩
 ·obtain ⟨m1,e1⟩:=ib.tbls b ps e
  obtain ⟨m2,e2⟩:=u.tbls b _ e1;exact ⟨m1++m2,by rw[e2,Array.append_assoc]⟩
 ·refine (hok b ob e).stay (fun c v hc q=>kB c v q ?_ ?_ ?_) (fun _ q=>q) fun _ _ q=>q
  ·rintro rfl
   rcases hc with rfl | hc
   ·rw[ha] at e;cases e
   ·rw[ha] at hc;cases hc
  ·intro m
   rcases hc with rfl | hc
   ·rw[(hT c m).1] at e;cases e
   ·rw[(hT c m).1] at hc;cases hc
  ·intro m
   have:=frN c m;rcases hc with rfl | hc
   ·rw[this] at e;cases e
   ·rw[this] at hc;cases hc
 ·obtain ⟨oe,vs,T,oT,ts,x1,x2,x3,x4,x5,x6,x7,x8,x9⟩:=tr
  have back:∀ b,s1.heap.get? b=none->s.heap.get? b=none:=fun b hb=>by
   cases q:s.heap.get? b with
   |none=>rfl
   |some o=>obtain ⟨o1,e1⟩:=ib.there b o q (by simp);rw[hb] at e1;cases e1
  have xc':XC C oe.cls vs:=by
   obtain ⟨o',v',e',d',r'⟩:=k2 a oe0 vs0 e0 d0;rw[x1] at e'
   cases e'
   rw[x3] at d'
   cases d'
   rw[x2];obtain ⟨c,c0,c1⟩:=xc;refine ⟨c,c0,?_⟩;rcases c1 with ⟨c1,c2⟩ | c1
   ·exact .inl ⟨c1,by rw[r'];exact c2⟩
   ·exact .inr c1
  refine ⟨oe,vs,T,oT,ts,x1,xc',x3,x4,x6,x7,x8,x9,ha,?_,back a hna,?_⟩
  all_goals
   by_cases hm:T∈Ts
   ·first
       |exact (hT T hm).1
       |exact back T (hT T hm).2
   ·have hst:T∉frs (cxm P w K mg base N qual scope f cd A outer s H E).stack:=fun m=>by
       obtain ⟨_,o',ho',hd⟩:=ff.mem m;rw[x7] at ho'
       cases ho'
       exact hd _ x8
    have hn:s'.heap.get? T=none:=by
     cases q:s'.heap.get? T with
     |none=>rfl
     |some o=>
      have:=PySem.W.hideAll_get (a::(Ts++frs (cxm P w K mg base N qual scope f cd A outer s H E).stack)) q fun m=>by
       rcases List.mem_cons.mp m with z | m
       ·exact x6 z
       ·exact (List.mem_append.mp m).elim hm hst
      rw[this] at x5
      cases x5
    first
     | (cases q:H' T with
        |none=>rfl
        |some o=>obtain ⟨v,e⟩:=jt (hok T o q);rw[hn] at e;cases e)
     | (cases q:s.heap.get? T with
        |none=>rfl
        |some o=>
         obtain ⟨o1,e1⟩:=ib.there T o q (by simp)
         obtain ⟨o2,e2⟩:=u.there T o1 e1 (by simp)
         rw[hn] at e2;cases e2)
theorem rB{Ex:Value->Prop}{H0:Hp}(hE:∀ C H',Ex C->Same H0 H'->E C none H'):et (CXm P w) (cxm P w K mg base N qual scope f cd A outer s H E) (Exk H0 Ex):=by
 intro pins σ H1 s1 e s' I h;obtain ⟨a,C,H',rfl,hos,bare,u,hok,⟨oe,vs,T,oT,ts,x1,x2,x3,x4,x5,x6,x7,x8,x9,x10,x11,x12⟩,ex,sm⟩:=h;have FF:s'.heap.FunFrames base (cxm P w K mg base N qual scope f cd A outer s H E).stack:=dz u (fun _ m=>m) (fun b m=>I.stkFree b m) I.stack
 show wpAny (model P w) (A.deeper (envOfC qual scope s.heap.objs.size f cd)) (leaving (envOfC qual scope s.heap.objs.size f cd) (.ref a)) _ _ s'
 refine wpAny_mono (eZ (gx _ _) (wpAny_leaving_next (Q:=fun _ s2=>∃ h'',s2={ s' with heap:=h'' }/\Heap.Left (PySem.W.hideAll s'.heap (a::([T]++frs (cxm P w K mg base N qual scope f cd A outer s H E).stack))) (cxm P w K mg base N qual scope f cd A outer s H E).stack a oe.cls s'.heap h'') (base:=PySem.W.hideAll s'.heap (a::([T]++frs (cxm P w K mg base N qual scope f cd A outer s H E).stack))) (outer:=outer) (L:=s.heap.objs.size) (cls:=oe.cls) I.ok.frames ?_ rfl
  ⟨oe,vs,T,oT,ts,x1,rfl,x3,x4,PySem.W.hideAll_none _ (by simp),x5,x6,x7,x8⟩ (fun b o e=>PySem.W.of_hideAll _ e) (PySem.W.hideAll_none _ (by simp)) fun h'' L=>⟨h'',rfl,L⟩)) (fun _ s2 q=>?_) (fun _ _ q=>q.1)
 ·exact PySem.W.funFrames_hide FF fun env he b hb=>List.mem_cons_of_mem _ (List.mem_append_right _ (List.mem_filterMap.mpr ⟨env,he,hb⟩))
 ·obtain ⟨⟨h'',rfl,L⟩,k2⟩:=q
  exact mo (Ts:=[T]) k2 x1 x3 x2 I u hos bare hok x9 x11 (fun T' m=>by simp at m;subst m;exact ⟨x10,x12⟩) FF L (hE C H' ex sm)
structure Pa (X:Cx) (H0:Hp) (Ex:Value->Prop):Prop where
 go:et (CXm X.prog X.w) X (Exk H0 Ex)
theorem aQ{Ex:Value->Prop}{H0:Hp}(hE:∀ C H',Ex C->Same H0 H'->E C none H'):Pa (cxm P w K mg base N qual scope f cd A outer s H E) H0 Ex:=⟨rB hE⟩
end
theorem ax{X:Cx}{H0:Hp}{Ex:Value->Prop}{x:Str}{n k:Nat}{F:List D->Res D}{p pos:Pos}{e:Expr}{es:List Expr}{fa:ac->Res (List D)}(c:Cal X.prog X.w X.K X.mg X.base x n F k)(hx:Pa X H0 Ex)(hr:Room k X.A)(hg:Gl X x)(ha:FA X H0 Ex (e::es) fa)(hn:(e::es).length=n:=by rfl)
    (hdb:(x == ("__debug__" : Str))=false:=by decide) (he:starEach (e::es) X.env=(false,eval e X.env)::starEach es X.env:=by rfl) (hpl:(backTo pos (starEach es X.env)).any (·.1)=false:=by rfl) :
    FE X H0 Ex (.Call (.Name x p) (e::es) [] pos) (al n F fa):=by
 obtain ⟨f,fd,ps,G,hm,hk,hb⟩:=c.ex;exact rm G hr hg hm hk hb hx.go ha hn hdb he hpl
def fK:List Value:=[.type "ValueError", .type "Exception", .type "BaseException", .type "object"]
structure XCls (K:PySem.W.Frag) (mg:Str->Option Value) (x:Str) (C:Addr):Prop where
 bound:mg x=some (.ref C)
 obj:∀ h:Heap,K.In h->∃ bm N nm q bs hdct sn sub ab col dd k0 k1 k2 k3 k5 mN,h.get? C=some (excClassObj nm q C N bs bm hdct sn sub ab col dd k0 k1 k2 k3 k5 "ValueError.__new__")/\h.Ns N mN/\mN "__init__" = none/\OwnTail h fK bm
theorem rC{K:PySem.W.Frag}{mg:Str->Option Value}{x:Str}{C:Addr}(hb:mg x=some (.ref C))(hc:PySem.W.excIn K C fK "ValueError.__new__" = true):XCls K mg x C:=by
 refine ⟨hb,fun h hK=>?_⟩;unfold PySem.W.excIn at hc;split at hc
 ·rename_i dd cl sl look
  split at hc
  ·rename_i C2 rest y0 y1 y2 y3 nn y5 hmro hslots
   simp only[Bool.and_eq_true,beq_iff_eq,Bool.not_eq_true'] at hc;have c1:=hc.1.1.1.1.1;have c2:=hc.1.1.1.1.2;have c3:=hc.1.1.1.2;have c4:=hc.1.1.2;have c5:=hc.1.2;have c6:=hc.2;subst c1 c2;have es:sl=#[y0,y1,y2,y3,some (.builtin "ValueError.__new__"),y5]:=Array.ext' hslots;subst es;have ob:=hK _ _ look
   cases cl
   dsimp only at hmro c3 c5 c6;subst hmro c3;exact ⟨rest,_,_,_,_,_,_,_,_,_,_,_,_,_,_,_,_,ob,.of_isNs (PySem.W.isNs_of_in hK c5),PySem.W.nsMap_none_of_in hK c5 c6,PySem.W.tail_of_in hK c4⟩
  ·cases hc
 ·cases hc
section
variable {P:Program}{w:World}{K:PySem.W.Frag}{mg:Str->Option Value}{base:Heap}{N:List Str}{qual:Str}{scope:Scope}{f:Addr}{cd:Value}{A:Around}{outer:List Env}{s:Shared}{H:Hp}{E:XK}
theorem ky{pins:List (Addr × Obj)}{σ:St}{H2:Hp}{s2:Shared}{h':Heap}{e:Addr}{oe:Obj}{vs:Array Value}{C:Value}(I2:Inv (cxm P w K mg base N qual scope f cd A outer s H E) pins σ H2 s2)(kp:∀ b o,s2.heap.get? b=some o->h'.get? b=some o)
    (new:s2.heap.get? e=none) (he:h'.get? e=some oe) (hd:oe.data=.fields vs) (h1:vs[1]?=some .none) (xc:XC C oe.cls vs) (hE:E C none H2):(cxm P w K mg base N qual scope f cd A outer s H E).xe (.ref e) { s2 with heap:=h' }:=by
 have hu:Un (frs (cxm P w K mg base N qual scope f cd A outer s H E).stack) [] H2 H2 s2.heap h':=Un.kept kp;have FF:h'.FunFrames base (cxm P w K mg base N qual scope f cd A outer s H E).stack:=dz hu (fun _ m=>m) (fun b m=>I2.stkFree b m) I2.stack;have hne:H2 e=none:=by
  cases qq:H2 e with
  |none=>rfl
  |some o=>obtain ⟨v,ev⟩:=jt (I2.hok e o qq);rw[new] at ev;cases ev
 show wpAny (model P w) (A.deeper (envOfC qual scope s.heap.objs.size f cd)) (leaving (envOfC qual scope s.heap.objs.size f cd) (.ref e)) _ _ { s2 with heap:=h' }
 refine wpAny_mono (eZ (gx _ _) (wpAny_leaving_first (s:={ s2 with heap:=h' }) (Q:=fun _ s3=>∃ h'',s3={ s2 with heap:=h'' }/\Heap.Left (PySem.W.hideAll h' (e::([]++frs (cxm P w K mg base N qual scope f cd A outer s H E).stack))) (cxm P w K mg base N qual scope f cd A outer s H E).stack e oe.cls h' h'') (base:=PySem.W.hideAll h' (e::([]++frs (cxm P w K mg base N qual scope f cd A outer s H E).stack))) (outer:=outer) (L:=s.heap.objs.size) I2.ok.frames ?_ rfl he (fun b o e=>PySem.W.of_hideAll _ e) (PySem.W.hideAll_none _ (by simp)) hd h1 fun h'' L=>⟨h'',rfl,L⟩)) (fun _ s3 q=>?_) (fun _ _ q=>q.1)
 ·exact PySem.W.funFrames_hide FF fun env he b hb=>List.mem_cons_of_mem _ (List.mem_append_right _ (List.mem_filterMap.mpr ⟨env,he,hb⟩))
 ·obtain ⟨⟨h'',rfl,L⟩,k2⟩:=q
  exact mo (Ts:=[]) (s':={ s2 with heap:=h' }) k2 he hd xc I2 hu rfl I2.bare (I2.hok.kept kp) hne new (fun T' m=>by simp at m) FF L hE
theorem bN{Ex:Value->Prop}{H0:Hp}{x:Str}{C:Addr}{words:Str}{j:Nat}{np p1 cpos pos:Pos}(O:XCls K mg x C)(hE:∀ C H',Ex C->Same H0 H'->E C none H')(hg:Gl (cxm P w K mg base N qual scope f cd A outer s H E) x)(hd:(x == ("__debug__" : Str))=false:=by decide)
    (hs1:starEach [.Constant (.str words) j p1] (cxm P w K mg base N qual scope f cd A outer s H E).env=(false,eval (.Constant (.str words) j p1) (cxm P w K mg base N qual scope f cd A outer s H E).env)::starEach [] (cxm P w K mg base N qual scope f cd A outer s H E).env:=by rfl) :
    FS (cxm P w K mg base N qual scope f cd A outer s H E) H0 Ex (.Raise (some (.Call (.Name x np) [.Constant (.str words) j p1] [] cpos)) none pos) (fun _=>.exc (.ref C)):=by
 refine ⟨?_⟩;intro pins s1 σ H1 En I h;obtain ⟨Hs,ρ,⟨S,n⟩,p⟩:=h;have p:Ex (.ref C):=p;obtain ⟨bm,Na,nm,q,bs,hdct,sn,sub,ab,col,dd,k0,k1,k2,k3,k5,mN,hC,hN,hni,T⟩:=O.obj base I.mod.kin;have FB:=PySem.F.excBase_ValueError
 refine wpAny_Raise_call_subU (C:=C) (nm:=nm) (q:=q) (N:=Na) (bs:=bs) (bm:=bm) (hdct:=hdct) (sn:=sn) (sub:=sub) (ab:=ab) (col:=col) (dd:=dd) (k0:=k0) (k1:=k1) (k2:=k2) (k3:=k3) (k5:=k5)
  FB (by decide) FB (mN:=mN) (T.hasType FB.hasBase) (I.ok.hd rfl) (by rw[hs1];rfl) hni (du I hg O.bound ⟨rfl,?_⟩ hd)
 rw[hs1];refine Calls.evalArgs_plain ?_;have PAok:=cv (X:=cxm P w K mg base N qual scope f cd A outer s H E) (e:=.Constant (.str words) j p1) (es:=[]) k8 dj hs1;have sp:=PAok cpos pins s1 σ H1 (fun vs H'=>vs.length=1/\H'=H1) I ⟨rfl,rfl⟩;rw[hs1] at sp;refine thn sp fun us s2 ⟨vs,H2,I2,rv,hl,e2⟩=>?_;subst e2;refine ⟨rfl,?_,I2.bk _ _ hC,hN.keeps I2.bk,T.keeps I2.bk,fun h' e hm=>?_⟩
 ·show us.length<=sizeLine
  rw[<- rv.length,hl];decide
 ·obtain ⟨t,ht,_,_⟩:=hm.there
  exact ky I2 hm.keeps hm.new ht rfl rfl ⟨C,rfl,.inl ⟨rfl,rfl⟩⟩ (hE _ _ p S.same)
theorem a8{x:Str}{st:Stmt}{ps:List Str}{k:Nat}{g:ac->FOut}(U:Df K mg x st ps)(S:FnScope N ps (am st))
    (hbody:∀ (f:Addr) (cdv:Value) (A:Around) (outer:List Env) (s:Shared) (H:Hp) (E:XK) (Ex:Value->Prop),(∀ C H',Ex C->Same H H'->E C none H')->Room k (A.deeper (envOfC x (am st) s.heap.objs.size f cdv)) →
     FSs (cxm P w K mg base N x (am st) f cdv A outer s H E) H Ex (bD st) g):Cal P w K mg base x ps.length (aJ N.length g) (k+1):=by
 obtain ⟨f,fd,F,hm,hb⟩:=U.ex;exact ⟨f,fd,ps,mm F S fun cdv A outer s H E ds hr hl hx=>⟨g,hbody f cdv A outer s H E _ (fun C H' e sm=>hx C e H' sm) hr,rfl⟩,hm,F.kp,hb⟩
end
def gy(f:Str)(v:D):List (Str × D)->List (Str × D)
 | []=>[(f,v)]
 | (g,u)::r=>if g=f then (g,v)::r else (g,u)::gy f v r
theorem RepF.put{H:Hp}{f:Str}{v:V}{d:D}(h:Rep H v d):∀ {fs:List (Str × V)} {ds:List (Str × D)},RepF H fs ds->RepF H (cr f v fs) (gy f d ds)
 |_,_,.nil=>.cons h .nil
 |_,_,.cons (k:=g) q r=>by
  unfold cr gy;split
  ·exact .cons h r
  ·exact .cons q (RepF.put h r)
theorem RepF.look{H:Hp}{f:Str}{d:D}:∀ {fs:List (Str × V)} {ds:List (Str × D)},RepF H fs ds->ds.lookup f=some d->∃ v,fs.lookup f=some v/\Rep H v d
 |_,_,.nil,e=>by simp at e
 |_,_,.cons (k:=g) q r,e=>by
  rw[List.lookup_cons] at e ⊢
  cases hb:f == g with
  |true=>rw[hb] at e;cases e;exact ⟨_,rfl,q⟩
  |false=>rw[hb] at e;exact RepF.look r e
theorem RepF.length{H:Hp}:∀ {fs:List (Str × V)} {ds:List (Str × D)},RepF H fs ds->fs.length=ds.length
 |_,_,.nil=>rfl
 |_,_,.cons _ r=>by simp[RepF.length r]
section
variable {Hs H0 H:Hp}{vs:List (Option V)}{ds:List (Option D)}{v:V}{d:D}
theorem SR.field{C:Addr}{t:Tg}{fs:List (Str × D)}{f:Str}{x:D}(S:SR Hs H0 H (some v::vs) (some (.ins t C fs)::ds))(hx:fs.lookup f=some x) :
    ∃ a dx fvs u,v=.ref a/\H a=some (.ins C dx fvs)/\fvs.lookup f=some u/\SR Hs H0 H (some u::vs) (some x.asF::ds):=by
 obtain ⟨Hf,fp,O,F⟩:=S
 cases O with
 |cons h r=>
  cases h with
  |fz h _=>
   cases h with
   |ins h q=>
    obtain ⟨u,hu,ru⟩:=q.look hx;exact ⟨_,_,_,u,rfl,F.fh _ _ h,hu,Hf,_,.cons (.fz ru.asF x.asF_tag) r,F.subl (by simp)⟩
 |brw z h r=>
  cases h with
  |fz h z'=>rw[z'] at z;cases z
  |ins _ h q=>
   obtain ⟨u,hu,ru⟩:=q.look hx;exact ⟨_,_,_,u,rfl,h,hu,Hf,_,Own.cons (fp:=[]) (.fz ru.asF x.asF_tag) r,F⟩
theorem SR.setField{C p:Addr}{fs:List (Str × D)}{f:Str}{i:Nat}(S:SR Hs H0 H (some v::vs) (some d::ds))(t:d.tag=.f)(n:noB ds)(e:ds[i]?=some (some (.slf p C fs))) :
    ∃ dx fvs,vs[i]?=some (some (.ref p))/\H p=some (.ins C dx fvs)/\fvs.length=fs.length/\SR Hs H0 (upd H p (.ins C dx (cr f v fvs))) vs (ds.set i (some (.slf p C (gy f d fs)))):=by
 obtain ⟨Hf,fp,O,F⟩:=S
 cases O with
 |brw z h r=>rw[t] at z;cases z
 |cons h r=>
  rename_i f0 f1
  cases h with
  |lst _ _=>cases t
  |dic _ _=>cases t
  |slf _ _ _=>cases t
  |fz hv _=>
   have F:Fine Hs H0 Hf H f1:=F;obtain ⟨q,fpx,fpr,e',rq,pm,w⟩:=r.write n F.nd e rfl
   cases rq with
   |slf hq hdx R=>
    rename_i dx fvs;have F':=F.perm pm.symm;have nd':=F'.nd;have hp:p∈f1:=pm.symm.subset (by simp);have hpn:p∉dx::fpr:=by
     have:(p::(dx::fpr)).Nodup:=by simpa using nd'
     exact (List.nodup_cons.mp this).1
    have kp:∀ a o,a∈dx::fpr->H a=some o->upd H p (.ins C dx (cr f v fvs)) a=some o:=fun a o m z=>gm (fun y=>by subst y;exact hpn m) z;obtain ⟨fp',O',p'⟩:=w (upd H p (.ins C dx (cr f v fvs))) (.slf p C (gy f d fs)) [p,dx] (fun a o m z=>kp a o (List.mem_cons_of_mem _ m) z) (.slf bc (kp dx _ List.mem_cons_self hdx) (R.put hv));refine ⟨dx,fvs,e',hq,R.length,Hf,fp',O',F.wrote hp ?_ ?_⟩
    ·exact (p'.nodup_iff).mpr (by simpa using nd')
    ·intro a m
     exact F'.own a (by simpa using p'.subset m)
end
section
variable {X:Cx}{Ex:Value->Prop}{H0:Hp}{e o value:Expr}{f fa fv:ac->Res D}{pos pos':Pos}{fld:Str}{C:Addr}
def bO(C:Addr)(fld:Str):D->Res D
 | .ins _ C' fs=>if C'=C then be ((fs.lookup fld).map D.asF) else .bad
 |_=>.bad
theorem ce(he:FE X H0 Ex e fa)(c:Cls X.K C)(na:NoAttr X.K C fld)(hb:attributeBase e fld X.env (eval e X.env)=eval e X.env:=by rfl):FE X H0 Ex (.Attribute e fld pos) (f1 (bO C fld) fa):=by
 refine ⟨PE.pre (sU he.go hb) ?_⟩;rintro σ H Q ⟨Hs,ρ,ts,S,p⟩;refine ⟨Hs,ρ,ts,S,(Post.bind p).imp fun d _ p1 v H1 S1=>?_⟩
 cases d with
 |ins t C' fs=>
  by_cases hC:C'=C
  ·subst hC
   have p1:Post Ex (if C'=C' then be ((fs.lookup fld).map D.asF) else .bad) fun d=>∀ v H',SX Hs H0 H' ((v,d)::ts) σ ρ->Q v H':=p1;rw[if_pos rfl] at p1
   cases el:fs.lookup fld with
   |none=>rw[el] at p1;exact p1.elim
   |some x=>
    rw[el] at p1;have S1:SR Hs H0 H1 (some v::(tvs ts++σ)) (some (.ins t C' fs)::(tds ts++ρ)):=S1;obtain ⟨a,dx,fvs,u,rfl,hH,hu,S2⟩:=S1.field el;exact ⟨a,C',dx,fvs,u,rfl,hH,c,na,hu,p1 u H1 S2⟩
  ·have p1:Post Ex (if C'=C then be ((fs.lookup fld).map D.asF) else .bad) fun d=>∀ v H',SX Hs H0 H' ((v,d)::ts) σ ρ->Q v H':=p1
   rw[if_neg hC] at p1;exact p1.elim
 |_=>exact p1.elim
def dg(i:Nat)(C:Addr)(fld:Str)(fv:ac->Res D):ac->FOut:=fun ρ=>match ρ[i]? with
 |some (some (.slf p C' fs))=>aft (fv ρ) fun d=>if C'≠C\/d.tag=.b\/1000<=fs.length then .bad else .nx (ρ.set i (some (.slf p C' (gy fld d.fz fs))))
 |_=>.bad
theorem gc{i:Nat}{x:Str}{p1:Pos}(ho:PV X (.Name x p1) i)(hv:FE X H0 Ex value fv)(c:Cls X.K C)(na:NoAttr X.K C fld)(hs:swapsWith value (some (.Attribute (.Name x p1) fld pos')) pos.line X.env=pure false:=by rfl) :
    FS X H0 Ex (.Assign [.Attribute (.Name x p1) fld pos'] value pos) (dg i C fld fv):=by
 refine ⟨PS.pre (sV ho.go hv.go hs) ?_⟩;rintro En σ H ⟨Hs,ρ,⟨S,n⟩,p⟩;unfold dg at p;split at p
 ·rename_i q C' fs hx
  refine ⟨Hs,ρ,[],S,(PostS.aft p).imp fun d _ p1 v H1 S1=>?_⟩;split at p1
  ·exact p1.elim
  ·rename_i hc
   have hC:C'=C:=Decidable.byContradiction fun z=>hc (.inl z);subst hC;have hb:d.tag≠.b:=fun z=>hc (.inr (.inl z));have S1:SR Hs H0 H1 (some v::σ) (some d::ρ):=S1;obtain ⟨dx,fvs,hσ,hH,hl,S2⟩:=(S1.frz hb).setField (f:=fld) d.fz_tag n hx;refine ⟨.ref q,hσ,q,C',dx,fvs,rfl,hH,c,na,?_,p1 σ _ ⟨S2,n.set fun d' z=>by cases z;exact fun y=>nomatch y⟩⟩;rw[hl];exact Nat.lt_of_not_le fun z=>hc (.inr (.inr z))
 ·exact p.elim
def eM(H:Hp)(x dx:Addr):Hp:=fun a=>if a=x\/a=dx then none else H a
theorem m7{H:Hp}{x dx:Addr}:Same (eM H x dx) H:=fun a o e=>by
 unfold eM at e;split at e
 ·cases e
 ·exact e
def spI(C:Addr)(n:Nat)(F:Addr->List D->Res (List (Str × D))):Sp:=fun vs H Q E=>∃ Hs us ds x dx,vs=.ref x::us/\ds.length=n/\x≠dx/\H x=some (.ins C dx [])/\H dx=some (.own x)/\Hs x=none/\Hs dx=none/\Same Hs H/\Reps Hs us ds/\(∀ d∈ds,d.tag=.f) ∧
 match F x ds with
 | .ok fs=>∀ H',SR Hs (eM H x dx) H' [some (.ref x)] [some (.slf x C fs)]->Q .non H'
 | .exc Cx=>∀ H',Same (eM H x dx) H'->E Cx none H'
 | .bad=>False
def cj(C:Addr)(N:Nat)(g:ac->FOut)(x:Addr)(ds:List D):Res (List (Str × D)):=match g (some (D.slf x C [])::(ds.map some++List.replicate (N - (ds.length+1)) none)) with
 | .nx ρ=>match ρ[0]? with
  |some (some (D.slf y C' fs))=>if y=x/\C'=C then .ok fs else .bad
  |_=>.bad
 | .exc Cx=>.exc Cx
 |_=>.bad
theorem ol{P:Program}{w:World}{K:PySem.W.Frag}{mg:Str->Option Value}{base:Heap}{x qual:Str}{st:Stmt}{f:Addr}{fd:FuncData}{N ps:List Str}{k n:Nat}{g:ac->FOut}(U:Fun K x qual st f fd)(S:FnScope N ps (am st))(hn:ps.length=n+1)
    (hbody:∀ (cdv:Value) (A:Around) (outer:List Env) (s:Shared) (H H0:Hp) (E:XK) (Ex:Value->Prop),(∀ C H',Ex C->Same H0 H'->E C none H')->Room k (A.deeper (envOfC qual (am st) s.heap.objs.size f cdv)) →
     FSs (cxm P w K mg base N qual (am st) f cdv A outer s H E) H0 Ex (bD st) g) :
    FnOk P w K mg base (CXm P w) (k+1) f fd ps (spI C n (cj C N.length g)):=by
 refine Fun.okX U S (fun vs H Q E h=>?_) (fun cdv A outer s H vs Q E hr h=>?_)
 ·obtain ⟨Hs,us,ds,a,da,rfl,hl,_,_,_,_,_,_,R,_⟩:=h
  rw[List.length_cons,R.length,hl,hn]
 ·obtain ⟨Hs,us,ds,a,da,rfl,hl,hne,ha,hda,sa,sda,sH,R,ht,p⟩:=h
  have hg:=hbody cdv A outer s H (eM H a da) E (fun C'=>cj C N.length g a ds=.exc C') (fun C' H' e sm=>by rw[e] at p;exact p H' sm) hr;refine ⟨_,hg.go,Hs,some (.slf a C [])::(ds.map some++List.replicate (N.length - (ds.length+1)) none),⟨⟨Hs,[a,da]++[],?_,?_,?_,sH,m7,Same.refl _,fun b o e=>.inl ⟨o,e⟩⟩,?_⟩,?_⟩
  ·have:=dG (Hs:=Hs) (H:=H) (N.length - (ds.length+1)) R ht
   unfold L2.cN;rw[List.length_cons,R.length];exact .cons (.slf ha hda .nil) this
  ·simp[hne]
  ·intro b m
   simp at m;rcases m with rfl | rfl
   ·exact ⟨sa,by unfold eM;rw[if_pos (.inl rfl)]⟩
   ·exact ⟨sda,by unfold eM;rw[if_pos (.inr rfl)]⟩
  ·intro d m
   rcases List.mem_cons.mp m with z | m
   ·cases z;exact fun y=>nomatch y
   rcases List.mem_append.mp m with m | m
   ·obtain ⟨d',m',e⟩:=List.mem_map.mp m
    cases e
    rw[ht d m'];decide
   ·rw[List.mem_replicate] at m;cases m.2
  ·cases eg:g (some (D.slf a C [])::(ds.map some++List.replicate (N.length - (ds.length+1)) none)) with
   |nx ρ'=>
    have e1:cj C N.length g a ds=(match ρ'[0]? with
     |some (some (D.slf y C' fs))=>if y=a/\C'=C then .ok fs else .bad
     |_=>.bad):=by unfold cj;rw[eg]
    rw[e1] at p;split at p
    ·rename_i fs hq
     split at hq
     ·rename_i y C' fs' hy
      split at hq
      ·rename_i hc
       obtain ⟨rfl,rfl⟩:=hc
       cases hq
       intro σ' H' S';obtain ⟨v,hv,S2⟩:=S'.1.move hy (fun z=>nomatch z);have S3:=SR.only (vs':=[]) (ds':=[]) S2;have hh:=S3.head
       cases hh
       exact p H' S3
      ·cases hq
     ·cases hq
    ·rename_i Cx hq
     split at hq
     ·split at hq<;>cases hq
     ·cases hq
    ·exact p.elim
   |exc C'=>show cj C N.length g a ds=.exc C';unfold cj;rw[eg]
   | rt d => have e1 : cj C N.length g a ds = .bad := by unfold cj; rw [eg]
             rw[e1] at p;exact p.elim
   | bk ρ' => have e1 : cj C N.length g a ds = .bad := by unfold cj; rw [eg]
              rw[e1] at p;exact p.elim
   | ct ρ' => have e1 : cj C N.length g a ds = .bad := by unfold cj; rw [eg]
              rw[e1] at p;exact p.elim
   | bad => have e1 : cj C N.length g a ds = .bad := by unfold cj; rw [eg]
            rw[e1] at p;exact p.elim
open Classical in
def eB(F:Addr->List D->Res (List (Str × D)))(ds:List D):Res (List (Str × D)):=if h:∃ r,∀ x,F x ds=r then choose h else .bad
theorem kz{F:Addr->List D->Res (List (Str × D))}{ds:List D}{r:Res (List (Str × D))}(h:∀ x,F x ds=r):eB F ds=r:=by
 unfold eB;rw[dif_pos ⟨r,h⟩];have:=Classical.choose_spec (⟨r,h⟩:∃ r,∀ x,F x ds=r);rw[<- this 0,h 0]
theorem om{F:Addr->List D->Res (List (Str × D))}{ds:List D}(h:eB F ds≠.bad)(x:Addr):F x ds=eB F ds:=by
 unfold eB at h ⊢;split
 ·rename_i q
  exact Classical.choose_spec q x
 ·rename_i q
  rw[dif_neg q] at h;exact absurd rfl h
structure Mak (P:Program) (w:World) (K:PySem.W.Frag) (mg:Str->Option Value) (base:Heap) (x:Str) (C:Addr) (n:Nat) (F:Addr->List D->Res (List (Str × D))) (k:Nat):Prop where
 ex:∃ f fd ps,FnOk P w K mg base (CXm P w) k f fd ps (spI C n F)/\mg x=some (.ref C)/\Mk K C f/\Binds K fd ps []
def ju(C:Addr)(n:Nat)(F:Addr->List D->Res (List (Str × D)))(fa:ac->Res (List D)):ac->Res D:=fun ρ=>fa ρ >>= fun ds=>if ds.length=n/\nb ds=true then eB F (D.fzs ds) >>= fun fs=>.ok (.ins .f C fs) else .bad
theorem mq{x:Str}{n k:Nat}{F:Addr->List D->Res (List (Str × D))}{p pos:Pos}{e:Expr}{es:List Expr}{fa:ac->Res (List D)}(c:Mak X.prog X.w X.K X.mg X.base x C n F k)(hx:Pa X H0 Ex)(hr:Room (k+1) X.A)(hg:Gl X x)(ha:FA X H0 Ex (e::es) fa)
    (hdb:(x == ("__debug__" : Str))=false:=by decide) (he:starEach (e::es) X.env=(false,eval e X.env)::starEach es X.env:=by rfl) (hpl:(backTo pos (starEach es X.env)).any (·.1)=false:=by rfl) :
    FE X H0 Ex (.Call (.Name x p) (e::es) [] pos) (ju C n F fa):=by
 obtain ⟨f,fd,ps,G,hm,hk,hb⟩:=c.ex;refine ⟨PE.pre (q8 (dvs:=[]) (E:=Exk H0 Ex) hk G hr hg hm hb .nil hx.go ha.go hdb he hpl) ?_⟩;rintro σ H Q ⟨Hs,ρ,ts,S,p⟩;refine ⟨Hs,ρ,ts,S,(Post.bind p).imp fun ds _ p1 us H1 hl S1=>?_⟩;split at p1
 ·rename_i hc
  obtain ⟨hn,hnb⟩:=hc;intro a da ha hda hne;rw[List.append_nil];have S2:=SX.held hl S1;obtain ⟨Hf,fp,O,G2,R⟩:=S2.frozen hl (jm hnb);have hfa:Hf a=none:=(G2.fresh ha).1;have hfda:Hf da=none:=(G2.fresh hda).1;have sUp:Same H1 (upd (upd H1 da (.own a)) a (.ins C da [])):=fun b o e=>by
   rw[aD (aY e ha),aD (aY e hda)];exact e
  have hless:eM (upd (upd H1 da (.own a)) a (.ins C da [])) a da=H1:=by
   funext b;unfold eM;by_cases h1:b=a\/b=da
   ·rw[if_pos h1]
    rcases h1 with rfl | rfl
    ·exact ha.symm
    ·exact hda.symm
   ·rw[if_neg h1,aD (fun z=>h1 (.inl z)),aD (fun z=>h1 (.inr z))]
  have hnbad:eB F (D.fzs ds)≠.bad:=fun z=>by rw[z] at p1;exact p1.elim
  refine ⟨Hf,us,D.fzs ds,a,da,rfl,by rw[ij];exact hn,Ne.symm hne,bc,by rw[aD hne];exact bc,hfa,hfda,G2.fh.trans sUp,R,fX ds,?_⟩;rw[om hnbad a,hless]
  cases ef:eB F (D.fzs ds) with
  |bad=>exact absurd ef hnbad
  |exc Cx=>rw[ef] at p1;exact fun H' s=>⟨p1,S2.same.trans s⟩
  |ok fs=>
   rw[ef] at p1;intro H' S3;have S4:=S3.frz (fun z=>nomatch z);exact ⟨rfl,p1 _ H' (SR.told O G2 S4 (fun z=>nomatch z))⟩
 ·exact p1.elim
end
section
variable {X:Cx}{Ex:Value->Prop}{H0:Hp}{a b c e tg:Expr}{f fa fb fc:ac->Res D}{pos:Pos}
def bw(p p':Int->Int->Bool)(fa fb fc:ac->Res D):ac->Res D:=fun ρ=>fa ρ >>= fun x=>fb ρ >>= fun y=>match x,y with
 | .int i,.int j=>if p i j=true then fc ρ >>= fun z=>match z with
  | .int k=>.ok (.bl (p' j k))
  |_=>.bad
  else .ok (.bl false)
 |_,_=>.bad
theorem lx{p p':Int->Int->Bool}{σ:St}{H:Hp}{Q:VK}(h:TEF H0 Ex (bw p p' fa fb fc) σ H Q) :
    k9 (rI0 fun i j=>.bl (p i j)) (rI0 fun i j=>.bl (p' i j)) (TEF H0 Ex fa) (TEF H0 Ex fb) (TEF H0 Ex fc) σ H Q:=by
 obtain ⟨Hs,ρ,ts,S,p0⟩:=h;refine ⟨Hs,ρ,ts,S,(Post.bind p0).imp fun d1 _ p1 v1 H1 S1=>⟨Hs,ρ,(v1,d1)::ts,S1,(Post.bind p1).imp fun d2 _ p2 v2 H2 S2=>?_⟩⟩;have S2:SR Hs H0 H2 (some v2::some v1::(tvs ts++σ)) (some d2::some d1::(tds ts++ρ)):=S2
 cases d1 with
 |int i=>
  cases d2 with
  |int j=>
   cases SR.isInt S2
   cases SR.isInt S2.drop
   refine ⟨i,j,rfl,rfl,p i j,rfl,?_⟩;have p2:Post Ex (if p i j=true then fc ρ >>= fun z=>match z with
    | .int k=>.ok (.bl (p' j k))
    |_=>.bad
    else .ok (.bl false)) fun d=>∀ v H',SX Hs H0 H' ((v,d)::ts) σ ρ->Q v H':=p2
   by_cases hc:p i j=true
   ·rw[if_pos hc] at p2 ⊢
    refine ⟨Hs,ρ,ts,S2.drop.drop,(Post.bind p2).imp fun d3 _ p3 v3 H3 S3=>?_⟩
    cases d3 with
    |int k=>
     have S3:SR Hs H0 H3 (some v3::(tvs ts++σ)) (some (.int k)::(tds ts++ρ)):=S3
     cases SR.isInt S3
     exact ⟨j,k,rfl,rfl,p3 _ H3 S3.drop.bl⟩
    |_=>exact p3.elim
   ·rw[if_neg hc] at p2 ⊢
    exact p2 _ H2 S2.drop.drop.bl
  |_=>exact p2.elim
 |_=>exact p2.elim
theorem i7{op op':CmpOp}{p p':Int->Int->Bool}(ho:OpR X (compareOp op) (rI0 fun i j=>.bl (p i j)))(ho':OpR X (compareOp op') (rI0 fun i j=>.bl (p' i j)))(ha:FE X H0 Ex a fa)(hb:FE X H0 Ex b fb)(hc:FE X H0 Ex c fc)
    (hm:lastMarks [op,op'] [b,c]=false:=by with_unfolding_all rfl):FE X H0 Ex (.Compare a [op,op'] [b,c] pos) (bw p p' fa fb fc):=
 ⟨PE.pre (pA ho ho' ha.go hb.go hc.go hm) fun _ _ _ h=>lx h⟩
theorem dY{op op':CmpOp}{p p':Int->Int->Bool}(ho:OpR X (compareOp op) (rI0 fun i j=>.bl (p i j)))(ho':OpR X (compareOp op') (rI0 fun i j=>.bl (p' i j)))(ha:FE X H0 Ex a fa)(hb:FE X H0 Ex b fb)(hc:FE X H0 Ex c fc)
    (hm:lastMarks [op,op'] [b,c]=false:=by with_unfolding_all rfl):FT X H0 Ex (.Compare a [op,op'] [b,c] pos) (ftB (bw p p' fa fb fc)):=by
 refine ⟨PT.pre (pB ho ho' ha.go hb.go hc.go hm) ?_⟩;rintro σ H Q ⟨Hs,ρ,ts,S,p⟩;refine lx ⟨Hs,ρ,ts,S,(Post.bind p).imp fun d _ p1 v H1 S1=>?_⟩;obtain ⟨b,rfl,k⟩:=lr p1;exact ⟨b,SR.isBl S1,k H1 S1.drop⟩
def isN:D->Bool
 | .non=>true
 |_=>false
def ly(neg:Bool):D->D->Res D:=fun x y=>match y with
 | .non=>.ok (.bl (neg != isN x))
 |_=>.bad
theorem pT(n:Bool):∀ x y,noX (ly n x y)=true:=by intro x y;unfold ly;split<;>rfl
theorem tQ{H:Hp}{v:V}{d:D}(r:Rep H v d):decide (v=.non)=isN d:=by cases r<;>rfl
theorem SR.isNon{Hs H0 H:Hp}{vs:List (Option V)}{ds:List (Option D)}{v:V}(S:SR Hs H0 H (some v::vs) (some .non::ds)):v=.non:=by cases S.head;rfl
theorem rD:FOp X (compareOp .IsNot) (ly true):=by
 refine ⟨OpR.pre qU ?_⟩;rintro x y H Q ⟨Hs,H0,vs,ds,d1,d2,d,S,e,k⟩;unfold ly at e;split at e
 ·cases e
  refine ⟨SR.isNon S,?_⟩;rw[tQ S.drop.head];have:(!isN d1)=(true != isN d1):=by cases isN d1<;>rfl
  rw[this];exact k _ H S.drop.drop.bl
 ·cases e
def pU(i j:Nat)(fa:ac->Res (List D)):ac->FOut:=fun ρ=>aft (fa ρ) fun ds=>match ds with
 | [d,d']=>if d.tag=.b\/d'.tag=.b\/ρ.length<=i\/ρ.length<=j then .bad else .nx ((ρ.set i (some d.fz)).set j (some d'.fz))
 |_=>.bad
theorem tR{i j:Nat}{x y:Str}{fa:ac->Res (List D)}{px py pt:Pos}{kt k2 pt2}(hc:X.calm=true)(hN:X.N.Nodup)(hi:X.N[i]?=some x)(hj:X.N[j]?=some y)(hij:i≠j)
    (hx:X.env.scope.names.lookup x=some .local) (hy:X.env.scope.names.lookup y=some .local) (ha:FA X H0 Ex [a,b] fa)
    (hw:swappedStores [.Tuple [.Name x px,.Name y py] kt pt] (.Tuple [a,b] k2 pt2) X.env=pure (some [x,y]))
    (hs:swapsWithSole [.Tuple [.Name x px,.Name y py] kt pt] (.Tuple [a,b] k2 pt2) pos.line X.env=pure false:=by rfl) :
    FS X H0 Ex (.Assign [.Tuple [.Name x px,.Name y py] kt pt] (.Tuple [a,b] k2 pt2) pos) (pU i j fa):=by
 refine ⟨PS.pre (sL hc hN hi hj hij hx hy ha.go hw hs) ?_⟩;rintro En σ H ⟨Hs,ρ,⟨S,n⟩,p⟩;refine ⟨Hs,ρ,[],S,(PostS.aft p).imp fun ds _ p1 us H1 hl S1=>?_⟩;split at p1
 ·rename_i d d' _
  split at p1
  ·exact p1.elim
  ·rename_i hb
   obtain ⟨u,w,rfl⟩:=lu hl rfl;have S2:SR Hs H0 H1 (some w::some u::σ) (some d'::some d::ρ):=SX.held hl S1;have hd:d.tag≠.b:=fun z=>hb (.inl z);have hd':d'.tag≠.b:=fun z=>hb (.inr (.inl z));have hi':i<ρ.length:=Nat.lt_of_not_le fun z=>hb (.inr (.inr (.inl z)));have hj':j<ρ.length:=Nat.lt_of_not_le fun z=>hb (.inr (.inr (.inr z)))
   have S3:=SR.set (S2.frz hd') (by rw[d'.fz_tag];decide) (i:=j+1) (by simpa using hj');have S3:SR Hs H0 H1 (some u::σ.set j (some w)) (some d::ρ.set j (some d'.fz)):=S3;have S4:=SR.set (S3.frz hd) (by rw[d.fz_tag];decide) (i:=i) (by simpa using hi');refine ⟨u,w,rfl,p1 _ H1 ⟨?_,?_⟩⟩
   ·rw[List.set_comm _ _ hij,List.set_comm (some d.fz) (some d'.fz) hij];exact S4
   ·exact (n.set fun d0 z=>by cases z;rw[d.fz_tag];decide).set fun d0 z=>by cases z;rw[d'.fz_tag];decide
 ·exact p1.elim
end
def Fly(h0:Heap)(st:List Env)(a T:Addr)(C:Value)(h:Heap):Prop:=
 ∃ a0,Heap.FlyingW (PySem.W.hideAll h0 (a::T::frs st)) st a C a0 h/\h0.UpToSlots h
section
variable {X:Cx}{pins:List (Addr × Obj)}{σ:St}{H1 H':Hp}{s1 s':Shared}{a T:Addr}{C:Value}{h:Heap}
theorem im{tk:Nat}(I:Inv X pins σ H1 s1)(hos:s'.os=s1.os)(bare:AllBare s'.gens)(u:Un (frs X.stack) [] H1 H' s1.heap s'.heap)(hok:HOk X.prog X.w H' s'.heap)(ha:H' a=none)(hT:H' T=none)(na:s1.heap.get? a=none)(nT:s1.heap.get? T=none)
    (F:Fly s'.heap X.stack a T C h):Inv X pins σ H' { s' with heap:=h,toks:=tk }:=by
 obtain ⟨a0,⟨st,_,_,_⟩,up⟩:=F;have kB:∀ b o,s'.heap.get? b=some o->b≠a->b≠T->b∉frs X.stack->h.get? b=some o:=fun b o e h1 h2 h3=>st b o (PySem.W.hideAll_get _ e fun m=>by
  rcases List.mem_cons.mp m with z | m
  ·exact h1 z
  ·exact (List.mem_cons.mp m).elim h2 h3)
 have frN:∀ b∈frs X.stack,H' b=none:=fun b m=>by
  obtain ⟨_,o,ho,_⟩:=I.stack.mem m;exact u.free b o ho (I.stkFree b m) (by simp)
 have FF:s'.heap.FunFrames X.base X.stack:=dz u (fun _ m=>m) (fun b m=>I.stkFree b m) I.stack;have ne:∀ b o,s1.heap.get? b=some o->b≠a/\b≠T:=fun b o e=>⟨fun z=>(by rw[z,na] at e;cases e),fun z=>(by rw[z,nT] at e;cases e)⟩
 have slotB:∀ b o,s'.heap.get? b=some o->b∈frs X.stack->∃ sl,h.get? b=some { o with slots:=sl }:=fun b o e m=>by
  obtain ⟨_,o',ho',hd⟩:=FF.mem m;rw[e] at ho'
  cases ho'
  exact up b o e hd
 refine I.call' (s':={ s' with heap:=h,toks:=tk }) (ch:=[]) hos ⟨fun b o e n hb hx=>?_,fun b o e n hb hx=>?_,u.free,fun b o e hx=>?_,u.tups,u.frzs,u.tbls⟩ (fun b ob e=>?_) bare (fun _ z=>nomatch z)
 ·exact kB b o (u.keep b o e n hb hx) (ne b o e).1 (ne b o e).2 hb
 ·obtain ⟨sl,e1⟩:=u.slot b o e n hb hx
  obtain ⟨sl2,e2⟩:=slotB b _ e1 hb;exact ⟨sl2,e2⟩
 ·obtain ⟨o1,e1⟩:=u.there b o e hx
  by_cases hst:b∈frs X.stack
  ·obtain ⟨sl2,e2⟩:=slotB b _ e1 hst
   exact ⟨_,e2⟩
  ·exact ⟨o1,kB b o1 e1 (ne b o e).1 (ne b o e).2 hst⟩
 ·refine (hok b ob e).stay (fun c v hc q=>kB c v q ?_ ?_ ?_) (fun _ q=>q) fun _ _ q=>q
  ·rintro rfl
   rcases hc with rfl | hc
   ·rw[ha] at e;cases e
   ·rw[ha] at hc;cases hc
  ·rintro rfl
   rcases hc with rfl | hc
   ·rw[hT] at e;cases e
   ·rw[hT] at hc;cases hc
  ·intro m
   have:=frN c m;rcases hc with rfl | hc
   ·rw[this] at e;cases e
   ·rw[this] at hc;cases hc
theorem Inv.gone{m:Str->Option Value}{tk:Nat}(I:Inv X pins σ H1 s1)(hn:h.Ns X.env.locals m)(hs:Heap.SameBut X.env.locals s1.heap h):Inv X pins (List.replicate X.N.length none) H1 { s1 with heap:=h,toks:=tk }:=by
 obtain ⟨m0,hn0,_⟩:=id I.loc;obtain ⟨oL,_,_,hoL,_⟩:=id hn0;refine ⟨I.ok,I.os,I.bare,⟨fun b o e n hb hx=>?_,fun b o e n hb hx=>?_,I.base.free,fun b o e hx=>?_,I.base.tups,I.base.frzs,I.base.tbls⟩,⟨m,hn,fun j y v' e1 e2 e3=>?_⟩,fun y c e=>?_,I.free,I.freeC,fun p hp=>?_,fun b ob e=>?_,by simp⟩
 ·exact (hs.2 b (Nat.ne_of_lt (Nat.lt_of_lt_of_le (Heap.lt_size e) I.ok.above))).trans (I.base.keep b o e n hb hx)
 ·obtain ⟨sl,e1⟩:=I.base.slot b o e n hb hx
  exact ⟨sl,(hs.2 b (Nat.ne_of_lt (Nat.lt_of_lt_of_le (Heap.lt_size e) I.ok.above))).trans e1⟩
 ·obtain ⟨o',e1⟩:=I.base.there b o e hx
  exact ⟨o',(hs.2 b (Nat.ne_of_lt (Nat.lt_of_lt_of_le (Heap.lt_size e) I.ok.above))).trans e1⟩
 ·have:=List.mem_of_getElem? e2
  rw[List.mem_replicate] at this
  cases this.2
 ·obtain ⟨w',z⟩:=I.cell y c e
  exact ⟨w',z.sameBut hs (I.cne y c e)⟩
 ·obtain ⟨e,n,ne,nf,d⟩:=I.pin p hp
  exact ⟨(hs.2 p.1 ne).trans e,n,ne,nf,d⟩
 ·refine (I.hok b ob e).stay (fun c w' hc q=>(hs.2 c ?_).trans q) (fun _ q=>q) fun _ _ q=>q
  rintro rfl;rcases hc with rfl | hc
  ·rw[I.free] at e;cases e
  ·rw[I.free] at hc;cases hc
end
abbrev Cx.att(X:Cx)(E:Value->Shared->Prop)(pn:List (Addr × Obj)):Cx:={ X with xe:=E,pn:=pn }
abbrev Cx.han(X:Cx)(a:Addr)(E:Value->Shared->Prop):Cx:={ X with A:=X.A.mark (some (.ref a)),calm:=false,xe:=E }
section
variable {X:Cx}{pins pins':List (Addr × Obj)}{σ:St}{H:Hp}{s:Shared}{E:Value->Shared->Prop}
theorem Cx.Ok.att{pn}(ok:X.Ok):(Cx.att X E pn).Ok:=⟨ok.mod,ok.kind,ok.glob,ok.blt,ok.above,ok.inj,ok.has,ok.cab,ok.hd,ok.frames,ok.stk,ok.exf,ok.bs,ok.bsz,ok.noex,ok.exfs,ok.funs,ok.frf⟩
theorem Cx.Ok.unatt{pn}(ok:(Cx.att X E pn).Ok):X.Ok:=⟨ok.mod,ok.kind,ok.glob,ok.blt,ok.above,ok.inj,ok.has,ok.cab,ok.hd,ok.frames,ok.stk,ok.exf,ok.bs,ok.bsz,ok.noex,ok.exfs,ok.funs,ok.frf⟩
theorem Inv.att(I:Inv X pins σ H s):Inv (Cx.att X E (X.pn++pins)) [] σ H s:=⟨Cx.Ok.att I.ok,I.os,I.bare,I.base,I.loc,I.cell,I.free,I.freeC,fun p hp=>I.pin p (by simpa using hp),I.hok,I.len⟩
theorem Inv.unatt(I:Inv (Cx.att X E (X.pn++pins)) pins' σ H s):Inv X pins σ H s:=⟨Cx.Ok.unatt I.ok,I.os,I.bare,I.base,I.loc,I.cell,I.free,I.freeC,fun p hp=>I.pin p (List.mem_append_left _ hp),I.hok,I.len⟩
theorem SP.unatt{D:Ends}{f:Flow}(h:SP (Cx.att X E (X.pn++pins)) pins' D f s):SP X pins D f s:=by
 cases f with
 |next=>obtain ⟨σ,H,I,q⟩:=h;exact ⟨σ,H,Inv.unatt I,q⟩
 |brk=>obtain ⟨σ,H,I,q⟩:=h;exact ⟨σ,H,Inv.unatt I,q⟩
 |cont=>obtain ⟨σ,H,I,q⟩:=h;exact ⟨σ,H,Inv.unatt I,q⟩
 |ret u=>obtain ⟨v,σ,H,I,r,q⟩:=h;exact ⟨v,σ,H,Inv.unatt I,r,q⟩
theorem Inv.han{a:Addr}(I:Inv X pins σ H s):Inv (Cx.han X a E) pins σ H s:=⟨⟨I.ok.mod,I.ok.kind,I.ok.glob,I.ok.blt,I.ok.above,I.ok.inj,I.ok.has,I.ok.cab,(fun z=>nomatch z),I.ok.frames,I.ok.stk,I.ok.exf,I.ok.bs,I.ok.bsz,I.ok.noex,I.ok.exfs,I.ok.funs,I.ok.frf⟩,I.os,I.bare,I.base,I.loc,I.cell,I.free,I.freeC,I.pin,I.hok,I.len⟩
theorem Inv.unhan{a:Addr}(I:Inv (Cx.han X a E) pins σ H s)(ok:X.Ok):Inv X pins σ H s:=⟨ok,I.os,I.bare,I.base,I.loc,I.cell,I.free,I.freeC,I.pin,I.hok,I.len⟩
end
def b9(H:Hp)(fp:List Addr):Hp:=fun b=>if b∈fp then none else H b
theorem kA{H:Hp}{fp:List Addr}{b:Addr}(h:b∉fp):b9 H fp b=H b:=by unfold b9;rw[if_neg h]
theorem jv{H:Hp}{fp:List Addr}:Same (b9 H fp) H:=fun b o e=>by
 unfold b9 at e;split at e
 ·cases e
 ·exact e
theorem Fine.notIn{Hs H0 Hf H:Hp}{fp:List Addr}(F:Fine Hs H0 Hf H fp):Same Hf (b9 H fp)/\Same H0 (b9 H fp):=by
 refine ⟨fun b o e=>?_,fun b o e=>?_⟩
 ·rw[kA fun m=>by rw[(F.own b m).1] at e;cases e];exact F.fh b o e
 ·rw[kA fun m=>by rw[(F.own b m).2] at e;cases e];exact F.zh b o e
theorem SR.back{Hs H0 Hf H H':Hp}{fp:List Addr}{vs:List (Option V)}{ds:List (Option D)}(F:Fine Hs H0 Hf H fp)(S:SR Hf (b9 H fp) H' vs ds):SR Hs H0 H' vs ds:=by
 obtain ⟨Hg,fq,O,G⟩:=S;have lo:∀ b,b9 H fp b=none->H0 b=none:=fun b z=>by
  cases e:H0 b with
  |none=>rfl
  |some o=>have:=F.notIn.2 b o e;rw[z] at this;cases this
 refine ⟨Hg,fq,O,G.nd,fun b m=>⟨(G.own b m).1,lo b (G.own b m).2⟩,G.fh,F.notIn.2.trans G.zh,F.sf.trans G.sf,fun b o e=>?_⟩;rcases G.new b o e with ⟨o',z⟩ | z
 ·exact F.new b o' z
 ·exact .inr (lo b z)
section
variable {X:Cx}{Ex:Value->Prop}{H0:Hp}{g:ac->FOut}{body:List Stmt}{i:Nat}{n cn dn:Str}{C Dc:Addr}{p1 p2 p3 p4 p5 p6 p7 pos:Pos}
end
def asc(x:Str):Bool:=x.cps.all (· < 128)
def fj(x:Str):List D:=x.cps.toList.map fun c=>.str ⟨#[c]⟩
def Its(x:Str):It:=⟨fun i _=>i<x.cps.size,fun i H v H'=>H'=H/\∃ c,x.cps[i]?=some c/\v=.str ⟨#[c]⟩,fun i _=>x.cps.size<=i⟩
theorem tS{x:Str}{B:Hp}:df (Its x) B (fj x):=by
 intro H s i;refine ⟨fun d hd=>?_,fun hi=>(show x.cps.size<=i from Nat.le_of_eq (by simpa [fj] using hi.symm))⟩;simp only[fj,List.getElem?_map] at hd
 cases e:x.cps.toList[i]? with
 |none=>rw[e] at hd;cases hd
 |some c=>
  rw[e] at hd
  cases hd
  have e':x.cps[i]?=some c:=by simpa using e
  refine ⟨(Array.getElem?_eq_some_iff.mp e').1,fun v H' ⟨e1,c',e2,e3⟩=>⟨rfl,.inl ⟨e1,?_⟩⟩⟩;rw[e'] at e2
  cases e2
  rw[e3];exact .str
theorem pV{P:Program}{w:World}{K:PySem.W.Frag}{tg:Expr}{x:Str}{t:Tok}(it:Addr):Turn P w K tg (Its x) [it] it (fun i h=>h.IsStrIter it "str_ascii_iterator" x t i) where
 mem:=List.mem_singleton.mpr rfl
 obj:=fun i h st b hb=>by
  cases List.mem_singleton.mp hb
  obtain ⟨o,e,_,d⟩:=st;exact ⟨o,e,fun v z=>by rw[d] at z;cases z⟩
 keep:=fun i h h' st k=>let ⟨o,e,r⟩:=st;⟨o,k it (List.mem_singleton.mpr rfl) o e,r⟩;item:=by
  intro X e1 e2 e3 hc i pins s σ H E I hf st hg;subst e1 e2 e3;obtain ⟨g0,g1,_,g3,g4,g5⟩:=hf it (List.mem_singleton.mpr rfl);refine wpAny_pyNext_ascii_item st (c:=x.cps[i]'hg) (Array.getElem?_eq_getElem hg) fun h' st' sb=>?_;have J:Inv X pins σ H { s with heap:=h',toks:=s.toks+1 }:=I.turned (fun b o hb e=>(sb.2 b hb).trans e) g0 g1 g3 g4 g5;obtain ⟨o,e,c,d⟩:=id st'
  exact ⟨_,rfl,kX (s:={ s with heap:=h',toks:=s.toks+1 }) e c d (by decide) ⟨.str _,H,J,⟨_,rfl⟩,⟨rfl,_,Array.getElem?_eq_getElem hg,rfl⟩,st',fun b hb=>(hf b hb).1⟩⟩
 done:=by
  intro X e1 e2 e3 hc i pins s σ H E I hf st hg;subst e1 e2 e3;obtain ⟨g0,g1,_,g3,g4,g5⟩:=hf it (List.mem_singleton.mpr rfl);have hg:x.cps.size<=i:=hg;exact wpAny_pyNext_ascii_end (I.ok.hd hc) st (Array.getElem?_eq_none hg) fun h' eb=>⟨rfl,I.turned (t':=s.toks) (fun b o hb e=>eb b o hb e) g0 g1 g3 g4 g5⟩
 self:=fun _ _ _ _ _ st h=>wpAny_pyIter_striter_ascii st h
section
variable {X:Cx}{Ex:Value->Prop}{H0:Hp}{e tg:Expr}{f:ac->Res D}{tl:TE}
def wa(K:PySem.W.Frag)(tl:TE):TI:=fun σ H R=>tl σ H fun v H1=>(∃ a,v=.ref a/\(∃ xs,SqL K H1 a xs)/\R (Itl K a) H1)\/(∃ a,v=.ref a/\(∃ xs,SqT K H1 a xs)/\R (Itt K a) H1)\/∃ x,v=.str x/\asc x=true/\R (Its x) H1
theorem tT(hl:PE X e tl):PI X tg e (wa X.K tl):=by
 intro pins s σ H R I h;refine thn (hl pins s σ H _ I h) fun v s1 ⟨x,H1,I1,r1,q1⟩=>?_;have fresh:∀ b∈[s1.heap.objs.size],cQ X pins H1 b:=fun b hb=>by
  cases List.mem_singleton.mp hb
  exact I1.fpOk (Nat.le_refl _) (I1.hok.fresh (Nat.le_refl _))
 rcases q1 with ⟨a,rfl,⟨xs,hq⟩,q⟩ | ⟨a,rfl,⟨xs,hq⟩,q⟩ | ⟨z,rfl,ha,q⟩
 ·cases r1
  obtain ⟨its,rv,p,_⟩:=I1.list hq;exact wpAny_pyIter_list p.isList ⟨s1.heap.objs.size,[s1.heap.objs.size],_,_,H1,rfl,I1.kept (t':=s1.toks) (fun b o e=>Heap.get?_push_of_some _ e),nJ a _,⟨_,Heap.get?_push_size _ rfl,rfl,rfl⟩,fresh,q⟩
 ·cases r1
  obtain ⟨its,rv,p,_⟩:=I1.tuple hq;exact wpAny_pyIter_tuple (show s1.heap.IsTuple a its.toArray from p) ⟨s1.heap.objs.size,[s1.heap.objs.size],_,_,H1,rfl,I1.kept (t':=s1.toks) (fun b o e=>Heap.get?_push_of_some _ e),mJ a _,⟨_,Heap.get?_push_size _ rfl,rfl,rfl⟩,fresh,q⟩
 ·obtain ⟨t,rfl⟩:=r1
  exact wpAny_pyIter_ascii ha ⟨s1.heap.objs.size,[s1.heap.objs.size],_,_,H1,rfl,I1.kept (t':=s1.toks) (fun b o e=>Heap.get?_push_of_some _ e),pV _,⟨_,Heap.get?_push_size _ rfl,rfl,rfl⟩,fresh,q⟩
theorem tU{K:PySem.W.Frag}{B:Hp}{a:Addr}{us:List V}{ds:List D}(h:B a=some (.tup us))(R:Reps B us ds)(t:∀ e∈ds,e.tag=.f):df (Itt K a) B ds:=by
 intro H s i;have hl:=R.length;refine ⟨fun d hd=>?_,fun hi=>⟨us,SqT.of (s _ _ h),by omega⟩⟩;obtain ⟨u,hu,ru⟩:=R.get hd;refine ⟨⟨us,u,SqT.of (s _ _ h),hu⟩,fun x H' ⟨e,y⟩=>⟨t d (List.mem_of_getElem? hd),.inl ⟨e,?_⟩⟩⟩;have:=y us (SqT.of (s _ _ h));rw[hu] at this
 cases this
 exact ru
def bA(f:ac->Res D):ac->Res (List D):=fun ρ=>f ρ >>= fun d=>match d with
 | .str x=>if asc x=true then .ok (fj x) else .bad
 |d=>if d.tag=.b then .bad else be d.its
theorem eD(he:FE X H0 Ex e f):FI X H0 Ex tg e (bA f):=by
 refine ⟨PI.pre (tT he.go) ?_⟩;rintro σ H R ⟨Hs,ρ,ts,S,p⟩;refine ⟨Hs,ρ,ts,S,(Post.bind p).imp fun d _ p1 v H1 S1=>?_⟩
 have seq:Post Ex (if d.tag=.b then .bad else be d.its) (fun items=>∀ J H' Hf fp,df J Hf items->Own Hf H' fp (tvs ts++σ) (tds ts++ρ)->Fine Hs H0 Hf H' fp->R J H')->(∃ a,v=.ref a/\(∃ xs,SqL X.K H1 a xs)/\R (Itl X.K a) H1)\/(∃ a,v=.ref a/\(∃ xs,SqT X.K H1 a xs)/\R (Itt X.K a) H1)\/∃ x,v=.str x/\asc x=true/\R (Its x) H1:=by
  intro p1;split at p1
  ·exact p1.elim
  ·rename_i tb
   cases e:d.its with
   |none=>rw[e] at p1;exact p1.elim
   |some ys=>
    rw[e] at p1;obtain ⟨Hf,fp,O,F⟩:=S1;obtain ⟨a,us,rfl,Hg,fq,O',F',_,ha,R⟩:=O.itemsC F e tb
    cases il:d.isL with
    |true=>
     rw[il] at ha;exact .inl ⟨a,rfl,⟨us,SqL.of (F'.fh _ _ ha)⟩,p1 _ H1 Hg fq (tK ha R (D.its_tag e)) O' F'⟩
    |false=>
     rw[il] at ha;exact .inr (.inl ⟨a,rfl,⟨us,SqT.of (F'.fh _ _ ha)⟩,p1 _ H1 Hg fq (tU ha R (D.its_tag e)) O' F'⟩)
 cases d with
 |str x=>
  have p1:Post Ex (if asc x=true then .ok (fj x) else .bad) (fun items=>∀ J H' Hf fp,df J Hf items->Own Hf H' fp (tvs ts++σ) (tds ts++ρ)->Fine Hs H0 Hf H' fp->R J H'):=p1;split at p1
  ·rename_i hx
   have S1:SR Hs H0 H1 (some v::(tvs ts++σ)) (some (.str x)::(tds ts++ρ)):=S1
   cases SR.isStr S1
   obtain ⟨Hf,fp,O,F⟩:=S1.drop;exact .inr (.inr ⟨x,rfl,hx,p1 _ H1 Hf fp tS O F⟩)
  ·exact p1.elim
 |_=>exact seq p1
end
def cu:List (Option Bool)->Option Bool
 | []=>some true
 |none::_=>none
 |some b::r=>match cu r with
  |some c=>some (b&&c)
  |none=>none
def aG:Nat->D->D->Option Bool
 |_,.int i,.int j=>some (decide (i=j))
 |_,.str i,.str j=>some (decide (i=j))
 |n+1,.lst _ xs,.lst _ ys=>if xs.length=ys.length then cu ((xs.zip ys).map fun p=>aG n p.1 p.2) else some false
 |n+1,.tup xs,.tup ys=>if xs.length=ys.length then cu ((xs.zip ys).map fun p=>aG n p.1 p.2) else none
 |_,_,_=>none
theorem i8:∀ {l:List (Option Bool)} {b:Bool},cu l=some b->∃ e:Nat->Bool,(∀ j,j<l.length->l[j]?=some (some (e j)))/\b=(List.range l.length).all e
 | [],b,h=>⟨fun _=>true,fun j hj=>by simp at hj,by simp[cu] at h;simp[<- h]⟩
 |none::r,b,h=>by simp[cu] at h
 |some a::r,b,h=>by
  unfold cu at h
  cases e:cu r with
  |none=>rw[e] at h;cases h
  |some c=>
   rw[e] at h;have h:(a&&c)=b:=Option.some.inj h;obtain ⟨f,h1,h2⟩:=i8 e;refine ⟨fun j=>match j with | 0=>a | j+1=>f j,fun j hj=>?_,?_⟩
   ·cases j with
    |zero=>rfl
    |succ j=>simpa using h1 j (by simpa using hj)
   ·rw[<- h,h2,List.length_cons,List.range_succ_eq_map,List.all_cons,List.all_map]
    rfl
theorem pW{H:Hp}:∀ (n:Nat) {v:V} {d d':D} {b:Bool},Rep H v d->Rep H v d'->aG n d d'=some b->b=true:=by
 have seqs:∀ (n:Nat),(∀ {v:V} {d d':D} {b:Bool},Rep H v d->Rep H v d'->aG n d d'=some b->b=true)->∀ {us:List V} {xs ys:List D} {b:Bool},Reps H us xs->Reps H us ys->cu ((xs.zip ys).map fun p=>aG n p.1 p.2)=some b->b=true:=by
  intro n ih us;induction us with
  |nil=>intro xs ys b r1 r2 h;cases r1;cases r2;simp[cu] at h;first | exact h | exact h.symm
  |cons u us ihu=>
   intro xs ys b r1 r2 h
   cases r1 with
   |cons a1 b1=>
    cases r2 with
    |cons a2 b2=>
     rename_i d1 ds1 d2 ds2;rw[List.zip_cons_cons,List.map_cons] at h
     cases e:aG n d1 d2 with
     |none=>rw[e] at h;cases h
     |some k=>
      rw[e] at h;unfold cu at h
      cases e2:cu ((ds1.zip ds2).map fun p=>aG n p.1 p.2) with
      |none=>rw[e2] at h;cases h
      |some c=>
       rw[e2] at h;have h:(k&&c)=b:=Option.some.inj h;rw[<- h,ih a1 a2 e,ihu b1 b2 e2];rfl
 intro n;induction n with
 |zero=>
  intro v d d' b r1 r2 h
  cases r1<;>cases r2<;>first | (simp[aG] at h;done) | (simp[aG] at h;first | exact h | exact h.symm)
 |succ n ih=>
  intro v d d' b r1 r2 h
  cases r1 with
  |int=>cases r2;simp[aG] at h;first | exact h | exact h.symm
  |str=>cases r2;simp[aG] at h;first | exact h | exact h.symm
  |lst h1 q1=>
   cases r2 with
   |lst h2 q2=>
    rw[h1] at h2;cases h2;unfold aG at h;rw[if_pos (by rw[<- q1.length,<- q2.length])] at h;exact seqs n ih q1 q2 h
   |tup h2 q2=>rw[h1] at h2;cases h2
   |_=>simp[aG] at h
  |tup h1 q1=>
   cases r2 with
   |tup h2 q2=>
    rw[h1] at h2;cases h2;unfold aG at h;rw[if_pos (by rw[<- q1.length,<- q2.length])] at h;exact seqs n ih q1 q2 h
   |lst h2 q2=>rw[h1] at h2;cases h2
   |_=>simp[aG] at h
  |_=>cases r2<;>simp[aG] at h
section
variable {X:Cx}{pins:List (Addr × Obj)}{σ:St}{H:Hp}{s:Shared}
theorem qC(I:Inv X pins σ H s):∀ (n:Nat) (A:Around) {v v':V} {u u':Value} {d d':D} {b:Bool},A.units+n<cLine->Rep H v d->Rep H v' d'->RelV v u->RelV v' u'->aG n d d'=some b →
    SeqAt.EqAt A s u u' b/\∀ a a',v=.ref a->v'=.ref a'->SeqAt.RcAt A s u u' b:=by
 intro n;have base:∀ {n:Nat} {A:Around} {v v':V} {u u':Value} {i j:Int} {b:Bool},Rep H v (.int i)->Rep H v' (.int j)->RelV v u->RelV v' u'->aG n (.int i) (.int j)=some b->SeqAt.EqAt A s u u' b/\∀ a a',v=.ref a->v'=.ref a'->SeqAt.RcAt A s u u' b:=by
  intro n A v v' u u' i j b r1 r2 e1 e2 h
  cases r1;cases r2
  obtain ⟨t,rfl⟩:=e1;obtain ⟨t',rfl⟩:=e2;have hb:(i == j)=b:=by cases n<;>(simp[aG] at h;rw[<- h];rfl)
  refine ⟨hb ▸ (MeetsSeq.EqGives.int i j t t').at A s,fun a a' z=>nomatch z⟩
 have baseS:∀ {n:Nat} {A:Around} {v v':V} {u u':Value} {i j:Str} {b:Bool},Rep H v (.str i)->Rep H v' (.str j)->RelV v u->RelV v' u'->aG n (.str i) (.str j)=some b->SeqAt.EqAt A s u u' b/\∀ a a',v=.ref a->v'=.ref a'->SeqAt.RcAt A s u u' b:=by
  intro n A v v' u u' i j b r1 r2 e1 e2 h
  cases r1;cases r2
  obtain ⟨t,rfl⟩:=e1;obtain ⟨t',rfl⟩:=e2;have hb:(i == j)=b:=by
   have h:decide (i=j)=b:=by cases n<;>(simp only[aG] at h;exact Option.some.inj h)
   rw[<- h,Bool.eq_iff_iff];simp
  refine ⟨hb ▸ (eqGives_str i j t t').at A s,fun a a' z=>nomatch z⟩
 induction n with
 |zero=>
  intro A v v' u u' d d' b hu r1 r2 e1 e2 h
  cases d with
  |int i=>cases d' with | int j=>exact base r1 r2 e1 e2 h | _=>simp[aG] at h
  |str i=>cases d' with | str j=>exact baseS r1 r2 e1 e2 h | _=>simp[aG] at h
  |_=>simp[aG] at h
 |succ n ih=>
  intro A v v' u u' d d' b hu r1 r2 e1 e2 h;have items:∀ {us us':List V} {its its':List Value} {xs ys:List D} {b:Bool},Reps H us xs->Reps H us' ys->Vals us its->Vals us' its'->xs.length=ys.length->cu ((xs.zip ys).map fun p=>aG n p.1 p.2)=some b →
      ∃ e:Nat->Bool,(∀ j (h1:j<its.toArray.size) (h2:j<its'.toArray.size),SeqAt.EqAt A.in1 s its.toArray[j] its'.toArray[j] (e j))/\b=(List.range its.toArray.size).all e:=by
   intro us us' its its' xs ys b q1 q2 w1 w2 hl h;obtain ⟨e,he,hb⟩:=i8 h;have l1:((xs.zip ys).map fun p=>aG n p.1 p.2).length=its.length:=by rw[List.length_map,List.length_zip,<- w1.length,q1.length];omega
   refine ⟨e,fun j h1 h2=>?_,by rw[hb,l1];rfl⟩;have j1:j<its.length:=by simpa using h1
   have j2:j<its'.length:=by simpa using h2
   have:=he j (by rw[l1];exact j1);rw[List.getElem?_map] at this
   cases ez:(xs.zip ys)[j]? with
   |none=>rw[ez] at this;cases this
   |some p=>
    rw[ez] at this;have hd:aG n p.1 p.2=some (e j):=Option.some.inj this;obtain ⟨hx,hy⟩:=List.getElem?_zip_eq_some.mp ez;obtain ⟨v1,hv1,rp1⟩:=q1.get hx;obtain ⟨v2,hv2,rp2⟩:=q2.get hy;obtain ⟨u1,hu1,rl1⟩:=w1.get hv1;obtain ⟨u2,hu2,rl2⟩:=w2.get hv2;have g1:its.toArray[j]=u1:=by rw[List.getElem?_eq_getElem j1] at hu1;simpa using Option.some.inj hu1
    have g2:its'.toArray[j]=u2:=by rw[List.getElem?_eq_getElem j2] at hu2;simpa using Option.some.inj hu2
    rw[g1,g2];exact (ih A.in1 (show A.units+1+n<cLine by omega) rp1 rp2 rl1 rl2 hd).1
  have fin:∀ {a a':Addr} {b:Bool} {d d':D},Rep H (.ref a) d->Rep H (.ref a') d'->aG (n+1) d d'=some b->SeqAt.RcAt A s (.ref a) (.ref a') b->SeqAt.EqAt A s (.ref a) (.ref a') b:=by
   intro a a' b d d' r1 r2 hd hr;by_cases z:a=a'
   ·subst z
    rw[pW (n+1) r1 r2 hd];exact SeqAt.EqAt.same _
   ·exact SeqAt.EqAt.of_refs z hr
  cases d with
  |int i=>cases d' with | int j=>exact base r1 r2 e1 e2 h | _=>simp[aG] at h
  |str i=>cases d' with | str j=>exact baseS r1 r2 e1 e2 h | _=>simp[aG] at h
  |lst t xs=>
   cases d' with
   |lst t' ys=>
    have hd:=h
    cases r1 with
    |lst h1 q1=>
     rename_i a1 us1
     cases r2 with
     |lst h2 q2=>
      rename_i a2 us2
      cases e1;cases e2
      obtain ⟨its,w1,p1,_⟩:=I.list (SqL.of h1);obtain ⟨its',w2,p2,_⟩:=I.list (SqL.of h2);have rc:SeqAt.RcAt A s (.ref a1) (.ref a2) b:=by
       unfold aG at h;by_cases hl:xs.length=ys.length
       ·rw[if_pos hl] at h
        obtain ⟨e,he,hb⟩:=items q1 q2 w1 w2 hl h;rw[hb];exact SeqAt.RcAt.lists p1.isList p2.isList (by simp[<- w1.length,<- w2.length,q1.length,q2.length,hl]) (by omega) he
       ·rw[if_neg hl] at h
        cases h
        exact SeqAt.RcAt.lists_lengths p1.isList p2.isList (by simp[<- w1.length,<- w2.length,q1.length,q2.length];exact hl) (by omega)
      exact ⟨fin (.lst h1 q1) (.lst h2 q2) hd rc,fun a a' z z'=>by cases z;cases z';exact rc⟩
   |_=>simp[aG] at h
  |tup xs=>
   cases d' with
   |tup ys=>
    have hd:=h
    cases r1 with
    |tup h1 q1=>
     rename_i a1 us1
     cases r2 with
     |tup h2 q2=>
      rename_i a2 us2
      cases e1;cases e2
      obtain ⟨its,w1,p1,_⟩:=I.tuple (SqT.of h1);obtain ⟨its',w2,p2,_⟩:=I.tuple (SqT.of h2);have rc:SeqAt.RcAt A s (.ref a1) (.ref a2) b:=by
       unfold aG at h;by_cases hl:xs.length=ys.length
       ·rw[if_pos hl] at h
        obtain ⟨e,he,hb⟩:=items q1 q2 w1 w2 hl h;have lz:its.toArray.size=its'.toArray.size:=by simp[<- w1.length,<- w2.length,q1.length,q2.length,hl]
        have:=SeqAt.RcAt.tuples (s:=s) (A:=A) (show s.heap.IsTuple _ its.toArray from p1) (show s.heap.IsTuple _ its'.toArray from p2) (by omega) he;rw[<- lz,Nat.min_self,beq_self_eq_true,Bool.and_true] at this;rw[hb];exact this
       ·rw[if_neg hl] at h;cases h
      exact ⟨fin (.tup h1 q1) (.tup h2 q2) hd rc,fun a a' z z'=>by cases z;cases z';exact rc⟩
   |_=>simp[aG] at h
  |_=>simp[aG] at h
end
section
variable {X:Cx}
def lA:D->Bool
 | .lst _ _=>true
 | .tup _=>true
 |_=>false
theorem tV(hu:X.A.units+4<cLine):OpR X (compareOp .Eq) (fun x y H Q=>∃ d d' b a a',x=.ref a/\y=.ref a'/\Rep H x d/\Rep H y d'/\aG 4 d d'=some b/\Q (.bl b) H):=by
 intro pins s σ H x y v u Q I rx ry h;obtain ⟨d,d',b,a,a',rfl,rfl,r1,r2,hd,q⟩:=h;have:=(qC I 4 X.A hu r1 r2 rx ry hd).2 a a' rfl rfl;exact this _ _ _ _ ⟨.bl b,H,I,rfl,q⟩
def dEq:D->D->Res D:=fun x y=>if lA x=true/\lA y=true then (match aG 4 x y with
 |some b=>.ok (.bl b)
 |none=>.bad) else cU false x y
theorem bX:∀ x y,noX (dEq x y)=true:=by
 intro x y;unfold dEq;split
 ·split<;>rfl
 ·exact dr _ _ _
theorem io{H:Hp}{v:V}{d:D}(r:Rep H v d)(h:lA d=true):∃ a,v=.ref a:=by
 cases r<;>first | exact ⟨_,rfl⟩ | cases h
theorem cP(hu:X.A.units+4<cLine):FOp X (compareOp .Eq) dEq:=by
 refine ⟨OpR.pre (OpR.or (tV hu) (tP (X:=X)).go) ?_⟩;rintro x y H Q ⟨Hs,H0,vs,ds,d1,d2,d,S,e,k⟩;unfold dEq at e;split at e
 ·rename_i hs
  split at e
  ·rename_i b hb
   cases e
   obtain ⟨a,rfl⟩:=io S.drop.head hs.1;obtain ⟨a',rfl⟩:=io S.head hs.2;exact .inl ⟨d1,d2,b,a,a',rfl,rfl,S.drop.head,S.head,hb,k _ H S.drop.drop.bl⟩
  ·cases e
 ·exact .inr ⟨Hs,H0,vs,ds,d1,d2,d,S,e,k⟩
end
def TOF(H0:Hp)(Ex:Value->Prop)(f:ac->Res (Option Int)):St->Hp->(Option Int->Hp->Prop)->Prop:=fun σ H Q=>∃ Hs ρ ts,SX Hs H0 H ts σ ρ ∧
 Post Ex (f ρ) fun o=>∀ H',SX Hs H0 H' ts σ ρ->Q o H'
structure FO (X:Cx) (H0:Hp) (Ex:Value->Prop) (e:Option Expr) (f:ac->Res (Option Int)):Prop where
 go:PO X e (TOF H0 Ex f)
section
variable {X:Cx}{Ex:Value->Prop}{H0:Hp}{e:Expr}{lo hi:Option Expr}{f:ac->Res D}{fl fh:ac->Res (Option Int)}{pos p2:Pos}
end
section
variable {X:Cx}{Ex:Value->Prop}{H0:Hp}{k:Expr}{fk:ac->Res D}{pos:Pos}
def dq:List D->Option (List Bool)
 | []=>some []
 | .bl b::r=>(dq r).map (b::·)
 |_=>none
theorem fL{H:Hp}:∀ {us:List V} {xs:List D} {bs:List Bool},Reps H us xs->dq xs=some bs->us=bs.map V.bl
 |_,_,_,.nil,h=>by simp[dq] at h;subst h;rfl
 |_,_,bs,.cons (d:=d) a r,h=>by
  cases d with
  |bl b=>
   cases a
   unfold dq at h
   cases e:dq _ with
   |none=>rw[e] at h;cases h
   |some cs=>rw[e] at h;cases h;rw[fL r e];rfl
  |_=>cases h
theorem oq(hc:X.calm=true):CallR X (.builtin "all") (fun us H Q=>∃ (a:Addr) (bs:List Bool),us=[.ref a]/\SqL X.K H a (bs.map V.bl)/\Q (.bl (bs.all id)) H):=by
 intro pins s σ H xs us Q I r h;obtain ⟨a,bs,rfl,hq,q⟩:=h
 cases r with
 |cons r1 r2=>
  cases r2
  cases r1
  obtain ⟨its,w,pl,hz⟩:=I.list hq;have hl:=w.length;have hlt:a<s.heap.objs.size:=by obtain ⟨_,e,_⟩:=pl.isList;exact Heap.lt_size e
  refine call_all_walk (wpAny_pyIter_list pl.isList ?_);refine ⟨s.heap.objs.size,[s.heap.objs.size,a],[s.heap.objs.size],its.toArray.size,_,_,fun i=>(bs[i]?).getD true,rfl,Walks.list (A:=X.A.in1) (I.ok.hd hc) _ a (Nat.ne_of_lt hlt) its.toArray,
   ⟨⟨_,Heap.get?_push_size _ rfl,rfl,rfl⟩,pl.isList.push _⟩,fun i v s' Q' E' hP hQ=>?_,fun h' tk hk=>?_⟩
  ·have hP:its[i]?=some v:=by simpa using hP
   obtain ⟨hi,hv⟩:=List.getElem?_eq_some_iff.mp hP;have hb:i<bs.length:=by rw[List.length_map] at hl;omega
   obtain ⟨u',hu',ru'⟩:=w.get (i:=i) (x:=.bl bs[i]) (by rw[List.getElem?_map,List.getElem?_eq_getElem hb];rfl);rw[hP] at hu'
   cases hu'
   cases ru'
   have hQ:Q' ((bs[i]?).getD true) s':=hQ;rw[List.getElem?_eq_getElem hb] at hQ;exact wpAny_truthy_bool hQ
  ·have e:((List.range its.toArray.size).all fun i=>(bs[i]?).getD true)=bs.all id:=by
      have hsz:its.toArray.size=bs.length:=by rw[List.size_toArray,<- hl,List.length_map]
      rw[hsz,Bool.eq_iff_iff,List.all_eq_true,List.all_eq_true];constructor
      ·intro h b hb
       obtain ⟨i,hi,rfl⟩:=List.getElem_of_mem hb;have:=h i (List.mem_range.mpr hi);rw[List.getElem?_eq_getElem hi] at this;exact this
      ·intro h i hi
       have hi:=List.mem_range.mp hi;rw[List.getElem?_eq_getElem hi];exact h _ (List.getElem_mem hi)
   rw[e];refine ⟨.bl _,H,I.kept (t':=tk) (h':=h') fun b o e=>?_,rfl,q⟩;exact hk b o (fun hm=>by rw[List.mem_singleton.mp hm] at e;exact Nat.lt_irrefl _ (Heap.lt_size e)) (Heap.get?_push_of_some _ e)
def gX:List D->Res D
 | [.lst _ xs]=>match dq xs with
  |some bs=>.ok (.bl (bs.all id))
  |none=>.bad
 |_=>.bad
theorem pX:∀ es,noX (gX es)=true:=by
 intro es;unfold gX;split
 ·split<;>rfl
 ·rfl
theorem tW(hc:X.calm=true):FCall X (.builtin "all") gX:=by
 refine ⟨CallR.pre (oq hc) ?_⟩;rintro us H Q ⟨Hs,H0,vs,ds,es,d,hl,S,e,kq⟩;unfold gX at e;split at e
 ·rename_i t xs
  split at e
  ·rename_i bs hb
   cases e
   obtain ⟨u,rfl⟩:=dH hl rfl;have S':SR Hs H0 H (some u::vs) (some (.lst t xs)::ds):=S;have hh:=S'.head
   cases hh with
   |lst q R=>
    refine ⟨_,bs,rfl,?_,kq _ H S'.drop.bl⟩;rw[<- fL R hb];exact SqL.of q
  ·cases e
 ·cases e
def cM(i j:Nat)(fk:ac->Res D):ac->FOut:=fun ρ=>match ρ[i]?,ρ[j]? with
 |some (some (.lst .o xs)),some (some (.lst .o ys))=>aft (fk ρ) fun d=>match d with
  | .int m=>match seqIndex? m ys.length with
   |some q=>match ys[q]? with
    |some y=>if y.tag=.b\/sizeLine<=xs.length\/i=j\/m < -(2 ^ 63)\/2 ^ 63<=m then .bad else .nx ((ρ.set j (some (.lst .o (ys.eraseIdx q)))).set i (some (.lst .o (xs++[y]))))
    |none=>.bad
   |none=>.bad
  |_=>.bad
 |_,_=>.bad
theorem ou{i j:Nat}{x y:Str}{p1 p2 p3 q1 q2 q3:Pos}(hv:PV X (.Name x p1) i)(hw:PV X (.Name y q1) j)(hk:FE X H0 Ex k fk)
    (hbase:attributeBase (.Name x p1) "append" X.env (eval (.Name x p1) X.env)=eval (.Name x p1) X.env:=by rfl)
    (hbase2:attributeBase (.Name y q1) "pop" X.env (eval (.Name y q1) X.env)=eval (.Name y q1) X.env:=by rfl)
    (hfew:((backTo p3 (starEach [.Call (.Attribute (.Name y q1) "pop" q2) [k] [] q3] X.env)).all (fun x=>!x.1)&&(backToKw p3 (keywordEach [] X.env)).all (fun x=>x.1.isSome)&&decide (([.Call (.Attribute (.Name y q1) "pop" q2) [k] [] q3]:List Expr).length+([]:List Keyword).length+(if ([]:List Keyword).isEmpty then 0 else 1)<30))=true:=by rfl)
    (hfew2:((backTo q3 (starEach [k] X.env)).all (fun x=>!x.1)&&(backToKw q3 (keywordEach [] X.env)).all (fun x=>x.1.isSome)&&decide (([k]:List Expr).length+([]:List Keyword).length+(if ([]:List Keyword).isEmpty then 0 else 1)<30))=true:=by rfl)
    (hline:(p2.endLine == p3.line)=true:=by rfl) (hline2:(q2.endLine == q3.line)=true:=by rfl) (hplain:(backTo p3 (starEach [] X.env)).any (·.1)=false:=by rfl) (hplain2:(backTo q3 (starEach [] X.env)).any (·.1)=false:=by rfl)
    (hs1:starEach [.Call (.Attribute (.Name y q1) "pop" q2) [k] [] q3] X.env=(false,eval (.Call (.Attribute (.Name y q1) "pop" q2) [k] [] q3) X.env)::starEach [] X.env:=by rfl) (hs2:starEach [k] X.env=(false,eval k X.env)::starEach [] X.env:=by rfl)
    (hsw:swapsWith (.Call (.Attribute (.Name x p1) "append" p2) [.Call (.Attribute (.Name y q1) "pop" q2) [k] [] q3] [] p3) none pos.line X.env=pure false:=by rfl) :
    FS X H0 Ex (.Expr (.Call (.Attribute (.Name x p1) "append" p2) [.Call (.Attribute (.Name y q1) "pop" q2) [k] [] q3] [] p3) pos) (cM i j fk):=by
 refine ⟨PS.pre (jU (jh PySem.F.plainAttrs_list PySem.F.slot_list_append PySem.F.type_list_append fH hv.go
  (cv (jh PySem.F.plainAttrs_list PySem.F.slot_list_pop PySem.F.type_list_pop pF hw.go (cv hk.go dj hs2) hbase2 hfew2 hline2 hs2 hplain2) dj hs1) hbase hfew hline hs1 hplain) hsw) ?_⟩
 rintro En σ H ⟨Hs,ρ,⟨S,n⟩,p⟩;unfold cM at p;split at p
 ·rename_i xs ys hx hy
  obtain ⟨q,us,hq,hH,hl⟩:=S.recv hx;obtain ⟨q',us',hq',hH',hl'⟩:=S.recv hy;refine ⟨.ref q,hq,.inl ⟨rfl,us,SqL.of hH⟩,.ref q',hq',.inl ⟨rfl,us',SqL.of hH'⟩,Hs,ρ,[],S,(PostS.aft p).imp fun d _ p1 v H1 S1=>?_⟩
  cases d with
  |int m=>
   have S1:SR Hs H0 H1 (some v::σ) (some (.int m)::ρ):=S1
   cases SR.isInt S1
   have p1:PostS Hs H0 Ex En (match seqIndex? m ys.length with
    |some q=>match ys[q]? with
     |some y=>if y.tag=.b\/sizeLine<=xs.length\/i=j\/m < -(2 ^ 63)\/2 ^ 63<=m then .bad else .nx ((ρ.set j (some (.lst .o (ys.eraseIdx q)))).set i (some (.lst .o (xs++[y]))))
     |none=>.bad
    |none=>.bad):=p1
   cases e1:seqIndex? m ys.length with
   |none=>rw[e1] at p1;exact p1.elim
   |some c=>
    rw[e1] at p1;dsimp only at p1
    cases e2:ys[c]? with
    |none=>rw[e2] at p1;exact p1.elim
    |some z=>
     rw[e2] at p1;dsimp only at p1;split at p1
     ·exact p1.elim
     ·rename_i hc
      have hz:z.tag≠.b:=fun w=>hc (.inl w);have hij:i≠j:=fun w=>hc (.inr (.inr (.inl w)));obtain ⟨a,vs,u,ha,hHa,hla,hu,S2⟩:=S1.drop.popAt n hy e2 hz;rw[hq'] at ha
      cases ha
      have n2:noB (ρ.set j (some (.lst .o (ys.eraseIdx c)))):=n.set fun d' w=>by cases w;exact fun y=>nomatch y
      obtain ⟨b,ws,hb,hHb,hlb,S3⟩:=S2.append hz n2 (i:=i) (xs:=xs) (by rw[List.getElem?_set_ne (Ne.symm hij)];exact hx);rw[hq] at hb
      cases hb
      refine ⟨q',vs,m,c,u,rfl,rfl,hHa,?_,?_,by rw[hla];exact e1,hu,q,ws,u,rfl,rfl,hHb,?_,p1 σ _ ⟨S3,n2.set fun d' w=>by cases w;exact fun y=>nomatch y⟩⟩
      ·exact Int.not_lt.mp fun w=>hc (.inr (.inr (.inr (.inl w))))
      ·exact Int.not_le.mp fun w=>hc (.inr (.inr (.inr (.inr w))))
      ·rw[hlb]
       exact Nat.lt_of_not_le fun w=>hc (.inr (.inl w))
  |_=>exact p1.elim
 ·exact p.elim
end
section
variable {prog:Program}{w:World}{A:Around}{E:Value->Shared->Prop}{s:Shared}
structure ZAp (zp tI tO j1 j2:Addr) (f1 f2:List Addr):Prop where
 a1:tO≠zp
 a2:j1≠zp
 a3:j2≠zp
 a4:tO≠j1
 a5:tO≠j2
 a6:j1≠j2
 b1:∀ b∈f1,b≠zp/\b≠tO/\b≠j2
 b2:∀ b∈f2,b≠zp/\b≠tO/\b≠j1
 c1:tI≠zp
 c2:tI≠tO
 c3:tI≠j1
 c4:tI≠j2
variable {zp tI tO j1 j2:Addr}{f1 f2:List Addr}{n1 n2 k:Nat}{P1 P2:Nat->Value->Prop}{S1 S2:Nat->Heap->Prop}{a b:Value}
theorem qD{Q:Bool->Shared->Prop}(hz:IsZip s.heap zp tI tO .none)(h:Q true s):wpAny (model prog w) A (Builtin.SmallTypes.ownedTupleIsFree (.ref zp)) Q E s:=by
 unfold Builtin.SmallTypes.ownedTupleIsFree;refine wpAny_bind (wpAny_field hz rfl (x:=.none) rfl (wpAny_pure h))
theorem ow{Q:Value->Shared->Prop}(D1:Draws prog w A j1 f1 n1 P1 S1)(D2:Draws prog w A j2 f2 n2 P2 S2)(ap:ZAp zp tI tO j1 j2 f1 f2)
    (hz:IsZip s.heap zp tI tO .none) (hTI:IsPair s.heap tI (.ref j1) (.ref j2)) (hTO:IsPair s.heap tO a b) (h1:S1 k s.heap) (h2:S2 k s.heap) (l1:k<n1) (l2:k<n2)
    (hQ:∀ x y h' tk,P1 k x->P2 k y->IsZip h' zp tI tO (rawInt s.heap.objs.size)->IsPair h' tO x y->S1 (k+1) h'->S2 (k+1) h'->IsPair h' s.heap.objs.size x y →
     (∀ c o,c≠zp->c≠tO->c≠j1->c≠j2->s.heap.get? c=some o->h'.get? c=some o)->Q (.ref s.heap.objs.size) { s with heap:=h',toks:=tk }) :
    wpAny (model prog w) A (Builtin.«zip.__next__» ⟨[.ref zp],[]⟩) (fun fin s'=>∃ v,fin=.done (.ret v)/\Q v s') E s:=by
 show wpAny _ _ (field (.ref zp) 2 >>= _) _ _ _;refine wpAny_bind (wpAny_field hz rfl (x:=.bool false) rfl (show wpAny _ _ (field (.ref zp) 3 >>= _) _ _ _ from wpAny_bind (wpAny_field hz rfl (x:=.ref tI) rfl (wpAny_bind (wpAny_seqItems hTI rfl ?_)))));show wpAny _ _ (Builtin.SmallTypes.ownedTupleIsFree (.ref zp) >>= _) _ _ _;refine wpAny_bind (qD hz ?_);simp only[if_true]
 refine wpAny_bind (wpAny_rule (wpAny_bind (wpAny_field hz rfl (x:=.ref tO) rfl (wpAny_bind (wpAny_setField_rec hz (by simp) fun g1 hz1 e1=>?_)))));have hz1:IsZip g1 zp tI tO .ellipsis:=hz1;refine wpAny_bind ?_;simp only[List.zipIdx_cons,List.zipIdx_nil,List.forIn_cons,List.forIn_nil]
 refine wpAny_bind (wpAny_bind (wpAny_onRaise (show wpAny _ _ (Builtin.SmallTypes.nextOf (.ref j1) >>= _) _ _ _ from ?_)));have s1:S1 k g1:=D1.frame k _ _ h1 fun b hb o e=>e1.extBut _ _ (ap.b1 b hb).1 e;refine wpAny_bind (D1.item k { s with heap:=g1 } _ _ l1 s1 fun x g2 t2 px s1' e2=>wpAny_pure ?_);have hTO2:IsPair g2 tO a b:=e2.extBut _ _ ap.a4 (e1.extBut _ _ ap.a1 hTO)
 refine wpAny_bind (wpAny_seqItems hTO2 rfl (wpAny_bind (wpAny_updateSeq_pair (s:={ s with heap:=g2,toks:=t2 }) hTO2 fun g3 hTO3 e3=>?_)));have hTO3:IsPair g3 tO x b:=hTO3;refine wpAny_bind (wpAny_letGo (wpAny_pure (wpAny_bind (wpAny_bind (wpAny_onRaise (show wpAny _ _ (Builtin.SmallTypes.nextOf (.ref j2) >>= _) _ _ _ from ?_))))))
 have s2:S2 k g3:=D2.frame k _ _ h2 fun b hb o e=>e3.extBut _ _ (ap.b2 b hb).2.1 (e2.extBut _ _ (ap.b2 b hb).2.2 (e1.extBut _ _ (ap.b2 b hb).1 e));refine wpAny_bind (D2.item k { s with heap:=g3,toks:=t2 } _ _ l2 s2 fun y g4 t4 py s2' e4=>wpAny_pure ?_);have hTO4:IsPair g4 tO x b:=e4.extBut _ _ ap.a5 hTO3
 refine wpAny_bind (wpAny_seqItems hTO4 rfl (wpAny_bind (wpAny_updateSeq_pair (s:={ s with heap:=g4,toks:=t4 }) hTO4 fun g5 hTO5 e5=>?_)));have hTO5:IsPair g5 tO x y:=hTO5;refine wpAny_bind (wpAny_letGo (wpAny_pure (wpAny_pure (wpAny_bind (wpAny_seqItems hTO5 rfl (wpAny_bind (wpAny_newTuple ?_)))))));have sz:g5.objs.size=s.heap.objs.size:=by rw[e5.1,e4.1,e3.1,e2.1,e1.1]
 have hz5:IsZip g5 zp tI tO .ellipsis:=e5.extBut _ _ ap.a1.symm (e4.extBut _ _ ap.a3.symm (e3.extBut _ _ ap.a1.symm (e2.extBut _ _ ap.a2.symm hz1)));have kp5:∀ c o,c≠zp->c≠tO->c≠j1->c≠j2->s.heap.get? c=some o->g5.get? c=some o:=fun c o q1 q2 q3 q4 e=>e5.extBut _ _ q2 (e4.extBut _ _ q4 (e3.extBut _ _ q2 (e2.extBut _ _ q3 (e1.extBut _ _ q1 e))))
 have s15:S1 (k+1) g5:=D1.frame _ _ _ s1' fun b hb o e=>e5.extBut _ _ (ap.b1 b hb).2.1 (e4.extBut _ _ (ap.b1 b hb).2.2 (e3.extBut _ _ (ap.b1 b hb).2.1 e));have s25:S2 (k+1) g5:=D2.frame _ _ _ s2' fun b hb o e=>e5.extBut _ _ (ap.b2 b hb).2.1 e;have lz:zp<g5.objs.size:=Heap.lt_size hz5
 refine (show wpAny _ _ (Builtin.SmallTypes.ownedTupleHandOut (.ref zp) (.ref g5.objs.size) >>= _) _ _ _ from wpAny_bind (by
  unfold Builtin.SmallTypes.ownedTupleHandOut
  have hz6:IsZip (g5.push { cls:=.type "tuple", data:=.seq #[x,y] }) zp tI tO .ellipsis:=Heap.get?_push_of_some _ hz5
  refine wpAny_bind (wpAny_setField_rec hz6 (by simp) fun g7 hz7 e7=>?_)
  have hz7:IsZip g7 zp tI tO (rawInt g5.objs.size):=hz7
  refine wpAny_setField_rec hz7 (by simp) fun g8 hz8 e8=>wpAny_pure ⟨_,rfl,?_⟩
  have hz8:IsZip g8 zp tI tO (rawInt g5.objs.size):=hz8
  have up:∀ c o,c≠zp->g5.get? c=some o->g8.get? c=some o:=fun c o q1 e=>e8.extBut _ _ q1 (e7.extBut _ _ q1 (Heap.get?_push_of_some _ e))
  have hT8:IsPair g8 g5.objs.size x y:=e8.extBut _ _ (Nat.ne_of_gt lz) (e7.extBut _ _ (Nat.ne_of_gt lz) (Heap.get?_push_size _ rfl))
  show Q (.ref g5.objs.size) _
  rw[sz] at hz8 hT8 ⊢
  exact hQ x y g8 t4 px py hz8 (up _ _ ap.a1 hTO5) (D1.frame _ _ _ s15 fun b hb o e=>up _ _ (ap.b1 b hb).1 e) (D2.frame _ _ _ s25 fun b hb o e=>up _ _ (ap.b2 b hb).1 e) hT8 fun c o q1 q2 q3 q4 e=>up c o q1 (kp5 c o q1 q2 q3 q4 e)))
theorem pY{Q:Fin->Shared->Prop}(D1:Draws prog w A j1 f1 n1 P1 S1)(D2:Draws prog w A j2 f2 n2 P2 S2)(ap:ZAp zp tI tO j1 j2 f1 f2)
    (hz:IsZip s.heap zp tI tO .none) (hTI:IsPair s.heap tI (.ref j1) (.ref j2)) (hTO:IsPair s.heap tO a b) (h1:S1 k s.heap) (h2:S2 k s.heap) (hend:k=n1\/(k<n1/\k=n2))
    (hE:∀ h' e tk,(∀ c o,c≠zp->c≠tO->c≠j1->c≠j2->s.heap.get? c=some o->h'.get? c=some o)->(∃ o,h'.get? e=some o/\o.cls=.type "StopIteration")->E (.ref e) { s with heap:=h',toks:=tk }) :
    wpAny (model prog w) A (Builtin.«zip.__next__» ⟨[.ref zp],[]⟩) Q E s:=by
 show wpAny _ _ (field (.ref zp) 2 >>= _) _ _ _;refine wpAny_bind (wpAny_field hz rfl (x:=.bool false) rfl (show wpAny _ _ (field (.ref zp) 3 >>= _) _ _ _ from wpAny_bind (wpAny_field hz rfl (x:=.ref tI) rfl (wpAny_bind (wpAny_seqItems hTI rfl ?_)))));show wpAny _ _ (Builtin.SmallTypes.ownedTupleIsFree (.ref zp) >>= _) _ _ _;refine wpAny_bind (qD hz ?_);simp only[if_true]
 refine wpAny_bind (wpAny_rule (wpAny_bind (wpAny_field hz rfl (x:=.ref tO) rfl (wpAny_bind (wpAny_setField_rec hz (by simp) fun g1 hz1 e1=>?_)))));have hz1:IsZip g1 zp tI tO .ellipsis:=hz1;refine wpAny_bind ?_;simp only[List.zipIdx_cons,List.zipIdx_nil,List.forIn_cons,List.forIn_nil]
 refine wpAny_bind (wpAny_bind (wpAny_onRaise (show wpAny _ _ (Builtin.SmallTypes.nextOf (.ref j1) >>= _) _ _ _ from ?_)));have s1:S1 k g1:=D1.frame k _ _ h1 fun b hb o e=>e1.extBut _ _ (ap.b1 b hb).1 e;rcases hend with rfl | ⟨l1,rfl⟩
 ·refine wpAny_bind (D1.done { s with heap:=g1 } _ _ s1 fun g2 e e2 he=>?_)
  obtain ⟨oe,hoe,hce⟩:=he;have hz2:IsZip g2 zp tI tO .ellipsis:=e2 _ _ ap.a2.symm hz1;have ne:e≠zp:=fun q=>by subst q;rw[hz2] at hoe;cases hoe;simp at hce
  exact wpAny_setField_rec hz2 (by simp) fun g3 _ e3=>hE g3 e s.toks (fun c o q1 _ q3 _ q=>e3.extBut _ _ q1 (e2 _ _ q3 (e1.extBut _ _ q1 q))) ⟨oe,e3.extBut _ _ ne hoe,hce⟩
 ·refine wpAny_bind (D1.item k { s with heap:=g1 } _ _ l1 s1 fun x g2 t2 px s1' e2=>wpAny_pure ?_)
  have hTO2:IsPair g2 tO a b:=e2.extBut _ _ ap.a4 (e1.extBut _ _ ap.a1 hTO);refine wpAny_bind (wpAny_seqItems hTO2 rfl (wpAny_bind (wpAny_updateSeq_pair (s:={ s with heap:=g2,toks:=t2 }) hTO2 fun g3 hTO3 e3=>?_)));refine wpAny_bind (wpAny_letGo (wpAny_pure (wpAny_bind (wpAny_bind (wpAny_onRaise (show wpAny _ _ (Builtin.SmallTypes.nextOf (.ref j2) >>= _) _ _ _ from ?_))))))
  have s2:S2 k g3:=D2.frame k _ _ h2 fun b hb o e=>e3.extBut _ _ (ap.b2 b hb).2.1 (e2.extBut _ _ (ap.b2 b hb).2.2 (e1.extBut _ _ (ap.b2 b hb).1 e));refine wpAny_bind (D2.done { s with heap:=g3,toks:=t2 } _ _ s2 fun g4 e e4 he=>?_);obtain ⟨oe,hoe,hce⟩:=he;have hz4:IsZip g4 zp tI tO .ellipsis:=e4 _ _ ap.a3.symm (e3.extBut _ _ ap.a1.symm (e2.extBut _ _ ap.a2.symm hz1))
  have ne:e≠zp:=fun q=>by subst q;rw[hz4] at hoe;cases hoe;simp at hce
  exact wpAny_setField_rec (s:={ s with heap:=g4,toks:=t2 }) hz4 (by simp) fun g5 _ e5=>hE g5 e t2 (fun c o q1 q2 q3 q4 q=>e5.extBut _ _ q1 (e4 _ _ q4 (e3.extBut _ _ q2 (e2.extBut _ _ q3 (e1.extBut _ _ q1 q))))) ⟨oe,e5.extBut _ _ ne hoe,hce⟩
end
section
variable {prog:Program}{w:World}{A:Around}{E:Value->Shared->Prop}{s:Shared}
variable {zp tI tO j1 j2:Addr}{f1 f2:List Addr}{n1 n2 k:Nat}{P1 P2:Nat->Value->Prop}{S1 S2:Nat->Heap->Prop}{a b:Value}
theorem ox{Q:Option Value->Shared->Prop}(hh:A.handled=none)(D1:∀ A':Around,A'.handled=none->Draws prog w A' j1 f1 n1 P1 S1)(D2:∀ A':Around,A'.handled=none->Draws prog w A' j2 f2 n2 P2 S2)(ap:ZAp zp tI tO j1 j2 f1 f2)
    (hz:IsZip s.heap zp tI tO .none) (hTI:IsPair s.heap tI (.ref j1) (.ref j2)) (hTO:IsPair s.heap tO a b) (h1:S1 k s.heap) (h2:S2 k s.heap) (l1:k<n1) (l2:k<n2)
    (hQ:∀ x y h' tk,P1 k x->P2 k y->IsZip h' zp tI tO (rawInt s.heap.objs.size)->IsPair h' tO x y->S1 (k+1) h'->S2 (k+1) h'->IsPair h' s.heap.objs.size x y →
     (∀ c o,c≠zp->c≠tO->c≠j1->c≠j2->s.heap.get? c=some o->h'.get? c=some o)->Q (some (.ref s.heap.objs.size)) { s with heap:=h',toks:=tk }):wpAny (model prog w) A (pyNext (.ref zp)) Q E s:=by
 have ty:s.TypeIs (.ref zp) "zip" := ⟨_,hz,rfl⟩
 unfold pyNext;exact wpAny_bind (wpAny_attempt (wpAny_callSpecial?_slot (name:=Str.ofString "__next__") ty F.slot_zip_next (wpAny_call_entry F.slot_zip_next ty F.entry_zip_next
  (ow (D1 _ hh) (D2 _ hh) ap hz hTI hTO h1 h2 l1 l2 fun x y h' tk r1 r2 r3 r4 r5 r6 r7 r8=>wpAny_pure (hQ x y h' tk r1 r2 r3 r4 r5 r6 r7 r8)) (F.args_zip_next_1 _))))
theorem oy{Q:Option Value->Shared->Prop}(hh:A.handled=none)(D1:∀ A':Around,A'.handled=none->Draws prog w A' j1 f1 n1 P1 S1)(D2:∀ A':Around,A'.handled=none->Draws prog w A' j2 f2 n2 P2 S2)(ap:ZAp zp tI tO j1 j2 f1 f2)
    (hz:IsZip s.heap zp tI tO .none) (hTI:IsPair s.heap tI (.ref j1) (.ref j2)) (hTO:IsPair s.heap tO a b) (h1:S1 k s.heap) (h2:S2 k s.heap) (hend:k=n1\/(k<n1/\k=n2))
    (hQ:∀ h' tk,(∀ c o,c≠zp->c≠tO->c≠j1->c≠j2->s.heap.get? c=some o->h'.get? c=some o)->Q none { s with heap:=h',toks:=tk }):wpAny (model prog w) A (pyNext (.ref zp)) Q E s:=by
 have ty:s.TypeIs (.ref zp) "zip" := ⟨_,hz,rfl⟩
 unfold pyNext;refine wpAny_bind (wpAny_attempt (wpAny_callSpecial?_slot (name:=Str.ofString "__next__") ty F.slot_zip_next (wpAny_call_entry F.slot_zip_next ty F.entry_zip_next
  (pY (D1 _ hh) (D2 _ hh) ap hz hTI hTO h1 h2 hend fun h' e tk kp he=>?_) (F.args_zip_next_1 _))))
 obtain ⟨o,ho,hc⟩:=he;exact wpAny_bind (wpAny_isInstance (T := "StopIteration") (b:=true) ⟨o,ho,hc⟩ isSubtype_stop (wpAny_pure (hQ _ _ kp)))
end
abbrev zh1(h:Heap)(l:Addr):Heap:=h.push { cls:=.type "list_iterator", data:=.fields #[.ref l,.int 0 0] }
abbrev zh2(h:Heap)(l:Addr)(x:Str)(t:Tok):Heap:=(zh1 h l).push { cls:=.type "str_ascii_iterator", data:=.fields #[.str x t,.int 0 0] }
abbrev zh3(h:Heap)(l:Addr)(x:Str)(t:Tok):Heap:=(zh2 h l x t).push { cls:=.type "tuple", data:=.seq #[.ref h.objs.size,.ref (zh1 h l).objs.size] }
abbrev zh4(h:Heap)(l:Addr)(x:Str)(t:Tok):Heap:=(zh3 h l x t).push { cls:=.type "tuple", data:=.seq #[.none,.none] }
abbrev zh5(h:Heap)(l:Addr)(x:Str)(t:Tok):Heap:=(zh4 h l x t).push { cls:=.type "zip", data:=.fields #[.none,.bool false,.bool false,.ref (zh2 h l x t).objs.size,.ref (zh3 h l x t).objs.size] }
theorem pZ(l:Addr)(xs:Array Value)(x:Str)(t:Tok) :
    Meets (Builtin.«zip.__new__» ⟨[.type "zip", .ref l,.str x t],[]⟩) (fun _ R s=>(s.heap.IsList l xs/\x.cps.all (· < 128)=true)/\R (.ok (.ret (.ref (zh4 s.heap l x t).objs.size))) { s with heap:=zh5 s.heap l x t }):=
 .of_wp fun prog w A R s h=>by
  obtain ⟨hp,g,d,tk,os⟩:=s;obtain ⟨⟨hl,ha⟩,h⟩:=h;have sb:=sub_zip;have hL:Heap.IsList (Shared.heap ⟨hp,g,d,tk,os⟩) l xs:=hl;wp_walk using wpAny_pyIter_list hL,wpAny_pyIter_ascii ha;exact ⟨_,rfl,h⟩
theorem p8{prog:Program}{w:World}{A:Around}{E:Value->Shared->Prop}{s:Shared}{l:Addr}{xs:Array Value}{x:Str}{t:Tok}{Q:Value->Shared->Prop}(hl:s.heap.IsList l xs)(ha:x.cps.all (· < 128)=true)
    (h:∀ h',IsZip h' (s.heap.objs.size+4) (s.heap.objs.size+2) (s.heap.objs.size+3) .none->IsPair h' (s.heap.objs.size+2) (.ref s.heap.objs.size) (.ref (s.heap.objs.size+1))->IsPair h' (s.heap.objs.size+3) .none .none →
     h'.IsListIter s.heap.objs.size l 0->h'.IsStrIter (s.heap.objs.size+1) "str_ascii_iterator" x t 0->(∀ c o,s.heap.get? c=some o->h'.get? c=some o)->Q (.ref (s.heap.objs.size+4)) { s with heap:=h' }) :
    wpAny (model prog w) A (call (.type "zip") [.ref l,.str x t]) Q E s:=by
 refine callType_new F.called_zip (by decide) (F.typeCall_zip_2 _ _) (F.newCall_zip_2 _ _) (fun obj=>F.args_object_init_3 obj _ _) F.entry_zip_new (pZ l xs x t) ⟨⟨hl,ha⟩,?_⟩;have y1:(zh1 s.heap l).objs.size=s.heap.objs.size+1:=Heap.size_push ..;have y2:(zh2 s.heap l x t).objs.size=s.heap.objs.size+2:=by rw[Heap.size_push,y1]
 have y3:(zh3 s.heap l x t).objs.size=s.heap.objs.size+3:=by rw[Heap.size_push,y2]
 have y4:(zh4 s.heap l x t).objs.size=s.heap.objs.size+4:=by rw[Heap.size_push,y3]
 have u5:(zh5 s.heap l x t).get? (zh4 s.heap l x t).objs.size=some _:=Heap.get?_push_size _ rfl;have u4:(zh5 s.heap l x t).get? (zh3 s.heap l x t).objs.size=some _:=Heap.get?_push_of_some _ (Heap.get?_push_size _ rfl);have u3:(zh5 s.heap l x t).get? (zh2 s.heap l x t).objs.size=some _:=Heap.get?_push_of_some _ (Heap.get?_push_of_some _ (Heap.get?_push_size _ rfl))
 have u2:(zh5 s.heap l x t).get? (zh1 s.heap l).objs.size=some _:=Heap.get?_push_of_some _ (Heap.get?_push_of_some _ (Heap.get?_push_of_some _ (Heap.get?_push_size _ rfl)));have u1:(zh5 s.heap l x t).get? s.heap.objs.size=some _:=Heap.get?_push_of_some _ (Heap.get?_push_of_some _ (Heap.get?_push_of_some _ (Heap.get?_push_of_some _ (Heap.get?_push_size _ rfl))));rw[y2,y3,y4] at u5;rw[y1,y2] at u3
 rw[y3] at u4;rw[y1] at u2;show _/\_;rw[y4];exact ⟨⟨_,u5,rfl⟩,h _ u5 u3 u4 ⟨_,u1,rfl,rfl⟩ ⟨_,u2,rfl,rfl⟩ fun c o q=>Heap.get?_push_of_some _ (Heap.get?_push_of_some _ (Heap.get?_push_of_some _ (Heap.get?_push_of_some _ (Heap.get?_push_of_some _ q))))⟩
theorem Inv.turnLay{X:Cx}{pins:List (Addr × Obj)}{σ:St}{H:Hp}{s:Shared}{h':Heap}{ch:List Addr}{T:Addr}{us:List V}{tk:Nat}(I:Inv X pins σ H s)(kp:∀ b o,b∉ch->s.heap.get? b=some o->h'.get? b=some o)(hf:∀ b∈ch,cQ X pins H b)
    (hT:s.heap.objs.size<=T) (new:ObjOk X.prog X.w (upd H T (.tup us)) h' T (.tup us)):Inv X pins σ (upd H T (.tup us)) { s with heap:=h',toks:=tk }:=by
 have hTn:=I.hok.fresh hT;have neT:∀ b o,s.heap.get? b=some o->b≠T:=fun b o e=>Nat.ne_of_lt (Nat.lt_of_lt_of_le (Heap.lt_size e) hT);have up:∀ b o,H b=some o->upd H T (.tup us) b=some o:=fun b o e=>by rw[aD (aY e hTn)];exact e
 refine I.step (g':=s.gens) (d':=s.drawn) (ch:=ch) (fun b hb=>?_) (fun b o _ _ hc e _=>kp b o hc e) (fun b o _ _ hc e _=>⟨o.slots,kp b o hc e⟩) (fun b o hc e n=>by rw[aD (neT b o e)];exact n) (fun b o hc e=>⟨o,kp b o hc e⟩)
  (fun b xs e=>up _ _ e) (fun b o u e=>up _ _ e) (fun b ps e=>⟨#[],by rw[up _ _ e];simp⟩) (fun m hm=>?_) (fun b u e=>?_) I.bare
 ·obtain ⟨_,q2,_,q4,q5,q6⟩:=hf b hb
  exact ⟨q4,q2,q5,q6⟩
 ·obtain ⟨o,es,ep,ho,r⟩:=hm
  exact ⟨o,es,ep,kp _ o (fun z=>(hf _ z).2.1 rfl) ho,r⟩
 ·by_cases hb:b=T
  ·subst hb;rw[bc] at e;cases e;exact new
  ·rw[aD hb] at e
   refine (I.hok b u e).stay (fun c v hc q=>kp c v (fun z=>?_) q) (fun c q=>up _ _ q) fun c xs q=>up _ _ q;have:=(hf c z).1;rcases hc with rfl | hc
   ·rw[this] at e;cases e
   ·rw[this] at hc;cases hc
theorem Inv.turnL{X:Cx}{pins:List (Addr × Obj)}{σ:St}{H:Hp}{s:Shared}{h':Heap}{ch:List Addr}{tk:Nat}(I:Inv X pins σ H s)(kp:∀ b o,b∉ch->s.heap.get? b=some o->h'.get? b=some o)(hf:∀ b∈ch,cQ X pins H b):Inv X pins σ H { s with heap:=h',toks:=tk }:=by
 refine I.step (g':=s.gens) (d':=s.drawn) (ch:=ch) (fun b hb=>?_) (fun b o _ _ hc e _=>kp b o hc e) (fun b o _ _ hc e _=>⟨o.slots,kp b o hc e⟩) (fun b o hc e n=>n) (fun b o hc e=>⟨o,kp b o hc e⟩)
  (fun b xs e=>e) (fun b o u e=>e) (fun b ps e=>⟨#[],by rw[e];simp⟩) (fun m hm=>?_) (fun b u e=>?_) I.bare
 ·obtain ⟨_,q2,_,q4,q5,q6⟩:=hf b hb
  exact ⟨q4,q2,q5,q6⟩
 ·obtain ⟨o,es,ep,ho,r⟩:=hm
  exact ⟨o,es,ep,kp _ o (fun z=>(hf _ z).2.1 rfl) ho,r⟩
 ·refine (I.hok b u e).stay (fun c v hc q=>kp c v (fun z=>?_) q) (fun c q=>q) fun c xs q=>q
  have:=(hf c z).1;rcases hc with rfl | hc
  ·rw[this] at e;cases e
  ·rw[this] at hc;cases hc
def Itz(K:PySem.W.Frag)(a:Addr)(x:Str):It:=
 ⟨fun i H=>∃ xs v c,SqL K H a xs/\xs[i]?=some v/\x.cps[i]?=some c,
  fun i H y H'=>∃ p v c,H p=none/\H'=upd H p (.tup [v,.str ⟨#[c]⟩])/\y=.ref p/\(∀ xs,SqL K H a xs->xs[i]?=some v)/\x.cps[i]?=some c,
  fun i H=>∃ xs,SqL K H a xs/\i=min xs.length x.cps.size⟩
def tnz(zp tI tO j1 j2 a:Addr)(x:Str)(t:Tok)(i:Nat)(h:Heap):Prop:=
 IsZip h zp tI tO .none/\IsPair h tI (.ref j1) (.ref j2)/\(∃ u v,IsPair h tO u v)/\h.IsListIter j1 a i/\h.IsStrIter j2 "str_ascii_iterator" x t i
theorem wb{zp tI tO j1 j2 a:Addr}{x:Str}{t:Tok}{i:Nat}{h:Heap}{u v:Value}(h1:IsZip h zp tI tO .none)(h2:IsPair h tI (.ref j1) (.ref j2))(h3:IsPair h tO u v)(h4:h.IsListIter j1 a i)(h5:h.IsStrIter j2 "str_ascii_iterator" x t i) :
    ∀ b∈[zp,tI,tO,j1,j2],∃ o,h.get? b=some o/\o.cls≠.type "list" := fun b hb=>by
 obtain ⟨o4,e4,c4,_⟩:=h4;obtain ⟨o5,e5,c5,_⟩:=h5;simp only[List.mem_cons,List.not_mem_nil,or_false] at hb;rcases hb with rfl | rfl | rfl | rfl | rfl
 ·exact ⟨_,h1,(show Value.type "zip" ≠ Value.type "list" by decide)⟩
 ·exact ⟨_,h2,(show Value.type "tuple" ≠ Value.type "list" by decide)⟩
 ·exact ⟨_,h3,(show Value.type "tuple" ≠ Value.type "list" by decide)⟩
 ·exact ⟨_,e4,by rw[c4];decide⟩
 ·exact ⟨_,e5,by rw[c5];decide⟩
theorem oz{zp tI tO j1 j2 a:Addr}{x:Str}{t:Tok}{i:Nat}{h:Heap}{u v:Value}{its:Array Value}(nd:[zp,tI,tO,j1,j2].Nodup)(hl:h.IsList a its)(h1:IsZip h zp tI tO .none)(h3:IsPair h tO u v)(h4:h.IsListIter j1 a i)(h5:h.IsStrIter j2 "str_ascii_iterator" x t i) :
    ZAp zp tI tO j1 j2 [j1,a] [j2]/\a≠j1:=by
 obtain ⟨oa,ea,ca,_⟩:=hl;obtain ⟨o4,e4,c4,_⟩:=h4;obtain ⟨o5,e5,c5,_⟩:=h5;have n1:a≠zp:=fun z=>by rw[z,h1] at ea;cases ea;exact (show Value.type "zip" ≠ Value.type "list" by decide) ca
 have n2:a≠tO:=fun z=>by rw[z,h3] at ea;cases ea;exact (show Value.type "tuple" ≠ Value.type "list" by decide) ca
 have n3:a≠j1:=fun z=>by rw[z,e4] at ea;cases ea;rw[c4] at ca;exact absurd ca (by decide)
 have n4:a≠j2:=fun z=>by rw[z,e5] at ea;cases ea;rw[c5] at ca;exact absurd ca (by decide)
 simp only[List.nodup_cons,List.mem_cons,List.not_mem_nil,or_false,not_or,not_false_eq_true,List.nodup_nil,and_true] at nd;obtain ⟨⟨d1,d2,d3,d4⟩,⟨d5,d6,d7⟩,⟨d8,d9⟩,d10⟩:=nd;refine ⟨⟨Ne.symm d2,Ne.symm d3,Ne.symm d4,d8,d9,d10,fun b hb=>?_,fun b hb=>?_,Ne.symm d1,d5,d6,d7⟩,n3⟩
 ·simp only[List.mem_cons,List.not_mem_nil,or_false] at hb
  rcases hb with rfl | rfl
  ·exact ⟨Ne.symm d3,Ne.symm d8,d10⟩
  ·exact ⟨n1,n2,n4⟩
 ·simp only[List.mem_cons,List.not_mem_nil,or_false] at hb
  subst hb;exact ⟨Ne.symm d4,Ne.symm d9,Ne.symm d10⟩
theorem p9{P:Program}{w:World}{K:PySem.W.Frag}{elts:List Expr}{x1}{pos:Pos}{a zp tI tO j1 j2:Addr}{x:Str}{t:Tok}(nd:[zp,tI,tO,j1,j2].Nodup):Turn P w K (.Tuple elts x1 pos) (Itz K a x) [zp,tI,tO,j1,j2] zp (tnz zp tI tO j1 j2 a x t) where
 mem:=List.mem_cons_self
 obj:=fun i h st b hb=>by
  obtain ⟨h1,h2,⟨u,v,h3⟩,⟨o4,h4,_,d4⟩,⟨o5,h5,_,d5⟩⟩:=st;simp only[List.mem_cons,List.not_mem_nil,or_false] at hb;rcases hb with rfl | rfl | rfl | rfl | rfl
  ·exact ⟨_,h1,fun v z=>nomatch z⟩
  ·exact ⟨_,h2,fun v z=>nomatch z⟩
  ·exact ⟨_,h3,fun v z=>nomatch z⟩
  ·exact ⟨_,h4,fun v z=>by rw[d4] at z;cases z⟩
  ·exact ⟨_,h5,fun v z=>by rw[d5] at z;cases z⟩
 keep:=fun i h h' st k=>by
  obtain ⟨h1,h2,⟨u,v,h3⟩,⟨o4,h4,r4⟩,⟨o5,h5,r5⟩⟩:=st;exact ⟨k zp (by simp) _ h1,k tI (by simp) _ h2,⟨u,v,k tO (by simp) _ h3⟩,⟨o4,k j1 (by simp) _ h4,r4⟩,⟨o5,k j2 (by simp) _ h5,r5⟩⟩
 item:=by
  intro X e1 e2 e3 hc i pins s σ H E I hf st hg;subst e1 e2 e3;obtain ⟨xs,v,c,hq,hv,hcp⟩:=hg;obtain ⟨h1,h2,⟨u0,v0,h3⟩,h4,h5⟩:=st;obtain ⟨its,rv,pl,hz⟩:=I.list hq;obtain ⟨u,hu,ru⟩:=rv.get hv;have ap:=oz nd pl.isList h1 h3 h4 h5;have l1:i<its.toArray.size:=by
   rw[List.size_toArray];exact (List.getElem?_eq_some_iff.mp hu).1
  have l2:i<x.cps.size:=(Array.getElem?_eq_some_iff.mp hcp).1;refine ox (I.ok.hd hc) (fun A' hh=>Draws.list hh j1 a ap.2 its.toArray) (fun A' hh=>Draws.strAscii hh j2 x t) ap.1 h1 h2 h3 ⟨h4,pl.isList⟩ h5 l1 l2 fun vx vy g tk p1 p2 hz' ho' hs1 hs2 pr kp=>⟨_,rfl,?_⟩
  have hvx:vx=u:=by
   have p1:its.toArray[i]?=some vx:=p1;rw[List.getElem?_toArray,hu] at p1;exact (Option.some.inj p1).symm
  obtain ⟨c',u',hc',rfl⟩:=p2;rw[hcp] at hc'
  cases hc'
  subst hvx;refine wpAny_letOwnedTupleGo_zip (s:={ s with heap:=g,toks:=tk }) hz' fun g2 hz2 sb=>?_;have lt:∀ {b o},s.heap.get? b=some o->b≠s.heap.objs.size:=fun e=>Nat.ne_of_lt (Heap.lt_size e);have kp2:∀ b o,b∉[zp,tO,j1,j2]->s.heap.get? b=some o->g2.get? b=some o:=fun b o hb e=>by
   simp only[List.mem_cons,List.not_mem_nil,or_false,not_or] at hb;exact sb.extBut _ _ hb.1 (kp b o hb.1 hb.2.1 hb.2.2.1 hb.2.2.2 e)
  have sub:∀ b∈[zp,tO,j1,j2],b∈[zp,tI,tO,j1,j2]:=fun b hb=>by
   simp only[List.mem_cons,List.not_mem_nil,or_false] at hb ⊢;rcases hb with h | h | h | h<;>simp[h]
  have prT:IsPair g2 s.heap.objs.size vx (.str ⟨#[c]⟩ u'):=sb.extBut _ _ (Ne.symm (lt h1)) pr;have J:Inv X pins σ (upd H s.heap.objs.size (.tup [v,.str ⟨#[c]⟩])) { s with heap:=g2,toks:=tk }:=Inv.turnLay (us:=[v,.str ⟨#[c]⟩]) I kp2 (fun b hb=>hf b (sub b hb)) (Nat.le_refl _) ⟨show 2<=sizeLine by decide,[vx,.str ⟨#[c]⟩ u'],.cons ru (.cons ⟨u',rfl⟩ .nil),⟨_,prT,rfl,_,rfl⟩⟩
  refine ⟨.ref s.heap.objs.size,upd H s.heap.objs.size (.tup [v,.str ⟨#[c]⟩]),J,rfl,
   ⟨_,v,c,I.hok.fresh (Nat.le_refl _),rfl,rfl,fun ys hy=>by rw[I.list_inj hy hq];exact hv,hcp⟩,⟨hz2,kp2 tI _ ?_ h2,⟨_,_,sb.extBut _ _ ap.1.a1 ho'⟩,hs1.1.extBut sb.extBut ap.1.a2,hs2.extBut sb.extBut ap.1.a3⟩,fun b hb=>?_⟩
  ·simp only[List.mem_cons,List.not_mem_nil,or_false,not_or]
   exact ⟨ap.1.c1,ap.1.c2,ap.1.c3,ap.1.c4⟩
  ·obtain ⟨o,ho,_⟩:=wb h1 h2 h3 h4 h5 b hb
   rw[aD (lt ho)];exact (hf b hb).1
 done:=by
  intro X e1 e2 e3 hc i pins s σ H E I hf st hg;subst e1 e2 e3;obtain ⟨xs,hq,hi⟩:=hg;obtain ⟨h1,h2,⟨u0,v0,h3⟩,h4,h5⟩:=st;obtain ⟨its,rv,pl,hz⟩:=I.list hq;have hlen:=rv.length;have ap:=oz nd pl.isList h1 h3 h4 h5;have sub:∀ b∈[zp,tO,j1,j2],b∈[zp,tI,tO,j1,j2]:=fun b hb=>by
   simp only[List.mem_cons,List.not_mem_nil,or_false] at hb ⊢;rcases hb with h | h | h | h<;>simp[h]
  refine oy (I.ok.hd hc) (fun A' hh=>Draws.list hh j1 a ap.2 its.toArray) (fun A' hh=>Draws.strAscii hh j2 x t) ap.1 h1 h2 h3 ⟨h4,pl.isList⟩ h5 ?_ fun g tk kp=>⟨rfl,Inv.turnL I (fun b o hb e=>?_) fun b hb=>hf b (sub b hb)⟩
  ·rw[List.size_toArray,<- hlen,hi]
   omega
  ·simp only[List.mem_cons,List.not_mem_nil,or_false,not_or] at hb
   exact kp b o hb.1 hb.2.1 hb.2.2.1 hb.2.2.2 e
 self:=fun _ _ _ _ _ st h=>wpAny_pyIter_zip st.1 h
section
variable {X:Cx}{Ex:Value->Prop}{H0:Hp}{a b:Expr}{elts:List Expr}{x1:Nat}{p pos pos':Pos}{ta:TA}{fa:ac->Res (List D)}
def wc(K:PySem.W.Frag)(ta:TA):TI:=fun σ H R=>ta σ H fun vs H1=>∃ l x,vs=[.ref l,.str x]/\(∃ xs,SqL K H1 l xs)/\asc x=true/\R (Itz K l x) H1
theorem tX(hg:Gl X "zip")(hm:X.mg "zip" = none)(ha:PA X [a,b] ta)(h1:starEach [a,b] X.env=(false,eval a X.env)::starEach [b] X.env)(h2:(backTo pos' (starEach [b] X.env)).any (·.1)=false) :
    PI X (.Tuple elts x1 pos) (.Call (.Name "zip" p) [a,b] [] pos') (wc X.K ta):=by
 intro pins s σ H R I h;have hv:bootBuiltins "zip" = some (.type "zip"):=by decide +kernel
 refine wpAny_Call_Name_kw (eY I hg hm hv ?_ (by decide) (by decide));refine PyProof.Rows.callWith_type1 (thn (ha pos' pins s σ H _ I h) fun us s1 ⟨vs,H1,I1,r1,q1⟩=>?_) h1 h2;obtain ⟨l,x,rfl,⟨xs,hq⟩,hx,q⟩:=q1
 cases r1 with
 |cons ra r2=>
  cases r2 with
  |cons rb r3=>
   cases r3
   cases ra
   obtain ⟨t,rfl⟩:=rb;obtain ⟨its,rv,pl,_⟩:=I1.list hq;refine p8 pl.isList hx fun g z1 z2 z3 z4 z5 kp=>wpAny_pyIter_zip z1 ?_;refine ⟨s1.heap.objs.size+4,[s1.heap.objs.size+4,s1.heap.objs.size+2,s1.heap.objs.size+3,s1.heap.objs.size,s1.heap.objs.size+1],_,_,H1,rfl,I1.kept (t':=s1.toks) kp,p9 ?_,⟨z1,z2,⟨_,_,z3⟩,z4,z5⟩,fun c hc=>?_,q⟩
   ·simp
   ·have:s1.heap.objs.size<=c:=by
       simp only[List.mem_cons,List.not_mem_nil,or_false] at hc;rcases hc with rfl | rfl | rfl | rfl | rfl<;>first | exact Nat.le_refl _ | exact Nat.le_add_right _ _
    exact I1.fpOk this (I1.hok.fresh this)
def gz(ys:List D)(x:Str):List D:=(ys.zip (fj x)).map fun p=>.tup [p.1,p.2]
theorem tY{K:PySem.W.Frag}{B:Hp}{l:Addr}{us:List V}{ds:List D}{x:Str}(h:B l=some (.lst us))(R:Reps B us ds):df (Itz K l x) B (gz ds x):=by
 intro H s i;have hl:=R.length;refine ⟨fun d hd=>?_,fun hi=>⟨us,SqL.of (s _ _ h),?_⟩⟩
 ·simp only[gz,List.getElem?_map] at hd
  cases e:(ds.zip (fj x))[i]? with
  |none=>rw[e] at hd;cases hd
  |some q=>
   rw[e] at hd
   cases hd
   obtain ⟨q1,q2⟩:=List.getElem?_zip_eq_some.mp e;simp only[fj,List.getElem?_map] at q2
   cases e2:x.cps.toList[i]? with
   |none=>rw[e2] at q2;cases q2
   |some c=>
    rw[e2] at q2;have q2:D.str ⟨#[c]⟩=q.2:=Option.some.inj q2;have e':x.cps[i]?=some c:=by simpa using e2
    obtain ⟨u,hu,ru⟩:=R.get q1;refine ⟨⟨us,u,c,SqL.of (s _ _ h),hu,e'⟩,fun y H' ⟨z,v,c',z1,z2,z3,z4,z5⟩=>⟨rfl,.inr ⟨z,_,_,z1,z2,z3,rfl,?_⟩⟩⟩;have:=z4 us (SqL.of (s _ _ h));rw[hu] at this
    cases this
    rw[e'] at z5
    cases z5
    rw[<- q2];exact .cons ru (.cons .str .nil)
 ·rw[hi,gz,List.length_map,List.length_zip,fj,List.length_map,<- hl]
  simp
def ip(fa:ac->Res (List D)):ac->Res (List D):=fun ρ=>fa ρ >>= fun es=>match es with
 | [d,.str x]=>if asc x=false\/d.tag=.b\/d.isL=false then .bad else be (d.its.map fun ys=>gz ys x)
 |_=>.bad
theorem tZ(hg:Gl X "zip")(hm:X.mg "zip" = none)(ha:FA X H0 Ex [a,b] fa)(h1:starEach [a,b] X.env=(false,eval a X.env)::starEach [b] X.env:=by rfl)(h2:(backTo pos' (starEach [b] X.env)).any (·.1)=false:=by rfl) :
    FI X H0 Ex (.Tuple elts x1 pos) (.Call (.Name "zip" p) [a,b] [] pos') (ip fa):=by
 refine ⟨PI.pre (tX hg hm ha.go h1 h2) ?_⟩;rintro σ H R ⟨Hs,ρ,ts,S,pp⟩;refine ⟨Hs,ρ,ts,S,(Post.bind pp).imp fun es _ p1 us H1 hl S1=>?_⟩;split at p1
 ·rename_i d x _
  split at p1
  ·exact p1.elim
  ·rename_i hc
   have hx:asc x=true:=by cases q:asc x with | true=>rfl | false=>exact absurd (.inl q) hc
   have tb:d.tag≠.b:=fun z=>hc (.inr (.inl z));have il:d.isL=true:=by cases q:d.isL with | true=>rfl | false=>exact absurd (.inr (.inr q)) hc
   obtain ⟨u,v,rfl⟩:=lu hl rfl;have S2:SR Hs H0 H1 (some v::some u::(tvs ts++σ)) (some (.str x)::some d::(tds ts++ρ)):=SX.held hl S1
   cases SR.isStr S2
   cases e:d.its with
   |none=>rw[e] at p1;exact p1.elim
   |some ys=>
    rw[e] at p1;obtain ⟨Hf,fp,O,F⟩:=S2.drop;obtain ⟨l,vs,rfl,Hg,fq,O',F',_,hl',R'⟩:=O.itemsC F e tb;rw[il] at hl';exact ⟨l,x,rfl,⟨vs,SqL.of (F'.fh _ _ hl')⟩,hx,p1 _ H1 Hg fq (tY hl' R') O' F'⟩
 ·exact p1.elim
end
section
variable {X:Cx}{Ex:Value->Prop}{H0:Hp}{e:Expr}{pos:Pos}
def cz(n:Nat)(F:List D->Res D)(fa:ac->Res (List D)):ac->Res D:=fun ρ=>fa ρ >>= fun ds=>if ds.length=n then (match cZ F ds with
 | .ok d=>.ok d
 |_=>.bad) else .bad
theorem kC{n:Nat}{F:List D->Res D}{fa:ac->Res (List D)}{σ:St}{H:Hp}{Q:VK}(h:TEF H0 Ex (cz n F fa) σ H Q):mR (spF n F) [] (fun _ _ _=>False) (TAF H0 Ex fa) σ H Q:=by
 obtain ⟨Hs,ρ,ts,S,p⟩:=h;refine ⟨Hs,ρ,ts,S,(Post.bind p).imp fun ds _ p1 us H1 hl S1=>?_⟩;split at p1
 ·rename_i hds
  rw[List.append_nil]
  cases ec:cZ F ds with
  |bad=>rw[ec] at p1;exact p1.elim
  |exc C=>rw[ec] at p1;exact p1.elim
  |ok d=>
   rw[ec] at p1;obtain ⟨Hs',es',a1,a2,a3,a4,a5⟩:=lq (Ex:=fun _=>False) (F:=F) (n:=n) hds hl S1 (by rw[ec];exact p1);refine ⟨Hs',es',a1,a2,a3,a4,?_⟩
   cases ef:F es' with
   |ok d=>rw[ef] at a5;exact a5
   |exc C=>rw[ef] at a5;exact fun H' sm=>(a5 H' sm).1
   |bad=>rw[ef] at a5;exact a5.elim
 ·exact p1.elim
theorem lB{x:Str}{n k:Nat}{F:List D->Res D}{p:Pos}{es:List Expr}{fa:ac->Res (List D)}(c:Cal X.prog X.w X.K X.mg X.base x n F k)(hr:Room k X.A)(hg:Gl X x)(ha:FA X H0 Ex (e::es) fa)(hn:(e::es).length=n:=by rfl)
    (hdb:(x == ("__debug__" : Str))=false:=by decide) (he:starEach (e::es) X.env=(false,eval e X.env)::starEach es X.env:=by rfl) (hpl:(backTo pos (starEach es X.env)).any (·.1)=false:=by rfl) :
    FE X H0 Ex (.Call (.Name x p) (e::es) [] pos) (cz n F fa):=by
 obtain ⟨f,fd,ps,G,hm,hk,hb⟩:=c.ex;exact ⟨PE.pre (mf (dvs:=[]) (E:=fun _ _ _=>False) G hr hg hm hk hb .nil rA ha.go hdb he hpl) fun σ H Q h=>kC h⟩
theorem hu4{k:Nat}{A:Around}(r:Room k A):A.units+4<cLine:=by have:=r.un;omega
end
theorem u9{P:Program}{w:World}{K:PySem.W.Frag}{mg:Str->Option Value}{base:Heap}{x qual:Str}{C:Addr}{st:Stmt}{N ps:List Str}{k n:Nat}{g:ac->FOut}(hU:∃ f fd,Fun K "__init__" qual st f fd/\mg x=some (.ref C)/\Mk K C f/\Binds K fd ps [])(S:FnScope N ps (am st))(hn:ps.length=n+1)
    (hbody:∀ (f:Addr) (cdv:Value) (A:Around) (outer:List Env) (s:Shared) (H H0:Hp) (E:XK) (Ex:Value->Prop),(∀ C H',Ex C->Same H0 H'->E C none H')->Room k (A.deeper (envOfC qual (am st) s.heap.objs.size f cdv)) →
     FSs (cxm P w K mg base N qual (am st) f cdv A outer s H E) H0 Ex (bD st) g):Mak P w K mg base x C n (cj C N.length g) (k+1):=by
 obtain ⟨f,fd,U,hm,M,hb⟩:=hU;exact ⟨f,fd,ps,ol U S hn fun cdv A outer s H H0 E Ex hE hr=>hbody f cdv A outer s H H0 E Ex hE hr,hm,M,hb⟩
def gY(K:PySem.W.Frag):Bool:=K.all fun p=>!(p.2.cls == .type "list")
theorem oA{K:PySem.W.Frag}(h:gY K=true){a:Addr}{o:Obj}(e:K.lookup a=some o):o.cls≠.type "list" := by
 unfold gY at h;induction K with
 |nil=>simp at e
 |cons p r ih=>
  obtain ⟨b,q⟩:=p;rw[List.lookup_cons] at e;rw[List.all_cons,Bool.and_eq_true] at h
  cases hb:a == b with
  |true=>
   rw[hb] at e;have e:q=o:=Option.some.inj e;subst e;intro z;have:=h.1;rw[show (q.cls == Value.type "list")=true by rw[z];simp] at this
   cases this
  |false=>rw[hb] at e;exact ih h.2 e
theorem vb{l:PySem.W.OpenLaw}{n k:Nat}{q:Program}{loose:List Str}{XP:(Str->Option Value)->Heap->Prop}{YP:World->Heap->Prop}{d:DefRec}{K:Params->PySem.W.Frag}{x:Str}
    (hn:l.most=some n) (hn2:n<=sizeLine) (hdf:d.params.defaults=[]) (hr:Room k callerA) (hY:∀ (w:World) (h:Heap),YP w h->(K w.params).In h)
    (F:∀ (w:World) (mg:Str->Option Value) (fa:Addr) (h:Heap),(K w.params).In h->h.Ns mainGlobals mg->mg d.name=some (.ref fa) →
     ∃ Fl:List D->Res D,(∀ ns:List Int,ns.length<=n->Fl [.scr ns]=.ok (.bl true))/\gY (K w.params)=true/\∃ fd:FuncData,(∀ (s:Shared) (u:Value),BindsTo s fd ⟨[u],[]⟩ [(x,u)]) ∧
      ∀ base:Heap,(K w.params).In base->base.Ns mainGlobals mg->FnOk l.prog w (K w.params) mg base (CXm l.prog w) k fa fd [x] (spF 1 Fl)) :
    PySem.W.WalkO q loose XP YP l.row.toRowW d [] (fun f vs=>PySem.call f vs):=by
 refine Att.attach_call hn hdf fun w s₀ s₁ mg mb fa o pm cd doc a vs ns G Y ho hd hcd hmg hobj hints hlen hg=>?_;have KX:=hY w _ Y;obtain ⟨Fl,hFl,hnl,fd,hb,hF⟩:=F w mg fa _ KX G.T.g hmg;refine pG KX G.T.g G.T.b G.T.builtins G.T.nolimit hg hobj hints (Nat.le_trans hlen hn2) hr hF hb (fun H hO hS=>?_) fun H e s' h=>?_
 ·have hH:∃ o,H a=some (.frz o (.lst (ns.map V.int))):=by
     rcases hS with (z | z) | ⟨o,its,m,z,zc,_⟩
     ·rcases hO a with y | ⟨o,xs,y⟩
      ·rw[y] at z;cases z
      ·rw[y] at z;cases z
     ·exact z
     ·exact absurd zc (oA hnl z)
  obtain ⟨o,hH⟩:=hH;refine ⟨H,[.scr ns],rfl,Same.refl _,.cons (.scr hH) .nil,fun d m=>by simp at m;subst m;rfl,?_⟩;rw[hFl ns hlen];exact fun v H' S'=>SR.isBl S'
 ·obtain ⟨_,_,_,_,_,_,_,_,_,z⟩:=h
  exact z
theorem bv{K:PySem.W.Frag}{h:Heap}{mg:Str->Option Value}{x:Str}{st:Stmt}{ps:List Str}{f:Addr}{oc:Value}{od an:Option Addr}{osl:Array (Option Value)}{kV doc pm cdv ct:Value}(X:K.In h)(G:h.Ns mainGlobals mg)
    (a:PySem.W.nsIn K mainGlobals x=some (some (.ref f))) (l:K.lookup f=some ⟨oc,od,.func (PySem.W.fnOf x x (cK st) (bD st) (am st) .none kV doc pm an cdv ct),osl⟩) (c:PySem.W.codeIn K cdv x=true) (kp:PySem.W.keepIn K (.ref f)=true)
    (hb:∀ (kV doc pm:Value) (an:Option Addr) (cdv ct:Value) (us:List Value),us.length=ps.length->bindArgs (PySem.W.fnOf x x (cK st) (bD st) (am st) .none kV doc pm an cdv ct) ⟨us,[]⟩=pure (ps.zip us)):Df K mg x st ps:=
 ⟨⟨f,_,jj l c kp,PySem.W.mg_of X G a,(jj (st:=st) l c kp).binds hb⟩⟩
theorem fm{K:PySem.W.Frag}{h:Heap}{mg:Str->Option Value}{x:Str}{C:Addr}(X:K.In h)(G:h.Ns mainGlobals mg)(a:PySem.W.nsIn K mainGlobals x=some (some (.ref C)))(e:PySem.W.excIn K C fK "ValueError.__new__" = true):XCls K mg x C:=rC (PySem.W.mg_of X G a) e
theorem t7{P:Program}{w:World}{K:PySem.W.Frag}{mg:Str->Option Value}{base:Heap}{N:List Str}{x:Str}{st:Stmt}{ps:List Str}{k:Nat}{g:ac->FOut}{f:Addr}{fd:FuncData}(U:Fun K x x st f fd)(S:FnScope N ps (am st))
    (hbody:∀ (f:Addr) (cdv:Value) (A:Around) (outer:List Env) (s:Shared) (H:Hp) (E:XK) (Ex:Value->Prop),(∀ C H',Ex C->Same H H'->E C none H')->Room k (A.deeper (envOfC x (am st) s.heap.objs.size f cdv)) →
     FSs (cxm P w K mg base N x (am st) f cdv A outer s H E) H Ex (bD st) g):FnOk P w K mg base (CXm P w) (k+1) f fd ps (spF ps.length (aJ N.length g)):=
 mm U S fun cdv A outer s H E ds hr hl hx=>⟨g,hbody f cdv A outer s H E _ (fun C H' e sm=>hx C e H' sm) hr,rfl⟩
def dNe:D->D->Res D:=fun x y=>if lA x=true/\lA y=true then (match aG 4 x y with
 |some b=>.ok (.bl (!b))
 |none=>.bad) else cU true x y
section
variable {X:Cx}{Ex:Value->Prop}{H0:Hp}{a b:Expr}{elts:List Expr}{x1:Nat}{p pos pos':Pos}{ta:TA}{fa:ac->Res (List D)}
end
section
variable {prog:Program}{w:World}{A:Around}{E:Value->Shared->Prop}{s:Shared}{a₀:Array Keyed}{κ:KeyKind}
end
section
variable {X:Cx}
end
section
variable {X:Cx}{pins:List (Addr × Obj)}{σ:St}{H:Hp}{s:Shared}
theorem vc(I:Inv X pins σ H s)(n:Nat){a a':Addr}{d d':D}{b:Bool}(hu:X.A.units+(n+1)<cLine)(r1:Rep H (.ref a) d)(r2:Rep H (.ref a') d')(h:aG (n+1) d d'=some b):SeqAt.RcNeAt X.A s (.ref a) (.ref a') (!b):=by
 have items:∀ {us us':List V} {its its':List Value} {xs ys:List D} {b:Bool},Reps H us xs->Reps H us' ys->Vals us its->Vals us' its'->xs.length=ys.length->cu ((xs.zip ys).map fun p=>aG n p.1 p.2)=some b →
     ∃ e:Nat->Bool,(∀ j (h1:j<its.toArray.size) (h2:j<its'.toArray.size),SeqAt.EqAt X.A.in1 s its.toArray[j] its'.toArray[j] (e j))/\b=(List.range its.toArray.size).all e:=by
  intro us us' its its' xs ys b q1 q2 w1 w2 hl h;obtain ⟨e,he,hb⟩:=i8 h;have l1:((xs.zip ys).map fun p=>aG n p.1 p.2).length=its.length:=by rw[List.length_map,List.length_zip,<- w1.length,q1.length];omega
  refine ⟨e,fun j h1 h2=>?_,by rw[hb,l1];rfl⟩;have j1:j<its.length:=by simpa using h1
  have j2:j<its'.length:=by simpa using h2
  have:=he j (by rw[l1];exact j1);rw[List.getElem?_map] at this
  cases ez:(xs.zip ys)[j]? with
  |none=>rw[ez] at this;cases this
  |some p=>
   rw[ez] at this;have hd:aG n p.1 p.2=some (e j):=Option.some.inj this;obtain ⟨hx,hy⟩:=List.getElem?_zip_eq_some.mp ez;obtain ⟨v1,hv1,rp1⟩:=q1.get hx;obtain ⟨v2,hv2,rp2⟩:=q2.get hy;obtain ⟨u1,hu1,rl1⟩:=w1.get hv1;obtain ⟨u2,hu2,rl2⟩:=w2.get hv2;have g1:its.toArray[j]=u1:=by rw[List.getElem?_eq_getElem j1] at hu1;simpa using Option.some.inj hu1
   have g2:its'.toArray[j]=u2:=by rw[List.getElem?_eq_getElem j2] at hu2;simpa using Option.some.inj hu2
   rw[g1,g2];exact (qC I n X.A.in1 (show X.A.units+1+n<cLine by omega) rp1 rp2 rl1 rl2 hd).1
 cases d with
 |lst t xs=>
  cases d' with
  |lst t' ys=>
   cases r1 with
   |lst h1 q1=>
    cases r2 with
    |lst h2 q2=>
     obtain ⟨its,w1,p1,_⟩:=I.list (SqL.of h1);obtain ⟨its',w2,p2,_⟩:=I.list (SqL.of h2);unfold aG at h;by_cases hl:xs.length=ys.length
     ·rw[if_pos hl] at h
      obtain ⟨e,he,hb⟩:=items q1 q2 w1 w2 hl h;rw[hb];exact SeqAt.RcNeAt.lists p1.isList p2.isList (by simp[<- w1.length,<- w2.length,q1.length,q2.length,hl]) (by omega) he
     ·rw[if_neg hl] at h
      cases h
      exact SeqAt.RcNeAt.lists_lengths p1.isList p2.isList (by simp[<- w1.length,<- w2.length,q1.length,q2.length];exact hl) (by omega)
  |_=>simp[aG] at h
 |tup xs=>
  cases d' with
  |tup ys=>
   cases r1 with
   |tup h1 q1=>
    cases r2 with
    |tup h2 q2=>
     obtain ⟨its,w1,p1,_⟩:=I.tuple (SqT.of h1);obtain ⟨its',w2,p2,_⟩:=I.tuple (SqT.of h2);unfold aG at h;by_cases hl:xs.length=ys.length
     ·rw[if_pos hl] at h
      obtain ⟨e,he,hb⟩:=items q1 q2 w1 w2 hl h;have lz:its.toArray.size=its'.toArray.size:=by simp[<- w1.length,<- w2.length,q1.length,q2.length,hl]
      have:=SeqAt.RcNeAt.tuples (s:=s) (A:=X.A) (show s.heap.IsTuple _ its.toArray from p1) (show s.heap.IsTuple _ its'.toArray from p2) (by omega) he;rw[<- lz,Nat.min_self,beq_self_eq_true,Bool.and_true] at this;rw[hb];exact this
     ·rw[if_neg hl] at h;cases h
  |_=>simp[aG] at h
 |int i=>cases r1
 |str i=>cases r1
 |_=>cases r2<;>simp[aG] at h
end
section
variable {X:Cx}
theorem t8(hu:X.A.units+4<cLine):OpR X (compareOp .NotEq) (fun x y H Q=>∃ d d' b a a',x=.ref a/\y=.ref a'/\Rep H x d/\Rep H y d'/\aG 4 d d'=some b/\Q (.bl (!b)) H):=by
 intro pins s σ H x y v u Q I rx ry h;obtain ⟨d,d',b,a,a',rfl,rfl,r1,r2,hd,q⟩:=h
 cases rx;cases ry
 exact vc I 3 hu r1 r2 hd _ _ _ _ ⟨.bl (!b),H,I,rfl,q⟩
theorem rE:∀ x y,noX (dNe x y)=true:=by
 intro x y;unfold dNe;split
 ·split<;>rfl
 ·exact dr _ _ _
theorem vd(hu:X.A.units+4<cLine):FOp X (compareOp .NotEq) dNe:=by
 refine ⟨OpR.pre (OpR.or (t8 hu) (f9 (X:=X)).go) ?_⟩;rintro x y H Q ⟨Hs,H0,vs,ds,d1,d2,d,S,e,k⟩;unfold dNe at e;split at e
 ·rename_i hs
  split at e
  ·rename_i b hb
   cases e
   obtain ⟨a,rfl⟩:=io S.drop.head hs.1;obtain ⟨a',rfl⟩:=io S.head hs.2;exact .inl ⟨d1,d2,b,a,a',rfl,rfl,S.drop.head,S.head,hb,k _ H S.drop.drop.bl⟩
  ·cases e
 ·exact .inr ⟨Hs,H0,vs,ds,d1,d2,d,S,e,k⟩
end
section
variable {X:Cx}{Ex:Value->Prop}{H0:Hp}{e:Expr}{f:ac->Res D}{pos:Pos}
end
def Itn(K:PySem.W.Frag)(a:Addr):It:=
 ⟨fun i H=>∃ xs v,SqL K H a xs/\xs[i]?=some v,
  fun i H y H'=>∃ p v,H p=none/\H'=upd H p (.tup [.int (i:Int),v])/\y=.ref p/\(∀ xs,SqL K H a xs->xs[i]?=some v),
  fun i H=>∃ xs,SqL K H a xs/\i=xs.length⟩
def tnn(e it a:Addr)(i:Nat)(h:Heap):Prop:=(∃ old,IsEnum h e it (i:Int) old)/\h.IsListIter it a i
theorem oB{P:Program}{w:World}{K:PySem.W.Frag}{elts:List Expr}{x1}{pos:Pos}{a e it:Addr}(ne:e≠it):Turn P w K (.Tuple elts x1 pos) (Itn K a) [e,it] e (tnn e it a) where
 mem:=List.mem_cons_self
 obj:=fun i h st b hb=>by
  obtain ⟨⟨old,h1⟩,⟨o4,h4,_,d4⟩⟩:=st;simp only[List.mem_cons,List.not_mem_nil,or_false] at hb;rcases hb with rfl | rfl
  ·exact ⟨_,h1,fun v z=>nomatch z⟩
  ·exact ⟨_,h4,fun v z=>by rw[d4] at z;cases z⟩
 keep:=fun i h h' st k=>by
  obtain ⟨⟨old,h1⟩,⟨o4,h4,r4⟩⟩:=st;exact ⟨⟨old,k e (by simp) _ h1⟩,⟨o4,k it (by simp) _ h4,r4⟩⟩
 item:=by
  intro X e1 e2 e3 hc i pins s σ H E I hf st hg;subst e1 e2 e3;obtain ⟨xs,v,hq,hv⟩:=hg;obtain ⟨⟨old,h1⟩,h4⟩:=st;obtain ⟨its,rv,pl,hz⟩:=I.list hq;obtain ⟨u,hu,ru⟩:=rv.get hv;have na:a≠it/\a≠e:=by
   obtain ⟨oa,ea,ca,_⟩:=pl.isList;obtain ⟨o4,e4,c4,_⟩:=h4;refine ⟨fun z=>?_,fun z=>?_⟩
   ·rw[z,e4] at ea;cases ea;rw[c4] at ca;exact absurd ca (by decide)
   ·rw[z,h1] at ea;cases ea;exact (show Value.type "enumerate" ≠ Value.type "list" by decide) ca
  have l1:i<its.toArray.size:=by
   rw[List.size_toArray];exact (List.getElem?_eq_some_iff.mp hu).1
  have hh:=I.ok.hd hc;refine wpAny_pyNext_enum_itemD (Draws.list (prog:=X.prog) (w:=X.w) (A:=X.A.in1) hh it a na.1 its.toArray) h1 ⟨h4,pl.isList⟩ l1 ne (by simp only[List.mem_cons,List.not_mem_nil,or_false,not_or];exact ⟨ne,Ne.symm na.2⟩) fun vx g tk p1 he' hs1 pr hz' kp=>⟨_,rfl,?_⟩
  have hvx:vx=u:=by
   have p1:its.toArray[i]?=some vx:=p1;rw[List.getElem?_toArray,hu] at p1;exact (Option.some.inj p1).symm
  subst hvx;refine wpAny_letOwnedTupleGo_enum (s:={ s with heap:=g,toks:=tk+1 }) he' fun g2 hz2 sb=>?_;have lt:∀ {b o},s.heap.get? b=some o->b≠s.heap.objs.size:=fun e=>Nat.ne_of_lt (Heap.lt_size e);have kp2:∀ b o,b∉[e,it]->s.heap.get? b=some o->g2.get? b=some o:=fun b o hb q=>by
   simp only[List.mem_cons,List.not_mem_nil,or_false,not_or] at hb;exact sb.extBut _ _ hb.1 (kp b o hb.1 hb.2 q)
  have prT:g2.get? s.heap.objs.size=some { cls:=.type "tuple", data:=.seq #[.int i tk,vx] }:=sb.extBut _ _ (Ne.symm (lt h1)) pr;have J:Inv X pins σ (upd H s.heap.objs.size (.tup [.int (i:Int),v])) { s with heap:=g2,toks:=tk+1 }:=Inv.turnLay (us:=[.int (i:Int),v]) I kp2 (fun b hb=>hf b hb) (Nat.le_refl _) ⟨show 2<=sizeLine by decide,[.int i tk,vx],.cons ⟨tk,rfl⟩ (.cons ru .nil),⟨_,prT,rfl,_,rfl⟩⟩
  refine ⟨.ref s.heap.objs.size,upd H s.heap.objs.size (.tup [.int (i:Int),v]),J,rfl,
   ⟨_,v,I.hok.fresh (Nat.le_refl _),rfl,rfl,fun ys hy=>by rw[I.list_inj hy hq];exact hv⟩,⟨⟨_,by have:=hz2;simpa using this⟩,hs1.1.extBut sb.extBut (Ne.symm ne)⟩,fun b hb=>?_⟩
  simp only[List.mem_cons,List.not_mem_nil,or_false] at hb;have:∃ o,s.heap.get? b=some o:=by
   rcases hb with rfl | rfl
   ·exact ⟨_,h1⟩
   ·obtain ⟨o4,e4,_⟩:=h4;exact ⟨_,e4⟩
  obtain ⟨o,ho⟩:=this;rw[aD (lt ho)];exact (hf b (by simpa using hb)).1
 done:=by
  intro X e1 e2 e3 hc i pins s σ H E I hf st hg;subst e1 e2 e3;obtain ⟨xs,hq,hi⟩:=hg;obtain ⟨⟨old,h1⟩,h4⟩:=st;obtain ⟨its,rv,pl,hz⟩:=I.list hq;have hlen:=rv.length;have na:a≠it:=by
   obtain ⟨oa,ea,ca,_⟩:=pl.isList;obtain ⟨o4,e4,c4,_⟩:=h4;intro z;rw[z,e4] at ea;cases ea;rw[c4] at ca;exact absurd ca (by decide)
  have hsz:i=its.toArray.size:=by rw[List.size_toArray,<- hlen,hi]
  subst hsz;refine wpAny_pyNext_enum_endD (Draws.list (prog:=X.prog) (w:=X.w) (A:=X.A.in1) (I.ok.hd hc) it a na its.toArray) h1 ⟨h4,pl.isList⟩ fun g kp=>⟨rfl,Inv.turnL (tk:=s.toks) (ch:=[e,it]) I (fun b o hb q=>kp b o (fun z=>hb (by simp[z])) q) fun b hb=>hf b hb⟩
 self:=fun _ _ _ _ _ st h=>wpAny_pyIter_enum st.1.choose_spec h
section
variable {X:Cx}{Ex:Value->Prop}{H0:Hp}{a:Expr}{elts:List Expr}{x1:Nat}{p pos pos':Pos}{ta:TA}{fa:ac->Res (List D)}
def vf(K:PySem.W.Frag)(ta:TA):TI:=fun σ H R=>ta σ H fun vs H1=>∃ l,vs=[.ref l]/\(∃ xs,SqL K H1 l xs)/\R (Itn K l) H1
theorem rF(hg:Gl X "enumerate")(hm:X.mg "enumerate" = none)(ha:PA X [a] ta)(h1:starEach [a] X.env=(false,eval a X.env)::starEach [] X.env)(h2:(backTo pos' (starEach [] X.env)).any (·.1)=false) :
    PI X (.Tuple elts x1 pos) (.Call (.Name "enumerate" p) [a] [] pos') (vf X.K ta):=by
 intro pins s σ H R I h;have hv:bootBuiltins "enumerate" = some (.type "enumerate"):=by decide +kernel
 refine wpAny_Call_Name_kw (eY I hg hm hv ?_ (by decide) (by decide));refine PyProof.Rows.callWith_type1 (thn (ha pos' pins s σ H _ I h) fun us s1 ⟨vs,H1,I1,r1,q1⟩=>?_) h1 h2;obtain ⟨l,rfl,⟨xs,hq⟩,q⟩:=q1
 cases r1 with
 |cons ra r2=>
  cases r2
  cases ra
  obtain ⟨its,rv,pl,_⟩:=I1.list hq;refine call_enumerate_list pl.isList fun g z1 z2 z3 kp=>wpAny_pyIter_enum z1 ?_;refine ⟨s1.heap.objs.size+1,[s1.heap.objs.size+1,s1.heap.objs.size],_,_,H1,rfl,I1.kept (t':=s1.toks) kp,oB (Nat.succ_ne_self _),⟨⟨_,z1⟩,z2⟩,fun c hc=>?_,q⟩;have:s1.heap.objs.size<=c:=by
   simp only[List.mem_cons,List.not_mem_nil,or_false] at hc;rcases hc with rfl | rfl<;>first | exact Nat.le_refl _ | exact Nat.le_add_right _ _
  exact I1.fpOk this (I1.hok.fresh this)
def gA(ys:List D):List D:=ys.zipIdx.map fun p=>.tup [.int (p.2:Int),p.1]
theorem t9{K:PySem.W.Frag}{B:Hp}{l:Addr}{us:List V}{ds:List D}(h:B l=some (.lst us))(R:Reps B us ds):df (Itn K l) B (gA ds):=by
 intro H s i;have hl:=R.length;refine ⟨fun d hd=>?_,fun hi=>⟨us,SqL.of (s _ _ h),?_⟩⟩
 ·simp only[gA,List.getElem?_map,List.getElem?_zipIdx] at hd
  cases e:ds[i]? with
  |none=>rw[e] at hd;cases hd
  |some q=>
   rw[e] at hd;have hd:D.tup [.int ((0+i:Nat):Int),q]=d:=Option.some.inj hd;rw[Nat.zero_add] at hd;subst hd;obtain ⟨u,hu,ru⟩:=R.get e;refine ⟨⟨us,u,SqL.of (s _ _ h),hu⟩,fun y H' ⟨z,v,z1,z2,z3,z4⟩=>⟨rfl,.inr ⟨z,_,_,z1,z2,z3,rfl,?_⟩⟩⟩;have:=z4 us (SqL.of (s _ _ h));rw[hu] at this
   cases this
   exact .cons .int (.cons ru .nil)
 ·rw[hi,gA,List.length_map,List.length_zipIdx,<- hl]
def jw(fa:ac->Res (List D)):ac->Res (List D):=fun ρ=>fa ρ >>= fun es=>match es with
 | [d]=>if d.tag=.b\/d.isL=false then .bad else be (d.its.map gA)
 |_=>.bad
theorem rG(hg:Gl X "enumerate")(hm:X.mg "enumerate" = none)(ha:FA X H0 Ex [a] fa)(h1:starEach [a] X.env=(false,eval a X.env)::starEach [] X.env:=by rfl)(h2:(backTo pos' (starEach [] X.env)).any (·.1)=false:=by rfl) :
    FI X H0 Ex (.Tuple elts x1 pos) (.Call (.Name "enumerate" p) [a] [] pos') (jw fa):=by
 refine ⟨PI.pre (rF hg hm ha.go h1 h2) ?_⟩;rintro σ H R ⟨Hs,ρ,ts,S,pp⟩;refine ⟨Hs,ρ,ts,S,(Post.bind pp).imp fun es _ p1 us H1 hl S1=>?_⟩;split at p1
 ·rename_i d _
  split at p1
  ·exact p1.elim
  ·rename_i hc
   have tb:d.tag≠.b:=fun z=>hc (.inl z);have il:d.isL=true:=by cases q:d.isL with | true=>rfl | false=>exact absurd (.inr q) hc
   obtain ⟨u,rfl⟩:=dH hl rfl;have S2:SR Hs H0 H1 (some u::(tvs ts++σ)) (some d::(tds ts++ρ)):=SX.held hl S1
   cases e:d.its with
   |none=>rw[e] at p1;exact p1.elim
   |some ys=>
    rw[e] at p1;obtain ⟨Hf,fp,O,F⟩:=S2;obtain ⟨l,vs,rfl,Hg,fq,O',F',_,hl',R'⟩:=O.itemsC F e tb;rw[il] at hl';exact ⟨l,rfl,⟨vs,SqL.of (F'.fh _ _ hl')⟩,p1 _ H1 Hg fq (t9 hl' R') O' F'⟩
 ·exact p1.elim
end
section
variable {X:Cx}{Ex:Value->Prop}{H0:Hp}{c e k:Expr}{f fk:ac->Res D}{pos:Pos}
end
section
variable {X:Cx}
end
section
variable {X:Cx}{Ex:Value->Prop}{H0:Hp}{e:Expr}{pos:Pos}
end
section
variable {X:Cx}{Ex:Value->Prop}{H0:Hp}{st:Stmt}{g:ac->FOut}
theorem eE{body:List Stmt}:FSs X H0 Ex body (fun _=>.bad):=by
 refine ⟨fun pins s σ H D I h=>?_⟩;obtain ⟨Hs,ρ,S,p⟩:=h;exact p.elim
end
section
variable {X:Cx}
end
section
variable {X:Cx}{Ex:Value->Prop}{H0:Hp}{g:ac->FOut}{body:List Stmt}{pos:Pos}
end
section
variable {X:Cx}
end
section
variable {X:Cx}{Ex:Value->Prop}{H0:Hp}{e:Expr}{f:ac->Res D}{pos:Pos}
end
section
variable {X:Cx}{Ex:Value->Prop}{H0:Hp}{e:Expr}{f:ac->Res D}{pos:Pos}
end
section
variable {X:Cx}{Ex:Value->Prop}{H0:Hp}{e:Expr}{f fk:ac->Res D}{pos:Pos}
end
section
variable {X:Cx}{Ex:Value->Prop}{H0:Hp}{e k:Expr}{f fk:ac->Res D}{pos:Pos}
end
section
variable {X:Cx}{Ex:Value->Prop}{H0:Hp}{e:Expr}{f:ac->Res D}{pos:Pos}
end
section
variable {Hs H0 Hf H:Hp}{fp L:List Addr}{vs:List (Option V)}{ds:List (Option D)}
end
section
variable {X:Cx}{Ex:Value->Prop}{H0:Hp}{CX:CXT}{k n:Nat}{f:Addr}{fd:FuncData}{ps:List Str}{F:List D->Res D}{x:Str}{p pos:Pos}{e:Expr}{es:List Expr}
end
section
variable {X:Cx}{Ex:Value->Prop}{H0:Hp}{CX:CXT}{k n:Nat}{f:Addr}{fd:FuncData}{ps:List Str}{F:List D->Res D}{x:Str}{p pos:Pos}{e:Expr}{es:List Expr}
end
section
variable {X:Cx}{Ex:Value->Prop}{H0:Hp}{o e g:Expr}{fd fk fx f:ac->Res D}{apos cpos pos:Pos}
end
section
variable {X:Cx}{tg:Expr}{pos:Pos}
end
section
variable {X:Cx}{Ex:Value->Prop}{H0:Hp}{o e g:Expr}{fd fk fx f:ac->Res D}{apos cpos pos:Pos}
end
theorem kQ:entryFor table "proto.unchain" = some Builtin.«proto.unchain»:=by kernel_rfl
section
variable {prog:Program}{w:World}{A:Around}{E:Value->Shared->Prop}{s:Shared}{env:Env}
theorem lC{v slow:Value}{a:Addr}{o:Obj}{vs:Array Value}{Q:Value->Shared->Prop}(b:Bool)(e:s.heap.get? a=some o)(d:o.data=.fields vs)(c:vs[2]?=some .none)(hq:Q .none s) :
    wpAny (model prog w) A (runValue (.builtin "proto.unchain" ⟨[v,.ref a,slow,.bool b],[]⟩)) Q E s:=by
 refine wpAny_runValue (codeAny_builtin kQ ?_);unfold Builtin.«proto.unchain»;dsimp only;refine wpAny_bind (wpAny_field e d c ?_);rw[if_pos (by rfl)];exact wpAny_pure hq
theorem lD{α:Type}{e a:Addr}{oe o:Obj}{ve vs:Array Value}{Q:α->Shared->Prop}(hh:A.handled=some (.ref a))(ne:a≠e)(he:s.heap.get? e=some oe)(hde:oe.data=.fields ve)(h2:2<ve.size)(ha:s.heap.get? a=some o)(d:o.data=.fields vs)(c:vs[2]?=some .none)
    (h:E (.ref e) { s with heap:=s.heap.update e (Obj.mapFields (·.setIfInBounds 2 (.ref a))) }):wpAny (model prog w) A (raiseNew (.ref e):Sem α) Q E s:=by
 unfold raiseNew;refine wpAny_bind (wpAny_handled ?_);rw[hh];dsimp only;rw[if_pos (by simpa using ne)];refine wpAny_bind (wpAny_holding (lC false ha d c ?_));unfold updateField;refine wpAny_bind (wpAny_bind (wpAny_load he ?_));rw[hde];dsimp only;rw[if_pos h2];exact wpAny_update he (wpAny_throw h)
variable {nm q:Str}{C N:Addr}{bs bm bmB:List Value}{hdct:Bool}{sn:List Str}{sub:List Value}{ab:Bool}{col:Option Bool}{dd:Option Addr}{k0 k1 k2 k3 k5:Option Value}{B Bn newId nid initId inN:String}{bmN:List Value}
theorem qa(Fn:ExcBaseFacts Bn newId inN bmN)(hBn:bmB.contains (.type Bn)=true)(F:ExcBaseFacts B nid initId bmB){mN:Str->Option Value}{x:Str}{np cpos:Pos}{args:List Expr}{Q:Value->Shared->Prop}
    (hplain:(backTo cpos (starEach args env)).any (·.1)=false) (hni:mN "__init__" = none)
    (h:wpAny (model prog w) A (eval (.Name x np) env) (fun f s1=>f=.ref C/\wpAny (model prog w) A (evalArgs (.ref C) true (backTo cpos (starEach args env)) [])
     (fun a s2=>a.kw=[]/\a.pos.length<=sizeLine/\s2.heap.get? C=some (excClassObj nm q C N bs bm hdct sn sub ab col dd k0 k1 k2 k3 k5 newId)/\s2.heap.Ns N mN/\OwnTail s2.heap bmB bm ∧
      ∀ h' e,Heap.MadeExcOf s2.heap h' e (.ref C) a.pos->Q (.ref e) { s2 with heap:=h' }) E s1) E s) :
    wpAny (model prog w) A (eval (.Call (.Name x np) args [] cpos) env) Q E s:=by
 refine wpAny_Call_ofName (wpAny_mono h (fun f s1 h1=>?_) fun _ _ z=>z);obtain ⟨rfl,h1⟩:=h1;unfold callWith;refine wpAny_bind (wpAny_holding (wpAny_mono h1 (fun a s2 h2=>wpAny_bind (wpAny_standAt ?_)) fun _ _ z=>z));obtain ⟨ap,ak⟩:=a;obtain ⟨hk,hl,hC,hn,T,h3⟩:=h2;obtain rfl:ak=[]:=hk;obtain ⟨hp,g,d,tk,os⟩:=s2;simp only[hplain];refine wpAny_bind (wpAny_keeperOf_exc hC ?_)
 exact wpAny_bind (wpAny_call_exc_subU (hrest:=hl) Fn hBn F T hC hn hni fun h' e hm=>wpAny_bind (wpAny_holding (wpAny_point (wpAny_pure (h3 h' e hm)))))
theorem nc(Fn:ExcBaseFacts Bn newId inN bmN)(hBn:bmB.contains (.type Bn)=true)(F:ExcBaseFacts B nid initId bmB){mN:Str->Option Value}{x:Str}{np cpos pos pn:Pos}{jn:Nat}{args:List Expr}{Q:Flow->Shared->Prop}{a:Addr}
    (hbase:bm.contains (.type "BaseException")=true) (hh:A.handled=some (.ref a)) (hplain:(backTo cpos (starEach args env)).any (·.1)=false) (hni:mN "__init__" = none)
    (h:wpAny (model prog w) A (eval (.Name x np) env) (fun f s1=>f=.ref C/\wpAny (model prog w) A (evalArgs (.ref C) true (backTo cpos (starEach args env)) [])
     (fun ar s2=>ar.kw=[]/\ar.pos.length<=sizeLine/\s2.heap.get? C=some (excClassObj nm q C N bs bm hdct sn sub ab col dd k0 k1 k2 k3 k5 newId)/\s2.heap.Ns N mN/\OwnTail s2.heap bmB bm/\(∃ o vs,s2.heap.get? a=some o/\o.data=.fields vs/\vs[2]?=some .none) ∧
      ∀ h' e oe vs,(∀ b o,s2.heap.get? b=some o->h'.get? b=some o)->s2.heap.get? e=none->h'.get? e=some oe->oe.data=.fields vs->oe.cls=.ref C->vs[1]?=some .none->E (.ref e) { s2 with heap:=h' }) E s1) E s) :
    wpAny (model prog w) A (exec (.Raise (some (.Call (.Name x np) args [] cpos)) (some (.Constant .none jn pn)) pos) env) Q E s:=by
 rw[arm_exec_Raise];refine wpAny_bind (wpAny_standAt ?_);unfold raiseStmt;dsimp only[evalOpt,Option.map]
 let P2:Value->Shared->Prop:=fun v s1=>∃ (e t:Addr) (s2:Shared),v=.ref e/\s2.heap.get? C=some (excClassObj nm q C N bs bm hdct sn sub ab col dd k0 k1 k2 k3 k5 newId)/\(∃ (o:Obj) (vs:Array Value),s2.heap.get? a=some o/\o.data=.fields vs/\vs[2]?=some .none)/\s1={ s2 with heap:=s1.heap }/\(∀ (b:Addr) (o:Obj),s2.heap.get? b=some o->s1.heap.get? b=some o)/\s2.heap.get? e=none/\s1.heap.get? e=some { cls:=.ref C,data:=.fields #[.ref t,.none,.none,.none,.bool false,.none] } ∧
  ∀ (h':Heap) (e:Addr) (oe:Obj) (vs:Array Value),(∀ (b:Addr) (o:Obj),s2.heap.get? b=some o->h'.get? b=some o)->s2.heap.get? e=none->h'.get? e=some oe->oe.data=.fields vs->oe.cls=.ref C->vs[1]?=some .none->E (.ref e) { s2 with heap:=h' }
 have hcB:(Value.ref C::bm).contains (.type "BaseException")=true:=by rw[List.contains_cons,hbase,Bool.or_true]
 refine wpAny_bind (wpAny_bind (wpAny_mono (qa (Q:=P2) (nm:=nm) (q:=q) (C:=C) (N:=N) (bs:=bs) (bm:=bm) (hdct:=hdct) (sn:=sn) (sub:=sub) (ab:=ab) (col:=col) (dd:=dd) (k0:=k0) (k1:=k1) (k2:=k2) (k3:=k3) (k5:=k5) Fn hBn F hplain hni (wpAny_mono h (fun f s1 h1=>⟨h1.1,wpAny_mono h1.2 (fun ar s2 h2=>?_) fun _ _ z=>z⟩) fun _ _ z=>z)) (fun v s1 hv=>wpAny_bind (wpAny_standAt (wpAny_pure ?_))) fun _ _ z=>z))
 ·obtain ⟨q1,q2,q3,q4,q5,q6,q7⟩:=h2
  refine ⟨q1,q2,q3,q4,q5,fun h' e hm=>?_⟩;obtain ⟨t,ht,_,_⟩:=hm.there;exact ⟨e,t,s2,rfl,q3,q6,rfl,hm.keeps,hm.new,ht,q7⟩
 ·obtain ⟨e,t,s2,rfl,hC,⟨o,vs,ha,hd,hc⟩,hs,kp,hn,he,fin⟩:=hv
  have hC1:=kp _ _ hC;have ha1:=kp _ _ ha;have nC:C≠e:=fun z=>by rw[z,hn] at hC;cases hC
  have na:a≠e:=fun z=>by rw[z,hn] at ha;cases ha
  obtain ⟨hp,g,d,tk,os⟩:=s1;dsimp only at hC1 ha1 he kp hs
  repeat (first | with_reducible refine wpAny_loadPart_at he ?_ | with_reducible refine wpAny_loadPart_at hC1 ?_ | (with_reducible refine wpAny_isSubtype_exc hC1 ?_;rw[hcB]) | wp_step)
  have e3:(hp.update e (Obj.mapFields (·.setIfInBounds 3 Value.none))).get? e=some { cls:=.ref C,data:=.fields #[.ref t,.none,.none,.none,.bool false,.none] }:=Heap.get?_update_self _ he rfl
  have e4:((hp.update e (Obj.mapFields (·.setIfInBounds 3 Value.none))).update e (Obj.mapFields (·.setIfInBounds 4 (Value.bool true)))).get? e=some { cls:=.ref C,data:=.fields #[.ref t,.none,.none,.none,.bool true,.none] }:=Heap.get?_update_self _ e3 rfl
  have ot:∀ b,b≠e->((hp.update e (Obj.mapFields (·.setIfInBounds 3 Value.none))).update e (Obj.mapFields (·.setIfInBounds 4 (Value.bool true)))).get? b=hp.get? b:=fun b hb=>by
   rw[Heap.get?_update_other _ _ (Ne.symm hb),Heap.get?_update_other _ _ (Ne.symm hb)]
  refine lD hh na e4 rfl (by show 2<6;decide) ((ot a na).trans ha1) hd hc ?_;obtain ⟨h0,g0,d0,t0,o0⟩:=s2
  cases hs
  refine fin _ e { cls:=.ref C,data:=.fields #[.ref t,.none,.ref a,.none,.bool true,.none] } _ (fun b o q=>?_) hn (Heap.get?_update_self _ e4 rfl) rfl rfl rfl;have hb:b≠e:=fun z=>by rw[z] at q;dsimp only at hn;rw[hn] at q;cases q
  exact (Heap.get?_update_other _ _ (Ne.symm hb)).trans ((ot b hb).trans (kp b o q))
end
def jx(C Dc:Addr)(g:ac->FOut):ac->FOut:=fun ρ=>match g ρ with
 | .exc (.ref c)=>if c=C then .exc (.int (Dc:Int) 0) else .bad
 | .exc _=>.bad
 |r=>r
theorem K2.at{h h':Heap}{a:Addr}{o:Obj}{vs:Array Value}(k:K2 h h')(e:h.get? a=some o)(d:o.data=.fields vs)(c:vs[2]?=some .none):∃ o' vs',h'.get? a=some o'/\o'.data=.fields vs'/\vs'[2]?=some .none:=by
 obtain ⟨o',v',e',d',r⟩:=k a o vs e d;exact ⟨o',v',e',d',r.trans c⟩
section
variable {P:Program}{w:World}{K:PySem.W.Frag}{mg:Str->Option Value}{base:Heap}{N:List Str}{qual:Str}{scope:Scope}{f:Addr}{cd:Value}{A:Around}{outer:List Env}{s0:Shared}{Hb:Hp}{E:XK}
variable {Ex:Value->Prop}{H0:Hp}{g:ac->FOut}{body:List Stmt}{cn dn words:Str}{C Dc:Addr}{j jn:Nat}{p1 p2 p3 p4 p5 p6 p7 pos:Pos}
theorem rH(O:XCls K mg cn C)(O2:XCls K mg dn Dc)(hE:∀ C H',Ex C->Same H0 H'->E C none H')(hgC:Gl (cxm P w K mg base N qual scope f cd A outer s0 Hb E) cn)(hgD:Gl (cxm P w K mg base N qual scope f cd A outer s0 Hb E) dn)
    (hb:∀ (E':Value->Shared->Prop) (pn':List (Addr × Obj)) (H0':Hp) (Ex':Value->Prop),Pa (Cx.att (cxm P w K mg base N qual scope f cd A outer s0 Hb E) E' pn') H0' Ex'->FSs (Cx.att (cxm P w K mg base N qual scope f cd A outer s0 Hb E) E' pn') H0' Ex' body g)
    (hdC:(cn == ("__debug__" : Str))=false:=by decide) (hdD:(dn == ("__debug__" : Str))=false:=by decide)
    (hs1:starEach [.Constant (.str words) j p3] (cxm P w K mg base N qual scope f cd A outer s0 Hb E).env=(false,eval (.Constant (.str words) j p3) (cxm P w K mg base N qual scope f cd A outer s0 Hb E).env)::starEach [] (cxm P w K mg base N qual scope f cd A outer s0 Hb E).env:=by rfl) :
    FS (cxm P w K mg base N qual scope f cd A outer s0 Hb E) H0 Ex (.Try body [.ExceptHandler (some (.Name cn p1)) none [.Raise (some (.Call (.Name dn p2) [.Constant (.str words) j p3] [] p4)) (some (.Constant .none jn p5)) p6] p7] [] [] pos) (jx C Dc g):=by
 generalize hX:cxm P w K mg base N qual scope f cd A outer s0 Hb E=X at *
 have made:∀ {pins:List (Addr × Obj)} {σ:St} {H2:Hp} {s2:Shared} {h':Heap} {e:Addr} {oe:Obj} {vs:Array Value} {Cx:Value},Inv X pins σ H2 s2->(∀ b o,s2.heap.get? b=some o->h'.get? b=some o)->s2.heap.get? e=none->h'.get? e=some oe->oe.data=.fields vs->vs[1]?=some .none->XC Cx oe.cls vs->E Cx none H2->X.xe (.ref e) { s2 with heap:=h' }:=by
  subst hX;exact fun I kp new he hd h1 xc hE=>ky I kp new he hd h1 xc hE
 have pas:∀ (a:Addr),PassesOwnAt (model X.prog X.w) (X.A.mark (some (.ref a))) X.A X.env X.xe:=by
  subst hX;exact fun a=>PassesOwnAt.leaving
 have hst:X.stack=X.env::X.outer:=by subst hX;rfl
 have hfl:X.env.frame=some X.env.locals:=by subst hX;rfl
 have hKK:X.K=K:=by subst hX;rfl
 have hmm:X.mg=mg:=by subst hX;rfl
 subst hKK hmm;clear hX;refine ⟨?_⟩;intro pins s σ H En I h;obtain ⟨Hs,ρ,⟨S,nB⟩,p⟩:=h;obtain ⟨Hf,fp,Ow,F⟩:=S;refine wpAny_Try_except ?_
 let Eh:Value->Shared->Prop:=fun e s₁=>wpAny (model X.prog X.w) X.A (noteFrame e X.env) (fun _ s₂=>wpAny (model X.prog X.w) X.A (setFlight e none) (fun _ s₃=>wpAny (model X.prog X.w) X.A (handleBy e X.env [.ExceptHandler (some (.Name cn p1)) none [.Raise (some (.Call (.Name dn p2) [.Constant (.str words) j p3] [] p4)) (some (.Constant .none jn p5)) p6] p7]) (SP X pins En) X.xe s₃) X.xe s₂) X.xe s₁
 let ExB:Value->Prop:=fun C'=>C'=.ref C/\∀ H',Same (b9 H fp) H'->E (.int (Dc:Int) 0) none H';have hPa:Pa (Cx.att X Eh (X.pn++pins)) (b9 H fp) ExB:=by
  refine ⟨?_⟩;intro pins1 σ1 H1 s1 e s' I1 hx;obtain ⟨a,C',H',rfl,hos,bare,u,hok,⟨oe,vs,T,oT,ts,x1,x2',x3,x4,x5,x6,x7,x8,x9,x10,x11,x12⟩,⟨rfl,hrt⟩,sm⟩:=hx;have x2:oe.cls=.ref C:=XC.cls x2' (.inl rfl);have xn:vs[2]?=some .none:=by
   obtain ⟨c,_,⟨_,z⟩ | z⟩:=x2'
   ·exact z
   ·cases z
  have I1:Inv X pins σ1 H1 s1:=Inv.unatt I1;have u:Un (frs X.stack) [] H1 H' s1.heap s'.heap:=u;have FF:s'.heap.FunFrames X.base X.stack:=dz u (fun _ m=>m) (fun b m=>I1.stkFree b m) I1.stack;show wpAny (model X.prog X.w) X.A (noteFrame (.ref a) X.env) _ X.xe s';have hsz:1<vs.size:=(Array.getElem?_eq_some_iff.mp x4).1;have h0:vs[0]?=some vs[0]:=Array.getElem?_eq_some_iff.mpr ⟨by omega,rfl⟩
  refine wpAny_mono (eZ (j3 _ _) (wpAny_looks_onW (Q:=fun _ s2=>∃ h2',s2={ s' with heap:=h2' }/\Heap.HeldW (PySem.W.hideAll s'.heap (a::T::frs X.stack)) (X.env::X.outer) a (.ref C) vs[0] X.env.locals h2'/\s'.heap.UpToSlots h2') (base:=PySem.W.hideAll s'.heap (a::T::frs X.stack)) (outer:=X.outer) (L:=X.env.locals) (cls:=.ref C) (a0:=vs[0]) (by rw[I1.ok.frames,hst]) hfl ⟨fun b o e=>PySem.W.of_hideAll _ e,PySem.W.hideAll_none _ (by simp),?_,oe,vs,T,oT,ts,x1,⟨x2,h0⟩,x3,x4,PySem.W.hideAll_none _ (by simp),x5,x6,x7,x8⟩ fun h2' hh2 up2=>⟨h2',rfl,hh2,up2⟩)) (fun _ s2 qq=>?_) (fun _ _ z=>z.1)
  ·rw[<- hst]
   exact PySem.W.funFrames_hide FF fun env he b hb=>List.mem_cons_of_mem _ (List.mem_cons_of_mem _ (List.mem_filterMap.mpr ⟨env,he,hb⟩))
  obtain ⟨⟨h2',rfl,hh2,up2⟩,kk2⟩:=qq;refine wpAny_mono (eZ (e9 _ _) (wpAny_landsW (Q:=fun _ s3=>∃ h3',s3={ s' with heap:=h3' }/\Heap.FlyingW (PySem.W.hideAll s'.heap (a::T::frs X.stack)) (X.env::X.outer) a (.ref C) vs[0] h3'/\h2'.UpToSlots h3') (s:={ s' with heap:=h2' }) hh2 fun h3' fl3 up3=>⟨h3',rfl,fl3,up3⟩)) (fun _ s3 qq=>?_) (fun _ _ z=>z.1);obtain ⟨⟨h3',rfl,fl3,up3⟩,kk3⟩:=qq;rw[<- hst] at fl3
  have F3:Fly s'.heap X.stack a T (.ref C) h3':=⟨vs[0],fl3,up2.trans up3⟩
  have I3:Inv X pins σ1 H' { s' with heap:=h3',toks:=s'.toks }:=im I1 hos bare u hok x9 x10 x11 x12 F3;obtain ⟨bm,Na,nm,q,bs,hdct,sn,sub,ab,col,dd,k0,k1,k2,k3,k5,mN,hC,hNs,hni,Tl⟩:=O.obj X.base I3.mod.kin;refine wpAny_handleBy_cons (codeAny_handlers_test ?_) (by intro q;cases q);refine du (X:=Cx.han X a X.xe) (Inv.han I3) hgC O.bound ?_ hdC;have hC3:=I3.bk _ _ hC;obtain ⟨st3,be3,ff3,tr3⟩:=id fl3
  obtain ⟨oe3,he3,hcl3⟩:=tr3.at.there;refine wpAny_excMatches_sub_self hC3 he3 hcl3 (Tl.hasType (by decide)) ?_;refine codeAny_handlers_suite ?_
  refine wpAny_mono (eZ (e9 _ _) (wpAny_setFlight_noneW (Q:=fun _ s4=>∃ h4',s4={ s' with heap:=h4' }/\Fly s'.heap X.stack a T (.ref C) h4') (base:=PySem.W.hideAll s'.heap (a::T::frs X.stack)) (l:=X.stack) (s:={ s' with heap:=h3' }) st3 ff3 tr3.at fun h4' st4 ff4 tr4 k4=>⟨h4',rfl,vs[0],⟨st4,be3,ff4,tr4⟩,(up2.trans up3).trans fun b o e hn=>⟨o.slots,k4 b o e hn⟩⟩)) (fun _ s4 qq=>?_) (fun _ _ z=>z.1)
  obtain ⟨⟨h4',rfl,F4⟩,kk4⟩:=qq;have I4:Inv X pins σ1 H' { s' with heap:=h4',toks:=s'.toks }:=im I1 hos bare u hok x9 x10 x11 x12 F4;obtain ⟨oa,va,ea,da,na⟩:=((kk2.trans kk3).trans kk4).at x1 x3 xn;have pinned:∀ p∈(a,oa)::pins,h4'.get? p.1=some p.2/\H' p.1=none/\p.1≠X.env.locals/\p.1∉X.fs/\∀ v,p.2.data≠.cell v:=fun p hp=>by
   rcases List.mem_cons.mp hp with rfl | hp
   ·refine ⟨ea,x9,fun z=>?_,fun z=>?_,fun v z=>?_⟩
    ·obtain ⟨m,⟨o,_,_,ho,_⟩,_⟩:=I1.loc
     have z:a=X.env.locals:=z;rw[<- z,x11] at ho;cases ho
    ·obtain ⟨_,o,ho,_⟩:=I1.funs.mem z
     have ho:s1.heap.get? a=some o:=ho;rw[x11] at ho;cases ho
    ·have z:oa.data=.cell v:=z
     rw[da] at z;cases z
   ·exact I4.pin p (List.mem_append_right _ hp)
  have I5:Inv (Cx.han X a X.xe) ((a,oa)::pins) σ1 H' { s' with heap:=h4',toks:=s'.toks }:=Inv.han (I4.pins_of pinned);obtain ⟨bm',Na',nm',q',bs',hdct',sn',sub',ab',col',dd',k0',k1',k2',k3',k5',mN',hC',hNs',hni',Tl'⟩:=O2.obj X.base I3.mod.kin;have FB:=PySem.F.excBase_ValueError
  refine wpAny_execs_cons (wpAny_mono (nc (Q:=fun _ _=>False) (E:=X.xe) (A:=X.A.mark (some (.ref a))) (C:=Dc) (nm:=nm') (q:=q') (N:=Na') (bs:=bs') (bm:=bm') (hdct:=hdct') (sn:=sn') (sub:=sub') (ab:=ab') (col:=col') (dd:=dd') (k0:=k0') (k1:=k1') (k2:=k2') (k3:=k3') (k5:=k5')
   FB (by decide) FB (mN:=mN') (a:=a) (Tl'.hasType FB.hasBase) rfl (by rw[hs1];rfl) hni' (du (X:=Cx.han X a X.xe) I5 hgD O2.bound ⟨rfl,?_⟩ hdD)) (fun _ _ z=>z.elim) (fun x s6 hx=>pas a x s6 hx))
  rw[hs1];refine Calls.evalArgs_plain ?_;have PAok:=cv (X:=Cx.han X a X.xe) (e:=.Constant (.str words) j p3) (es:=[]) k8 dj hs1;have sp:=PAok p4 _ _ σ1 H' (fun vs H''=>vs.length=1/\H''=H') I5 ⟨rfl,rfl⟩;rw[hs1] at sp;refine thn sp fun us s6 ⟨ws,H6,I6,rv,hl,e6⟩=>?_;subst e6;have I7:Inv X ((a,oa)::pins) σ1 H6 s6:=Inv.unhan I6 I4.ok
  refine ⟨rfl,?_,I7.bk _ _ hC',hNs'.keeps I7.bk,Tl'.keeps I7.bk,?_,fun h' e oe' vs' kp new he hd hcl h1=>?_⟩
  ·show us.length<=sizeLine
   rw[<- rv.length,hl];decide
  ·exact ⟨oa,va,(I7.pin (a,oa) (List.mem_append_right _ List.mem_cons_self)).1,da,na⟩
  ·exact made I7 kp new he hd h1 ⟨Dc,hcl,.inr rfl⟩ (hrt _ sm)
 refine wpAny_mono ((hb Eh (X.pn++pins) (b9 H fp) ExB hPa).go [] s σ H En (Inv.att I) ⟨Hf,ρ,⟨⟨Hf,fp,Ow,F.nd,fun b m=>⟨(F.own b m).1,by unfold b9;rw[if_pos m]⟩,F.fh,jv,Same.refl _,fun b o e=>.inl ⟨o,e⟩⟩,nB⟩,?_⟩) (fun f s1 q=>?_) fun _ _ z=>z
 ·unfold jx at p
  cases eg:g ρ with
  |nx ρ'=>rw[eg] at p;exact fun σ' H' S'=>p σ' H' ⟨SR.back F S'.1,S'.2⟩
  |rt d=>rw[eg] at p;exact fun v H' S'=>p v H' (SR.back F S')
  |bk ρ'=>rw[eg] at p;exact fun σ' H' S'=>p σ' H' ⟨SR.back F S'.1,S'.2⟩
  |ct ρ'=>rw[eg] at p;exact fun σ' H' S'=>p σ' H' ⟨SR.back F S'.1,S'.2⟩
  |bad=>rw[eg] at p;exact p
  |exc C'=>
   rw[eg] at p
   cases C' with
   |ref c=>
    have p:PostS Hs H0 Ex En (if c=C then .exc (.int (Dc:Int) 0) else .bad):=p;by_cases hc:c=C
    ·subst hc
     rw[if_pos rfl] at p;exact ⟨rfl,fun H' sm=>hE _ _ p (F.notIn.2.trans sm)⟩
    ·rw[if_neg hc] at p;exact p.elim
   |_=>exact p.elim
 ·have q:=SP.unatt q
  cases f with
  |next=>exact wpAny_execs_nil q
  |ret v=>exact q
  |brk=>exact q
  |cont=>exact q
end
section
variable {M:Model}{A:Around}{E:Value->Shared->Prop}{s:Shared}
theorem oE{hb:Heap}{env:Env}{outer:List Env}{L e:Addr}{cls a0 fl:Value}{Q:Unit->Shared->Prop}(hfr:A.frames=some (env::outer))(hf:env.frame=some L)(st:hb.StaysIn s.heap)(hen:hb.get? e=none)(ff:s.heap.FunFrames hb (env::outer))(tr:s.heap.TracedAtW hb e cls a0 fl)
    (hQ:∀ h',Heap.LeftW hb (env::outer) e cls a0 s.heap h'->Q () { s with heap:=h' }):wpAny M A (leaving env (.ref e)) Q E s:=by
 unfold leaving;by_cases h:fl=rawInt L
 ·subst h
  refine wpAny_bind (wpAny_noteFrame_againW hf tr ?_);exact wpAny_setFlight_noneW st ff tr fun h' a1 a2 a3 a4=>hQ h' ⟨a1,a2,a3,fun b o e n=>⟨o.slots,a4 b o e n⟩⟩
 ·obtain ⟨oe,vs,T,oT,ts,x1,⟨x2,x0⟩,x3,x4,x5,x6,x7,x8,x9⟩:=tr
  subst x2;refine wpAny_bind ?_;unfold noteFrame;simp only[hf];refine wpAny_bind (wpAny_field x1 x3 x4 ?_);rw[if_pos (by simp:(Value.ref T != Value.none)=true)];refine wpAny_bind (wpAny_field x7 x8 x9 ?_);rw[if_neg (by simpa using h)];refine wpAny_bind (wpAny_setField x7 x8 (Array.getElem?_eq_some_iff.mp x9).1 ?_)
  have ot:∀ b,b≠T->(s.heap.update T (Obj.mapFields (·.setIfInBounds 3 Value.none))).get? b=s.heap.get? b:=fun b z=>Heap.get?_update_other _ _ (Ne.symm z);have nr:∀ b o,s.heap.get? b=some o->(∀ vs,o.data≠.fields vs)->b≠T:=fun b o q n z=>by
   rw[z,x7] at q
   cases q
   exact n ts x8
  refine wpAny_entryW hfr (ff.of_keeps fun b o q n=>⟨o,(ot b (nr b o q n)).trans q,rfl⟩) hf ((ot e (Ne.symm x6)).trans x1) (fun b o q=>(ot b fun z=>by rw[z,x5] at q;cases q).trans (st b o q)) hen x3 (Array.getElem?_eq_some_iff.mp x4).1 x0 fun h' ⟨y1,y2,y3,y4⟩=>?_;exact wpAny_setFlight_noneW (s:={ s with heap:=h' }) y1 y2 y3 fun h2 a1 a2 a3 a4=>hQ h2 ⟨a1,a2,a3,fun b o q n=>by
   obtain ⟨sl,z⟩:=y4 b o ((ot b (nr b o q n)).trans q) n
   exact ⟨sl,a4 b _ z n⟩⟩
end
section
variable {P:Program}{w:World}{K:PySem.W.Frag}{mg:Str->Option Value}{base:Heap}{N:List Str}{qual:Str}{scope:Scope}{f:Addr}{cd:Value}{A:Around}{outer:List Env}{s:Shared}{H:Hp}{E:XK}
theorem qb{pins:List (Addr × Obj)}{σ:St}{H':Hp}{s':Shared}{a:Addr}{C cls:Value}{Ts:List Addr}{h'':Heap}{oe0:Obj}{vs0:Array Value}(k2:K2 s'.heap h'')(e0:s'.heap.get? a=some oe0)(d0:oe0.data=.fields vs0)(xc:XC C cls vs0)(I:Inv (cxm P w K mg base N qual scope f cd A outer s H E) pins σ H' s')
    (ha:H' a=none) (hna:s.heap.get? a=none) (hT:∀ T∈Ts,H' T=none/\s.heap.get? T=none)
    (L:Heap.Left (PySem.W.hideAll s'.heap (a::(Ts++frs (cxm P w K mg base N qual scope f cd A outer s H E).stack))) (cxm P w K mg base N qual scope f cd A outer s H E).stack a cls s'.heap h'') (hE:E C none H'):CXm P w outer H s E (.ref a) { s' with heap:=h'' }:=by
 obtain ⟨st,ff,tr,sl⟩:=L;have ib:Un (frs outer) [] H H' s.heap s'.heap:=I.base;have FF:s'.heap.FunFrames base (cxm P w K mg base N qual scope f cd A outer s H E).stack:=I.stack;have hok:=I.hok;have kB:∀ b o,s'.heap.get? b=some o->b≠a->b∉Ts->b∉frs (cxm P w K mg base N qual scope f cd A outer s H E).stack->h''.get? b=some o:=fun b o e h1 h2 h3=>st b o (PySem.W.hideAll_get _ e fun m=>by
  rcases List.mem_cons.mp m with z | m
  ·exact h1 z
  ·exact (List.mem_append.mp m).elim h2 h3)
 have frN:∀ b∈frs (cxm P w K mg base N qual scope f cd A outer s H E).stack,H' b=none:=fun b m=>I.stkFree b m;have eSt:frs (cxm P w K mg base N qual scope f cd A outer s H E).stack=s.heap.objs.size::frs outer:=rfl;have ne1:∀ b o,s.heap.get? b=some o->b≠a/\b∉Ts:=fun b o e=>by
  refine ⟨fun z=>?_,fun m=>?_⟩
  ·rw[z,hna] at e;cases e
  ·rw[(hT b m).2] at e;cases e
 have neL:∀ b o,s.heap.get? b=some o->b≠s.heap.objs.size:=fun b o e=>Nat.ne_of_lt (Heap.lt_size e);have slB:∀ b o,s'.heap.get? b=some o->b∈frs (cxm P w K mg base N qual scope f cd A outer s H E).stack->∃ s3,h''.get? b=some { o with slots:=s3 }:=fun b o e hst=>by
  obtain ⟨_,o',ho',hd⟩:=FF.mem hst;rw[e] at ho'
  cases ho'
  exact sl b _ e hd
 refine ⟨a,C,H',rfl,I.os,I.bare,⟨fun b o e n hb _=>?_,fun b o e n hb _=>?_,ib.free,fun b o e _=>?_,ib.tups,ib.frzs,ib.tbls⟩,fun b ob e=>?_,?_,hE⟩
 ·have nst:b∉frs (cxm P w K mg base N qual scope f cd A outer s H E).stack:=by
     rw[eSt];intro m;rcases List.mem_cons.mp m with z | m
     ·exact neL b o e z
     ·exact hb m
  exact kB b o (ib.keep b o e n hb (by simp)) (ne1 b o e).1 (ne1 b o e).2 nst
 ·obtain ⟨sl1,e1⟩:=ib.slot b o e n hb (by simp)
  obtain ⟨s3,e3⟩:=slB b _ e1 (by rw[eSt];exact List.mem_cons_of_mem _ hb);exact ⟨s3,e3⟩
 ·obtain ⟨o1,e1⟩:=ib.there b o e (by simp)
  by_cases hst:b∈frs (cxm P w K mg base N qual scope f cd A outer s H E).stack
  ·obtain ⟨s3,e3⟩:=slB b _ e1 hst
   exact ⟨_,e3⟩
  ·exact ⟨o1,kB b o1 e1 (ne1 b o e).1 (ne1 b o e).2 hst⟩
 ·refine (hok b ob e).stay (fun c v hc q=>kB c v q ?_ ?_ ?_) (fun _ q=>q) fun _ _ q=>q
  ·rintro rfl
   rcases hc with rfl | hc
   ·rw[ha] at e;cases e
   ·rw[ha] at hc;cases hc
  ·intro m
   rcases hc with rfl | hc
   ·rw[(hT c m).1] at e;cases e
   ·rw[(hT c m).1] at hc;cases hc
  ·intro m
   have:=frN c m;rcases hc with rfl | hc
   ·rw[this] at e;cases e
   ·rw[this] at hc;cases hc
 ·obtain ⟨oe,vs,T,oT,ts,x1,x2,x3,x4,x5,x6,x7,x8,x9⟩:=tr
  have xc':XC C oe.cls vs:=by
   obtain ⟨o',v',e',d',r'⟩:=k2 a oe0 vs0 e0 d0;rw[x1] at e'
   cases e'
   rw[x3] at d'
   cases d'
   rw[x2];obtain ⟨c,c0,c1⟩:=xc;refine ⟨c,c0,?_⟩;rcases c1 with ⟨c1,c2⟩ | c1
   ·exact .inl ⟨c1,by rw[r'];exact c2⟩
   ·exact .inr c1
  have hTn:H' T=none/\s.heap.get? T=none:=by
   by_cases hm:T∈Ts
   ·exact hT T hm
   ·have hst:T∉frs (cxm P w K mg base N qual scope f cd A outer s H E).stack:=fun m=>by
       obtain ⟨_,o',ho',hd⟩:=ff.mem m;rw[x7] at ho'
       cases ho'
       exact hd _ x8
    have hn:s'.heap.get? T=none:=by
     cases q:s'.heap.get? T with
     |none=>rfl
     |some o=>
      have:=PySem.W.hideAll_get (a::(Ts++frs (cxm P w K mg base N qual scope f cd A outer s H E).stack)) q fun m=>by
       rcases List.mem_cons.mp m with z | m
       ·exact x6 z
       ·exact (List.mem_append.mp m).elim hm hst
      rw[this] at x5
      cases x5
    refine ⟨?_,?_⟩
    ·cases q:H' T with
     |none=>rfl
     |some o=>obtain ⟨v,e⟩:=jt (hok T o q);rw[hn] at e;cases e
    ·cases q:s.heap.get? T with
     |none=>rfl
     |some o=>
      obtain ⟨o1,e1⟩:=ib.there T o q (by simp);rw[hn] at e1;cases e1
  exact ⟨oe,vs,T,oT,ts,x1,xc',x3,x4,x6,x7,x8,x9,ha,hTn.1,hna,hTn.2⟩
end
theorem jy{b0:Heap}{fs ex:List Addr}{H1 H':Hp}{h h':Heap}(u:Un fs ex H1 H' h h'):∀ {l:List Env},(∀ b∈frs l,b∈fs/\H1 b=none/\b∉ex)->h.FunFrames b0 l->h'.FunFrames b0 l
 | [],_,_=>trivial
 |env::r,hs,⟨hk,⟨L,o,hf,hb,ho,hd⟩,hr⟩=>by
  have mem:frs (env::r)=L::frs r:=by unfold frs;rw[List.filterMap_cons,hf]
  obtain ⟨q1,q2,q3⟩:=hs L (by rw[mem];exact List.mem_cons_self);obtain ⟨sl,e⟩:=u.slot L o ho q2 q1 q3;exact ⟨hk,⟨L,_,hf,hb,e,hd⟩,jy u (fun b m=>hs b (by rw[mem];exact List.mem_cons_of_mem _ m)) hr⟩
section
variable {P:Program}{w:World}{K:PySem.W.Frag}{mg:Str->Option Value}{base:Heap}{N:List Str}{qual:Str}{scope:Scope}{f:Addr}{cd:Value}{A:Around}{outer:List Env}{s0:Shared}{Hb:Hp}{E:XK}
theorem qc{pins:List (Addr × Obj)}{σ:St}{Hc H1 H':Hp}{s s1 s':Shared}{fpi:List Addr}{C a:Addr}{Cx:Value}{m:Str->Option Value}{cenv0:Env}(I:Inv (cxm P w K mg base N qual scope f cd A outer s0 Hb E) pins σ Hc s)
    (hf:∀ b∈fpi,cQ (cxm P w K mg base N qual scope f cd A outer s0 Hb E) pins Hc b) (hC:s.heap.objs.size<=C) (un1:Un (frs (cxm P w K mg base N qual scope f cd A outer s0 Hb E).stack) fpi Hc H1 s.heap s1.heap) (os1:s1.os=s.os) (ns1:s1.heap.Ns C m) (hC1:H1 C=none)
    (hos:s'.os=s1.os) (bare:AllBare s'.gens) (u:Un (frs (cxm P w K mg base N qual scope f cd A outer s0 Hb E).stack) [] H1 H' s1.heap s'.heap) (hok:HOk P w H' s'.heap) (ex:qB s1.heap s'.heap H' a Cx) (hE:E Cx none H') (hcf:cenv0.frame=(cxm P w K mg base N qual scope f cd A outer s0 Hb E).env.frame) :
    notedBy (model P w) (cxm P w K mg base N qual scope f cd A outer s0 Hb E).A cenv0 (fun x s2=>∃ m,s2.heap.Ns C m/\∀ h',Heap.SameBut C s2.heap h'->∀ cenv:Env,cenv.locals=C->wpAny (model P w) (cxm P w K mg base N qual scope f cd A outer s0 Hb E).A (passOn "comprehension.variables-let-go" x cenv:Sem Value) (fun _ _=>False) (cxm P w K mg base N qual scope f cd A outer s0 Hb E).xe { s2 with heap:=h' }) (.ref a) s':=by
 generalize hX:cxm P w K mg base N qual scope f cd A outer s0 Hb E=X at *;obtain ⟨oe,vs,T,oT,ts,x1,x2,x3,x4,x5,x6,x7,x8,x9,x10,x11,x12⟩:=ex;have hst:X.stack=X.env::X.outer:=by subst hX;rfl
 have hfl:X.env.frame=some X.env.locals:=by subst hX;rfl
 have hPw:X.prog=P/\X.w=w:=by subst hX;exact ⟨rfl,rfl⟩
 have hok2:HOk X.prog X.w H' s'.heap:=by rw[hPw.1,hPw.2];exact hok
 have un:Un (frs X.stack) fpi Hc H' s.heap s'.heap:=un1.trans ⟨fun b o e n h1 _=>u.keep b o e n h1 (by simp),fun b o e n h1 _=>u.slot b o e n h1 (by simp),fun b o e n _=>u.free b o e n (by simp),fun b o e _=>u.there b o e (by simp),u.tups,u.frzs,u.tbls⟩;have there:∀ b o,s.heap.get? b=some o->b∉fpi->∃ o',s1.heap.get? b=some o':=fun b o e hb=>un1.there b o e hb
 have frL:∀ b∈frs X.stack,∃ o,s.heap.get? b=some o/\∀ vs,o.data≠.fields vs:=fun b hb=>by
  obtain ⟨_,o,ho,hd⟩:=I.stack.mem hb;exact ⟨o,ho,hd⟩
 have frFp:∀ b∈frs X.stack,b∉fpi:=fun b hb hm=>by
  rcases List.mem_cons.mp (I.stkSub b hb) with z | z
  ·exact (hf b hm).2.1 z
  ·exact (hf b hm).2.2.1 z
 have ltC:∀ b o,s.heap.get? b=some o->b≠C:=fun b o e=>Nat.ne_of_lt (Nat.lt_of_lt_of_le (Heap.lt_size e) hC);have CnS:C∉frs X.stack:=fun hm=>by
  obtain ⟨o,ho,_⟩:=frL C hm;exact ltC C o ho rfl
 have frN1:∀ b∈frs X.stack,H1 b=none:=fun b hb=>by
  obtain ⟨o,ho,_⟩:=frL b hb;exact un1.free b o ho (I.stkFree b hb) (frFp b hb)
 have frN:∀ b∈frs X.stack,H' b=none:=fun b hb=>by
  obtain ⟨o,ho,_⟩:=frL b hb;exact un.free b o ho (I.stkFree b hb) (frFp b hb)
 obtain ⟨oC,esC,epC,hoC,hdC,nsC⟩:=id ns1;have hoC':s'.heap.get? C=some oC:=u.keep C oC hoC hC1 CnS (by simp);have hCn:H' C=none:=u.free C oC hoC hC1 (by simp);have FF:s'.heap.FunFrames X.base X.stack:=jy un (fun b m=>⟨m,I.stkFree b m,frFp b m⟩) I.stack;have neO:∀ b o,s.heap.get? b=some o->b∉fpi->b≠a/\b≠T:=fun b o e hb=>by
  obtain ⟨o1,e1⟩:=there b o e hb;refine ⟨fun z=>?_,fun z=>?_⟩
  ·rw[z,x11] at e1;cases e1
  ·rw[z,x12] at e1;cases e1
 have aC:a≠C:=fun z=>by
  rw[z,hoC'] at x1
  cases x1
  rw[hdC] at x3;cases x3
 have TC:T≠C:=fun z=>by
  rw[z,hoC'] at x6
  cases x6
  rw[hdC] at x7;cases x7
 have aF:∀ b∈frs X.stack,b≠a/\b≠T:=fun b hb=>by
  obtain ⟨o,ho,_⟩:=frL b hb;exact neO b o ho (frFp b hb)
 show wpAny (model P w) X.A (noteFrame (.ref a) cenv0) _ _ s';have hnote:noteFrame (.ref a) cenv0=noteFrame (.ref a) X.env:=by unfold noteFrame PySem.frameOf;rw[hcf]
 rw[hnote];have hsz:1<vs.size:=(Array.getElem?_eq_some_iff.mp x4).1;have h0:vs[0]?=some vs[0]:=Array.getElem?_eq_some_iff.mpr ⟨by omega,rfl⟩
 refine wpAny_mono (eZ (j3 _ _) (wpAny_looks_onW (Q:=fun _ s2=>∃ h2',s2={ s' with heap:=h2' }/\Heap.HeldW (PySem.W.hideAll s'.heap (a::T::frs X.stack)) (X.env::X.outer) a oe.cls vs[0] X.env.locals h2'/\s'.heap.UpToSlots h2') (base:=PySem.W.hideAll s'.heap (a::T::frs X.stack)) (outer:=X.outer) (L:=X.env.locals) (cls:=oe.cls) (a0:=vs[0]) (by rw[I.ok.frames,hst]) hfl ⟨fun b o e=>PySem.W.of_hideAll _ e,PySem.W.hideAll_none _ (by simp),?_,oe,vs,T,oT,ts,x1,⟨rfl,h0⟩,x3,x4,PySem.W.hideAll_none _ (by simp),x5,x6,x7,x8⟩ fun h2' hh2 up2=>⟨h2',rfl,hh2,up2⟩)) (fun _ s2 qq=>?_) (fun _ _ z=>z.1)
 ·rw[<- hst]
  exact PySem.W.funFrames_hide FF fun env he b hb=>List.mem_cons_of_mem _ (List.mem_cons_of_mem _ (List.mem_filterMap.mpr ⟨env,he,hb⟩))
 obtain ⟨⟨h2',rfl,⟨st2,be2,ff2,tr2⟩,up2⟩,kk2⟩:=qq;obtain ⟨oe2,vs2,T2,oT2,ts2,y1,⟨y2,y0⟩,y3,y4,y5,y6,y7,y8,y9⟩:=tr2;have kB:∀ b o,s'.heap.get? b=some o->b≠a->b≠T->b∉frs X.stack->h2'.get? b=some o:=fun b o e q1 q2 q3=>st2 b o (PySem.W.hideAll_get _ e fun m=>by
  rcases List.mem_cons.mp m with z | m
  ·exact q1 z
  ·exact (List.mem_cons.mp m).elim q2 q3)
 refine ⟨m,up2.ns ⟨oC,esC,epC,hoC',hdC,nsC⟩,fun h3 sb cenv _=>?_⟩;obtain ⟨oC2,_,_,hoC2,hdC2,_⟩:=up2.ns (m:=m) ⟨oC,esC,epC,hoC',hdC,nsC⟩;have aC2:T2≠C:=fun z=>by
  rw[z,hoC2] at y7
  cases y7
  rw[hdC2] at y8;cases y8
 have k3:∀ b o,s.heap.get? b=some o->b∉fpi->b∉frs X.stack->s'.heap.get? b=some o->h3.get? b=some o:=fun b o e q1 q2 q3=>(sb.2 b (ltC b o e)).trans (kB b o q3 (neO b o e q1).1 (neO b o e q1).2 q2);have slB:∀ b o,s'.heap.get? b=some o->b∈frs X.stack->∃ sl,h3.get? b=some { o with slots:=sl }:=fun b o e hb=>by
  obtain ⟨_,o',ho',hd⟩:=FF.mem hb;rw[e] at ho'
  cases ho'
  obtain ⟨sl,z⟩:=up2 b o e hd;exact ⟨sl,(sb.2 b (fun z=>CnS (z ▸ hb))).trans z⟩
 have IR:Inv X pins σ H' { s' with heap:=h3 }:=by
  refine I.call' (s':={ s' with heap:=h3 }) (ch:=fpi) (hos.trans os1) ⟨fun b o e n hb hx=>k3 b o e hx hb (un.keep b o e n hb hx),fun b o e n hb hx=>?_,un.free,fun b o e hx=>?_,un.tups,un.frzs,un.tbls⟩ (fun b ob e=>?_) bare fun b hb=>⟨(hf b hb).2.2.2.1,(hf b hb).2.1,(hf b hb).2.2.2.2.1,(hf b hb).2.2.2.2.2⟩
  ·obtain ⟨sl,e1⟩:=un.slot b o e n hb hx
   obtain ⟨sl2,e2⟩:=slB b _ e1 hb;exact ⟨sl2,e2⟩
  ·obtain ⟨o1,e1⟩:=un.there b o e hx
   by_cases hst:b∈frs X.stack
   ·obtain ⟨sl2,e2⟩:=slB b _ e1 hst
    exact ⟨_,e2⟩
   ·exact ⟨o1,(sb.2 b (ltC b o e)).trans (kB b o1 e1 (neO b o e hx).1 (neO b o e hx).2 hst)⟩
  ·refine (hok2 b ob e).stay (fun c v hc q=>?_) (fun _ q=>q) fun _ _ q=>q
   have hcH:∃ oo,H' c=some oo:=by
    rcases hc with rfl | hc
    ·exact ⟨_,e⟩
    ·exact ⟨_,hc⟩
   obtain ⟨oo,hcH⟩:=hcH;have c1:c≠a:=fun z=>by rw[z,x9] at hcH;cases hcH
   have c2:c≠T:=fun z=>by rw[z,x10] at hcH;cases hcH
   have c3:c≠C:=fun z=>by rw[z,hCn] at hcH;cases hcH
   have c4:c∉frs X.stack:=fun z=>by rw[frN c z] at hcH;cases hcH
   exact (sb.2 c c3).trans (kB c v q c1 c2 c4)
 have ea:h3.get? a=some oe2:=(sb.2 a aC).trans y1;have eT:h3.get? T2=some oT2:=(sb.2 T2 aC2).trans y7;have xc2:XC Cx oe2.cls vs2:=by
  obtain ⟨o',v',e',d',r'⟩:=kk2 a oe vs x1 x3;have e':h2'.get? a=some o':=e';rw[y1] at e'
  cases e'
  rw[y3] at d'
  cases d'
  rw[y2];obtain ⟨c,c0,c1⟩:=x2;refine ⟨c,c0,?_⟩;rcases c1 with ⟨c1,c2⟩ | c1
  ·exact .inl ⟨c1,by rw[r'];exact c2⟩
  ·exact .inr c1
 have T2n:H' T2=none/\s1.heap.get? T2=none:=by
  by_cases hT:T2=T
  ·rw[hT];exact ⟨x10,x12⟩
  ·have hst2:T2∉frs X.stack:=fun hm=>by
      rw[<- hst] at ff2;obtain ⟨_,o',ho',hd⟩:=ff2.mem hm;rw[y7] at ho'
      cases ho'
      exact hd _ y8
   have hn:s'.heap.get? T2=none:=by
    cases q:s'.heap.get? T2 with
    |none=>rfl
    |some o=>
     have:=PySem.W.hideAll_get (a::T::frs X.stack) q fun hm=>by
      rcases List.mem_cons.mp hm with z | hm
      ·exact y6 z
      ·exact (List.mem_cons.mp hm).elim hT hst2
     rw[this] at y5
     cases y5
   refine ⟨?_,?_⟩
   ·cases q:H' T2 with
    |none=>rfl
    |some o=>obtain ⟨v,e⟩:=jt (hok T2 o q);rw[hn] at e;cases e
   ·cases q:s1.heap.get? T2 with
    |none=>rfl
    |some o=>obtain ⟨o1,e1⟩:=u.there T2 o q (by simp);rw[hn] at e1;cases e1
 have fin:∀ v:Value,X.xe (.ref a) { s' with heap:=h3.update T2 (Obj.mapFields (·.setIfInBounds 3 v)) }:=by
  intro v;subst hX;have back:∀ b,s1.heap.get? b=none->s0.heap.get? b=none:=fun b hb=>by
   cases q:s0.heap.get? b with
   |none=>rfl
   |some o=>
    obtain ⟨o1,e1⟩:=I.base.there b o q (by show b∉[];simp);obtain ⟨o2,e2⟩:=un1.there b o1 e1 fun hm=>by
     rcases (hf b hm).2.2.2.1 with z | z
     ·exact nomatch z
     ·exact absurd (Heap.lt_size q) (Nat.not_lt.mpr z)
    rw[hb] at e2;cases e2
  have ot:∀ b,b≠T2->(h3.update T2 (Obj.mapFields (·.setIfInBounds 3 v))).get? b=h3.get? b:=fun b z=>Heap.get?_update_other _ _ (Ne.symm z);have nr:∀ b o,h3.get? b=some o->(∀ vs,o.data≠.fields vs)->b≠T2:=fun b o q n z=>by
   rw[z,eT] at q
   cases q
   exact n _ y8
  have eW:∀ l:List Addr,T2∈l->∀ b o,(PySem.W.hideAll h3 l).get? b=some o->b≠T2:=fun l hm b o q z=>by
   rw[z,PySem.W.hideAll_none _ hm] at q;cases q
  show wpAny (model P w) (A.deeper (envOfC qual scope s0.heap.objs.size f cd)) (leaving (envOfC qual scope s0.heap.objs.size f cd) (.ref a)) _ _ { s' with heap:=h3.update T2 (Obj.mapFields (·.setIfInBounds 3 v)) }
  refine wpAny_mono (eZ (gx _ _) (oE (s:={ s' with heap:=h3.update T2 (Obj.mapFields (·.setIfInBounds 3 v)) }) (Q:=fun _ s5=>∃ h5,s5={ s' with heap:=h5 }/\Heap.LeftW (PySem.W.hideAll h3 (a::([T2]++frs (cxm P w K mg base N qual scope f cd A outer s0 Hb E).stack))) (cxm P w K mg base N qual scope f cd A outer s0 Hb E).stack a oe2.cls vs[0] (h3.update T2 (Obj.mapFields (·.setIfInBounds 3 v))) h5) (hb:=PySem.W.hideAll h3 (a::([T2]++frs (cxm P w K mg base N qual scope f cd A outer s0 Hb E).stack))) (outer:=outer) (L:=s0.heap.objs.size) (cls:=oe2.cls) (a0:=vs[0]) (fl:=v) IR.ok.frames rfl (fun b o e=>(ot b (eW _ (by simp) b o e)).trans (PySem.W.of_hideAll _ e)) (PySem.W.hideAll_none _ (by simp)) ?_ ⟨oe2,vs2,T2,_,_,(ot a (Ne.symm y6)).trans ea,⟨rfl,y0⟩,y3,y4,PySem.W.hideAll_none _ (by simp),y6,Heap.get?_update_self _ eT (Obj.isFreed_of_fields (Obj.data_mapFields y8 _)),Obj.data_mapFields y8 _,by simp[(Array.getElem?_eq_some_iff.mp y9).1]⟩ fun h5 L=>⟨h5,rfl,L⟩)) (fun _ s5 q=>?_) (fun _ _ q=>q.1)
  ·exact Heap.FunFrames.of_keeps (fun b o q n=>⟨o,(ot b (nr b o q n)).trans q,rfl⟩) (PySem.W.funFrames_hide IR.stack fun env he b hb=>List.mem_cons_of_mem _ (List.mem_append_right _ (List.mem_filterMap.mpr ⟨env,he,hb⟩)))
  ·obtain ⟨⟨h5,rfl,L1,L2',⟨o5,v5,T5,oT5,t5,z1,⟨z2,_⟩,z3,z4,z5,z6,z7,z8,z9⟩,L4⟩,k5⟩:=q
   exact qb (Ts:=[T2]) (s':={ s' with heap:=h3 }) ((K2.upd (oi (by decide))).trans k5) ea y3 xc2 IR x9 (back a x11) (fun T' hm=>by
    have:T'=T2:=by simpa using hm
    subst this
    exact ⟨T2n.1,back _ T2n.2⟩) ⟨L1,L2',⟨o5,v5,T5,oT5,t5,z1,z2,z3,z4,z5,z6,z7,z8,z9⟩,fun b o q n=>L4 b o ((ot b (nr b o q n)).trans q) n⟩ hE
 show wpAny (model P w) X.A (passOn "comprehension.variables-let-go" (.ref a) cenv:Sem Value) (fun _ _=>False) X.xe { s' with heap:=h3 };unfold PySem.passOn;refine wpAny_bind (wpAny_field (s:={ s' with heap:=h3 }) ea y3 y4 ?_);rw[if_neg (by simp)];unfold setFlight;refine wpAny_bind (wpAny_bind (wpAny_field (s:={ s' with heap:=h3 }) ea y3 y4 ?_))
 rw[if_pos (by simp:(Value.ref T2 != Value.none)=true)];exact wpAny_setField (s:={ s' with heap:=h3 }) eT y8 (Array.getElem?_eq_some_iff.mp y9).1 (wpAny_throw (fin _))
end
end Mi
namespace L2
open PySem PySem.Spec PyProof.Rows
section
variable {prog:Program}{w:World}{A:Around}{R:Result->Shared->Prop}{s:Shared}
theorem ng{elt target iter:Expr}{ifs:List Expr}{scope:Scope}{pos:Pos}{it acc:Value}{env:Env}{Er:Value->Shared->Prop}(I:Nat->Shared->Prop)
    (turn:∀ n s,I n s->wpAny (model prog w) A (pyNext it) (fun r s1=>match r with
     |none=>R (.ok .next) s1
     |some v=>wpAny (model prog w) A (letOwnedTupleGo target it v) (fun _ s1'=>wpAny (model prog w) A (assign target env v) (fun _ s2=>
         wpAny (model prog w) A (forIn ifs true fun c r=>if r=true then do let ok <- isTrue c env (eval c env);pure (ForInStep.yield ok) else pure (ForInStep.yield r)) (fun ok s3=>
          if ok=true then wpAny (model prog w) A (eval elt env) (fun x s4=>
           wpAny (model prog w) A (call (.builtin "list.append") [acc,x]) (fun _ s5=>∃ m,m<n/\I m s5) Er s4) Er s3
          else ∃ m,m<n/\I m s3) Er s2) Er s1') Er s1) Er s)
    (hE:∀ x s,Er x s->notedBy (model prog w) A env (fun x s'=>R (.error x) s') x s)
    (n:Nat) (h:I n s):codeAny (model prog w) A (.compLoop (.ListComp elt [⟨target,iter,ifs,0⟩] scope pos) 0 it acc env) R s:=by
 refine codeAny_loop rfl I (fun n s hI=>?_) n h;show wpAny _ A ((compTurn (.ListComp elt [⟨target,iter,ifs,0⟩] scope pos) 0 it acc env).onRaise (fun x=>do noteFrame x env;theTreesLotGoes x)) _ _ s;refine wpAny_noted ?_;rw[compTurn_list];refine wpAny_bind (wpAny_standAt (wpAny_bind (wpAny_mono (turn n s hI) (fun r s1 h1=>?_) hE)))
 cases r with
 |none=>exact wpAny_pure h1
 |some v=>
  refine wpAny_bind (wpAny_mono h1 (fun _ s1' h1'=>?_) hE);refine wpAny_bind (wpAny_mono h1' (fun _ s2 h2=>wpAny_bind (wpAny_mono h2 (fun ok s3 h3=>?_) hE)) hE)
  cases ok with
  |false=>exact wpAny_pure ⟨rfl,h3⟩
  |true=>
   exact wpAny_bind (wpAny_bind (wpAny_mono h3 (fun x s4 h4=>wpAny_bind (wpAny_mono h4 (fun _ s5 h5=>wpAny_pure (wpAny_pure ⟨rfl,h5⟩)) hE)) hE))
end
end L2
namespace Mi
open PySem PySem.Spec L2
open PyProof.Rows hiding St
def cb(gt:D->ac->Res ac)(ft:ac->Res Bool)(fe:ac->Res D):List D->ac->List D->Res (List D)
 | [],_,acc=>.ok acc
 |x::xs,ρ,acc=>match gt x ρ with
  | .ok ρ1=>match ft ρ1 with
   | .ok b=>if b=true then fe ρ1 >>= fun d=>if d.tag=.b\/sizeLine<=acc.length then .bad else cb gt ft fe xs ρ1 (acc++[d]) else cb gt ft fe xs ρ1 acc
   |_=>.bad
  |_=>.bad
def jz(own:Nat)(cap:List Nat)(fi:ac->Res (List D))(gt:D->ac->Res ac)(ft:ac->Res Bool)(fe:ac->Res D):ac->Res D:=fun ρ=>
 fi ρ >>= fun items=>cb gt ft fe items (List.replicate own none++cap.map (aL ρ)) [] >>= fun ds=>.ok (.lst .o ds)
abbrev Cx.wx(X:Cx)(E:Value->Shared->Prop):Cx:={ X with xe:=E }
section
variable {elt target iter:Expr}{ifs:List Expr}{scope:Scope}{pos:Pos}{gt:D->ac->Res ac}{ft:ac->Res Bool}{fe:ac->Res D}
theorem nh{Xc:Cx}{ExC:Value->Prop}(hc:Xc.calm=true)(iG:FG Xc Xc.H₀ target gt)(iT:FTs Xc Xc.H₀ ifs ft)(iE:FE Xc Xc.H₀ ExC elt fe){J:It}{fpi:List Addr}{it:Addr}{tn:Nat->Heap->Prop}
    (T:Turn Xc.prog Xc.w Xc.K target J fpi it tn) (stat:∀ {H':Hp},(∀ b∈fpi,H' b=none)->∀ b∈fpi,cQ Xc [] H' b) {items:List D} {B:Hp} (ok:df J B items) {r0:Res (List D)} {Da:Addr} {R:Result->Shared->Prop}
    {σ0:St} {H1:Hp} {s1:Shared} {ρ0:ac} (I0:Inv Xc [] σ0 H1 s1) (st:tn 0 s1.heap) (fr:∀ b∈fpi,H1 b=none) (S0:SR B Xc.H₀ H1 (some (.ref Da)::σ0) (some (.lst .o [])::ρ0)) (n0:noB ρ0) (ho:cb gt ft fe items ρ0 []=r0) (hbad:r0≠.bad) (hX:∀ C,r0=.exc C->ExC C) (hE:∀ x s,Xc.xe x s->notedBy (model Xc.prog Xc.w) Xc.A Xc.env (fun x s'=>R (.error x) s') x s)
    (hR:∀ out,r0=.ok out->∀ σ' H' s',Inv Xc [] σ' H' s'->SR B Xc.H₀ H' [some (.ref Da)] [some (.lst .o out)]->R (.ok .next) s') :
    codeAny (model Xc.prog Xc.w) Xc.A (.compLoop (.ListComp elt [⟨target,iter,ifs,0⟩] scope pos) 0 (.ref it) (.ref Da) Xc.env) R s1:=by
 refine ng (Er:=Xc.xe) (fun n s'=>∃ i σ' H' ρ' acc,n=items.length - i/\i<=items.length/\Inv Xc [] σ' H' s'/\tn i s'.heap/\(∀ b∈fpi,H' b=none)/\SR B Xc.H₀ H' (some (.ref Da)::σ') (some (.lst .o acc)::ρ')/\noB ρ'/\cb gt ft fe (items.drop i) ρ' acc=r0)
  ?_ hE items.length ⟨0,σ0,H1,ρ0,[],by simp,Nat.zero_le _,I0,st,fr,S0,n0,by simpa using ho⟩
 rintro n s2 ⟨i,σ2,H2,ρ2,acc,rfl,hi,I2,st2,fr2,S2,n2,e2⟩;have sB:Same B H2:=let ⟨_,_,_,G⟩:=S2;G.sf.trans G.fh;obtain ⟨h1,h2⟩:=ok H2 sB i;by_cases hlt:i<items.length
 ·have hd:items[i]?=some items[i]:=by simp[hlt]
  obtain ⟨go,yl⟩:=h1 _ hd;have hdrop:items.drop i=items[i]::items.drop (i+1):=List.drop_eq_getElem_cons hlt;rw[hdrop] at e2;unfold cb at e2;refine thn (T.item Xc rfl rfl rfl hc i [] s2 σ2 H2 Xc.xe I2 (stat fr2) st2 go) fun r s3 ⟨u,hr,h3⟩=>?_;subst hr;refine thn h3 fun _ s4 ⟨x,H4,I4,r4,y4,st4,fr4⟩=>?_;have Y:=yl x H4 y4;have S4:SX B Xc.H₀ H4 [(x,items[i]),(.ref Da,.lst .o acc)] σ2 ρ2:=SR.yl S2 Y
  have t4:items[i].tag≠.b:=by rw[Y.1];decide
  have I4':=I4.pinned (stat fr4) (T.obj _ _ st4)
  cases eg:gt items[i] ρ2 with
  |exc C=>rw[eg] at e2;exact absurd e2.symm hbad
  |bad=>rw[eg] at e2;exact absurd e2.symm hbad
  |ok ρ3=>
   rw[eg] at e2;have e2:(match ft ρ3 with | .ok b=>if b=true then fe ρ3 >>= fun d=>if d.tag=.b\/sizeLine<=acc.length then .bad else cb gt ft fe (items.drop (i+1)) ρ3 (acc++[d]) else cb gt ft fe (items.drop (i+1)) ρ3 acc | _=>.bad)=r0:=e2
   have again:∀ {σ7:St} {H7:Hp} {s7:Shared} {ρ7:ac} {acc':List D},Inv Xc ([]++fW fpi s4.heap) σ7 H7 s7->SR B Xc.H₀ H7 (some (.ref Da)::σ7) (some (.lst .o acc')::ρ7)->noB ρ7->cb gt ft fe (items.drop (i+1)) ρ7 acc'=r0 →
       ∃ m,m<items.length - i/\∃ i σ' H' ρ' acc,m=items.length - i/\i<=items.length/\Inv Xc [] σ' H' s7/\tn i s7.heap/\(∀ b∈fpi,H' b=none)/\SR B Xc.H₀ H' (some (.ref Da)::σ') (some (.lst .o acc)::ρ')/\noB ρ'/\cb gt ft fe (items.drop i) ρ' acc=r0:=fun {σ7 H7 s7 ρ7 acc'} I7 S7 n7 e7=>by
    refine ⟨items.length - (i+1),by omega,i+1,σ7,H7,ρ7,acc',rfl,hlt,I7.unpinned,T.keep _ _ _ st4 fun b hb o e=>(I7.pin (b,o) (List.mem_append_right _ (List.mem_append_right _ (cY hb e)))).1,fun b hb=>?_,S7,n7,e7⟩;obtain ⟨o,e,d⟩:=T.obj _ _ st4 b hb;exact (I7.pin (b,o) (List.mem_append_right _ (List.mem_append_right _ (cY hb e)))).2.1
   refine wpAny_mono (iG.go _ s4 σ2 H4 x u (fun σ' H'=>SX B Xc.H₀ H' [(.ref Da,.lst .o acc)] σ' ρ3/\noB ρ3) I4' r4 ⟨B,ρ2,items[i],[(.ref Da,.lst .o acc)],S4,t4,n2,by rw[eg];exact fun σ' S' n'=>⟨S',n'⟩⟩) (fun _ s5 ⟨σ5,H5,I5,S5,n5⟩=>?_) (fun _ _ z=>z)
   cases eb:ft ρ3 with
   |exc C=>rw[eb] at e2;exact absurd e2.symm hbad
   |bad=>rw[eb] at e2;exact absurd e2.symm hbad
   |ok b=>
    rw[eb] at e2;refine wpAny_mono (iT.go _ s5 σ5 H5 (fun b' H'=>b'=b/\SX B Xc.H₀ H' [(.ref Da,.lst .o acc)] σ5 ρ3) I5 ⟨B,ρ3,[(.ref Da,.lst .o acc)],S5,by rw[eb];exact fun H' S'=>⟨rfl,S'⟩⟩) (fun b' s6 ⟨H6,I6,hb,S6⟩=>?_) (fun _ _ z=>z);subst hb
    cases b' with
    |false=>
     have e2:cb gt ft fe (items.drop (i+1)) ρ3 acc=r0:=e2;rw[if_neg Bool.false_ne_true];exact again I6 S6 n5 e2
    |true=>
     have e2:(fe ρ3 >>= fun d=>if d.tag=.b\/sizeLine<=acc.length then .bad else cb gt ft fe (items.drop (i+1)) ρ3 (acc++[d]))=r0:=e2;rw[if_pos rfl]
     cases ed:fe ρ3 with
     |exc C=>
      rw[ed] at e2;exact wpAny_mono (iE.go _ s6 σ5 H6 (fun _ _=>False) I6 ⟨B,ρ3,[(.ref Da,.lst .o acc)],S6,by rw[ed];exact hX C e2.symm⟩) (fun uv s7 ⟨v,H7,I7,r7,z⟩=>z.elim) (fun _ _ z=>z)
     |bad=>rw[ed] at e2;exact absurd e2.symm hbad
     |ok d=>
      rw[ed] at e2;have e2:(if d.tag=.b\/sizeLine<=acc.length then .bad else cb gt ft fe (items.drop (i+1)) ρ3 (acc++[d]))=r0:=e2;split at e2
      ·exact absurd e2.symm hbad
      ·rename_i hcd
       refine wpAny_mono (iE.go _ s6 σ5 H6 (fun v H'=>SX B Xc.H₀ H' [(v,d),(.ref Da,.lst .o acc)] σ5 ρ3) I6 ⟨B,ρ3,[(.ref Da,.lst .o acc)],S6,by rw[ed];exact fun v H' S'=>S'⟩) (fun uv s7 ⟨v,H7,I7,r7,S7⟩=>?_) (fun _ _ z=>z);have nn:noB (some (.lst .o acc)::ρ3):=fun d' m=>by
        rcases List.mem_cons.mp m with e | m
        ·cases e;exact fun z=>nomatch z
        ·exact n5 d' m
       obtain ⟨p,us,hp,hH,hl,S8⟩:=SR.append (vs:=some (.ref Da)::σ5) (ds:=some (.lst .o acc)::ρ3) S7 (fun z=>hcd (.inl z)) nn (i:=0) (xs:=acc) rfl;have hp:p=Da:=by simpa using hp.symm
       subst hp;refine wpAny_mono (fH (X:=Xc) _ s7 σ5 H7 (.ref p) [v] (.ref p) [uv] (fun _ H'=>H'=upd H7 p (.lst (us++[v]))) I7 rfl (.cons r7 .nil) ⟨p,us,v,rfl,rfl,hH,by rw[hl];omega,rfl⟩) (fun _ s8 ⟨_,H8,I8,_,e8⟩=>?_) (fun _ _ z=>z);subst e8;exact again I8 S8 n5 e2
 ·have e:i=items.length:=by omega
  subst e;rw[List.drop_length] at e2;have e2:Res.ok acc=r0:=e2;refine thn (T.done Xc rfl rfl rfl hc _ [] s2 σ2 H2 Xc.xe I2 (stat fr2) st2 (h2 rfl)) fun r s3 ⟨hr,I3⟩=>?_;subst hr;exact hR acc e2.symm σ2 H2 s3 I3 (SR.only (vs':=[]) (ds':=[]) S2)
end
section
variable {P:Program}{w:World}{K:PySem.W.Frag}{mg:Str->Option Value}{base:Heap}{N:List Str}{qual:Str}{fscope:Scope}{f:Addr}{cd:Value}{A:Around}{outer:List Env}{s0:Shared}{Hb:Hp}{E:XK}
variable {X:Cx}{Ex:Value->Prop}{H0:Hp}{elt target iter:Expr}{ifs:List Expr}{scope:Scope}{pos:Pos}{own:List Str}{cap:List (Str × Nat)}
theorem lX{pins:List (Addr × Obj)}{σ:St}{H Hf Hs:Hp}{s:Shared}{fp:List Addr}{ρ:ac}{ts:List (V × D)}{items:List D}{gt:D->ac->Res ac}{ft:ac->Res Bool}{fe:ac->Res D}{it:Addr}{fpi:List Addr}{tn:Nat->Heap->Prop}{J:It}
    (hX:X=cxm P w K mg base N qual fscope f cd A outer s0 Hb E) (hE:∀ C H',Ex C->Same H0 H'->E C none H') (hc:X.calm=true) (CS:CompScope X scope own cap)
    (inner:∀ C cells s0 H0 ex pn xe Ex',(own++cap.map (·.1)).Nodup->Pa (Cx.wx (bf X scope (own++cap.map (·.1)) C cells s0 H0 ex pn) xe) H0 Ex'->FG (Cx.wx (bf X scope (own++cap.map (·.1)) C cells s0 H0 ex pn) xe) H0 target gt/\FTs (Cx.wx (bf X scope (own++cap.map (·.1)) C cells s0 H0 ex pn) xe) H0 ifs ft/\FE (Cx.wx (bf X scope (own++cap.map (·.1)) C cells s0 H0 ex pn) xe) H0 Ex' elt fe)
    (I:Inv X pins σ H s) (T:Turn X.prog X.w X.K target J fpi it tn) (st:tn 0 s.heap) (hf:∀ b∈fpi,cQ X pins H b) (ok:df J Hf items)
    (O:Own Hf H fp (tvs ts++σ) (tds ts++ρ)) (F:Fine Hs H0 Hf H fp) {r0:Res (List D)} (ho:cb gt ft fe items (List.replicate own.length none++cap.map fun p=>aL ρ p.2) []=r0) (hbad:r0≠.bad) (hXc:∀ C,r0=.exc C->Ex C)
    {RR:Value->Addr->Result->Shared->Prop}
    (hRE:∀ D C x s',(∃ m,s'.heap.Ns C m/\∀ h',Heap.SameBut C s'.heap h'->∀ cenv:Env,cenv.locals=C->wpAny (model X.prog X.w) X.A (PySem.passOn "comprehension.variables-let-go" x cenv:Sem Value) (fun _ _=>False) X.xe { s' with heap:=h' })->RR (.ref D) C (.error x) s')
    (hRR:∀ out,r0=.ok out->∀ D C s' H' m,s'.heap.Ns C m->s.heap.objs.size<=C->(∀ h'',Heap.SameBut C s'.heap h''->Inv X pins σ H' { s' with heap:=h'' }/\H' C=none)->SR Hf H H' [some (.ref D)] [some (.lst .o out)]->RR (.ref D) C (.ok .next) s') :
    wpAny (model X.prog X.w) X.A (newList []) (fun acc s₃=>wpAny (model X.prog X.w) X.A (newFunctionEnv scope X.env.globals (dE X.env.cells scope.names []) [] X.env.qual none .none (some X.env)) (fun cenv s₄=>
     codeAny (model X.prog X.w) X.A (.compStart (.ListComp elt [⟨target,iter,ifs,0⟩] scope pos) 0 (.ref it) acc { cenv with scope:=relabel scope X.env }) (RR acc cenv.locals) s₄) X.xe s₃) X.xe s:=by
 have hfr:H s.heap.objs.size=none:=I.hok.fresh (Nat.le_refl _);refine wpAny_newObj_type ?_ (by show ([]:List Value).toArray.size<=sizeLine;simp);have I3:Inv X pins σ (upd H s.heap.objs.size (.lst [])) { s with heap:=s.heap.push { cls:=.type "list", dict:=none,data:=.seq ([]:List Value).toArray } }:=
  I.laid (t':=s.toks) (fun b u e=>Heap.get?_push_of_some _ e) (Nat.le_refl _) ⟨Nat.zero_le _,[],0,.nil,Heap.get?_push_size _ rfl⟩
 have kp3:∀ b o,s.heap.get? b=some o->(s.heap.push { cls:=.type "list", dict:=none,data:=.seq ([]:List Value).toArray }).get? b=some o:=fun b o e=>Heap.get?_push_of_some _ e;have hsz3:(s.heap.push { cls:=.type "list", dict:=none,data:=.seq ([]:List Value).toArray }).objs.size=s.heap.objs.size+1:=Heap.size_push ..
 generalize s.heap.push { cls:=.type "list", dict:=none,data:=.seq ([]:List Value).toArray }=h3 at I3 kp3 hsz3 ⊢;have hle:s.heap.objs.size<=h3.objs.size:=by rw[hsz3];exact Nat.le_succ _
 refine iK (s:={ s with heap:=h3 }) fun h' ns kp cl ap=>?_;have he:∀ b∈fpi,∃ o,s.heap.get? b=some o:=fun b hb=>let ⟨o,e,_⟩:=T.obj 0 _ st b hb;⟨o,e⟩;have u3:Un (frs X.stack) fpi H (upd H s.heap.objs.size (.lst [])) s.heap h3:=Un.laid kp3 (Nat.le_refl _) hfr;have IC:=lm I I3 kp3 CS u3 hf he ns kp cl ap (by omega)
 let xc:Value->Shared->Prop:=fun x s2=>notedBy (model X.prog X.w) X.A (nV X scope h3.objs.size (bU X scope h3.objs.size)) (fun x s3=>∃ m,s3.heap.Ns h3.objs.size m/\∀ h',Heap.SameBut h3.objs.size s3.heap h'->∀ cenv:Env,cenv.locals=h3.objs.size->wpAny (model X.prog X.w) X.A (PySem.passOn "comprehension.variables-let-go" x cenv:Sem Value) (fun _ _=>False) X.xe { s3 with heap:=h' }) x s2
 have hPa:Pa (Cx.wx (bf X scope (own++cap.map (·.1)) h3.objs.size (bU X scope h3.objs.size) s H fpi (X.pn++pins)) xc) H (fun C=>r0=.exc C):=by
  refine ⟨?_⟩;intro pins1 σ1 H1 s1 e s' I1 hx;obtain ⟨a,C',H',rfl,hos,bare,u,hok,ex,exC,sm⟩:=hx;obtain ⟨m1,hn1,_⟩:=I1.loc;have b1:Un (frs X.stack) fpi H H1 s.heap s1.heap:=I1.base;have f1:H1 h3.objs.size=none:=I1.free;have o1:s1.os=s.os:=I1.os;have hEE:E C' none H':=hE C' H' (hXc C' exC) (F.zh.trans sm);subst hX;exact qc (m:=m1) I hf hle b1 o1 hn1 f1 hos bare u hok ex hEE rfl
 obtain ⟨iG,iT,iE⟩:=inner h3.objs.size (bU X scope h3.objs.size) s H fpi (X.pn++pins) xc (fun C=>r0=.exc C) CS.ndN hPa;have fpC:∀ {H':Hp},(∀ b∈fpi,H' b=none)->∀ b∈fpi,cQ (Cx.wx (bf X scope (own++cap.map (·.1)) h3.objs.size (bU X scope h3.objs.size) s H fpi (X.pn++pins)) xc) [] H' b:=fun {H'} hn b hb=>by
  obtain ⟨o,e⟩:=he b hb;refine ⟨hn b hb,?_,?_,.inl hb,fun x c hx z=>?_,fun p hp z=>?_⟩
  ·exact Nat.ne_of_lt (Nat.lt_of_lt_of_le (Heap.lt_size e) hle)
  ·show b∉frs X.stack
   intro m;rcases List.mem_cons.mp (I.stkSub b m) with z | z
   ·exact (hf b hb).2.1 z
   ·exact (hf b hb).2.2.1 z
  ·have hx:(bU X scope h3.objs.size).lookup x=some c:=hx
   subst z;rcases bz I CS hx with ⟨m1,k1⟩ | ⟨k1,c1⟩
   ·exact absurd (Nat.lt_of_lt_of_le (Heap.lt_size e) hle) (Nat.not_lt.mpr (Nat.le_of_succ_le (cl x c m1).2))
   ·exact (hf c hb).2.2.2.2.1 x c c1 rfl
  ·have hp:p∈(X.pn++pins)++[]:=hp
   rw[List.append_nil] at hp;exact (hf b hb).2.2.2.2.2 p hp z
 have st':tn 0 h':=T.keep _ _ _ (T.keep _ _ _ st fun b _ o e=>kp3 b o e) fun b _ o e=>kp b o e;have fr':∀ b∈fpi,upd H s.heap.objs.size (.lst []) b=none:=fun b hb=>by
  obtain ⟨o,e⟩:=he b hb;rw[aD (Nat.ne_of_lt (Heap.lt_size e))];exact (hf b hb).1
 have O0:=fJ O own.length (cap.map (·.2)) (tds ts).length fun _ _=>trivial;have F0:Fine Hf H Hf H []:=⟨List.nodup_nil,fun _ m=>by simp at m,F.fh,Same.refl _,Same.refl _,fun a o e=>.inl ⟨o,e⟩⟩
 have S0:SR Hf H (upd H s.heap.objs.size (.lst [])) (some (.ref s.heap.objs.size)::(List.replicate own.length none++cap.map fun p=>(σ[p.2]?).join)) (some (.lst .o [])::(List.replicate own.length none++cap.map fun p=>aL ρ p.2)):=by
  refine SR.laidL (us:=[]) (es:=[]) ?_ F0 .nil (fun _ m=>by simp at m) hfr;rw[List.map_map,List.map_map] at O0;have e1:(fun j=>((tvs ts++σ)[(tds ts).length+j]?).join) ∘ (fun (p:Str × Nat)=>p.2)=fun p=>(σ[p.2]?).join:=by
   funext p;show ((tvs ts++σ)[(tds ts).length+p.2]?).join=_;rw[fZ,<- fY ts,gn]
  have e2:(fun j=>aL ((tds ts++ρ).drop (tds ts).length) j) ∘ (fun (p:Str × Nat)=>p.2)=fun p=>aL ρ p.2:=by
   funext p;show aL ((tds ts++ρ).drop (tds ts).length) p.2=_;rw[List.drop_left]
  rw[e1,e2] at O0;exact O0
 have n0:noB (List.replicate own.length none++cap.map fun p=>aL ρ p.2):=fun d m=>by
  rcases List.mem_append.mp m with m | m
  ·rw[List.mem_replicate] at m;cases m.2
  ·obtain ⟨p,_,e⟩:=List.mem_map.mp m
   unfold aL at e;split at e
   ·split at e
    ·rename_i t;cases e;rw[t];decide
    ·cases e
   ·cases e
 have IC':Inv (Cx.wx (bf X scope (own++cap.map (·.1)) h3.objs.size (bU X scope h3.objs.size) s H fpi (X.pn++pins)) xc) [] (List.replicate own.length none++cap.map fun p=>(σ[p.2]?).join) (upd H s.heap.objs.size (.lst [])) _:=⟨⟨IC.ok.mod,IC.ok.kind,IC.ok.glob,IC.ok.blt,IC.ok.above,IC.ok.inj,IC.ok.has,IC.ok.cab,IC.ok.hd,IC.ok.frames,IC.ok.stk,IC.ok.exf,IC.ok.bs,IC.ok.bsz,IC.ok.noex,IC.ok.exfs,IC.ok.funs,IC.ok.frf⟩,IC.os,IC.bare,IC.base,IC.loc,IC.cell,IC.free,IC.freeC,IC.pin,IC.hok,IC.len⟩
 have loop:=nh (Xc:=Cx.wx (bf X scope (own++cap.map (·.1)) h3.objs.size (bU X scope h3.objs.size) s H fpi (X.pn++pins)) xc) (elt:=elt) (target:=target) (iter:=iter) (ifs:=ifs) (scope:=scope) (pos:=pos) hc iG iT iE T fpC ok IC' st' fr' S0 n0 ho hbad (fun C h=>h)
  (R:=RR (.ref s.heap.objs.size) h3.objs.size) (fun x s2 hx=>wpAny_mono hx (fun _ s3 q=>hRE _ _ x s3 q) (fun _ s3 q=>hRE _ _ _ s3 q)) (fun out hout σ' H' s' I' S'=>?_)
 ·exact codeAny_compStart_list loop (T.self X.A 0 _ _ _ st' loop)
 ·obtain ⟨m,hn,_⟩:=I'.loc
  have hC:H' h3.objs.size=none:=I'.free;refine hRR out hout _ _ s' H' m hn hle (fun h'' sb=>⟨?_,hC⟩) S';have un:Un (frs X.stack) fpi H H' s.heap s'.heap:=I'.base;have hos:s'.os=s.os:=I'.os;have un2:Un (frs X.stack) fpi H H' s.heap h'':=by
   have hne:∀ b o,s.heap.get? b=some o->b≠h3.objs.size:=fun b o e=>Nat.ne_of_lt (Nat.lt_of_lt_of_le (Heap.lt_size e) hle);refine ⟨fun b o e n hb hx=>(sb.2 b (hne b o e)).trans (un.keep b o e n hb hx),fun b o e n hb hx=>?_,un.free,fun b o e hx=>?_,un.tups,un.frzs,un.tbls⟩
   ·obtain ⟨sl,q⟩:=un.slot b o e n hb hx
    exact ⟨sl,(sb.2 b (hne b o e)).trans q⟩
   ·obtain ⟨o',q⟩:=un.there b o e hx
    exact ⟨o',(sb.2 b (hne b o e)).trans q⟩
  have hok:HOk X.prog X.w H' h'':=fun b u e=>by
   refine (I'.hok b u e).stay (fun c v hc q=>(sb.2 c ?_).trans q) (fun _ q=>q) fun _ _ q=>q;rintro rfl;rcases hc with rfl | hc
   ·rw[hC] at e;cases e
   ·rw[hC] at hc;cases hc
  exact I.call' (s':={ s' with heap:=h'' }) (ch:=fpi) hos un2 hok I'.bare fun b hb=>⟨(hf b hb).2.2.2.1,(hf b hb).2.1,(hf b hb).2.2.2.2.1,(hf b hb).2.2.2.2.2⟩
end
section
variable {P:Program}{w:World}{K:PySem.W.Frag}{mg:Str->Option Value}{base:Heap}{N:List Str}{qual:Str}{fscope:Scope}{f:Addr}{cd:Value}{A:Around}{outer:List Env}{s0:Shared}{Hb:Hp}{E:XK}
variable {Ex:Value->Prop}{H0:Hp}{elt target iter:Expr}{ifs:List Expr}{scope:Scope}{pos:Pos}{own:List Str}{cap:List (Str × Nat)}
theorem lY{i:Nat}{x:Str}{px pc:Pos}{fi:ac->Res (List D)}{gt:D->ac->Res ac}{ft:ac->Res Bool}{fe:ac->Res D}(hE:∀ C H',Ex C->Same H0 H'->E C none H')(hN:(cxm P w K mg base N qual fscope f cd A outer s0 Hb E).N.Nodup)(hi':(cxm P w K mg base N qual fscope f cd A outer s0 Hb E).N[i]?=some x)(hx:Loc (cxm P w K mg base N qual fscope f cd A outer s0 Hb E).env.scope x)(hc:(cxm P w K mg base N qual fscope f cd A outer s0 Hb E).calm=true)(CS:CompScope (cxm P w K mg base N qual fscope f cd A outer s0 Hb E) scope own cap)(hi:FI (cxm P w K mg base N qual fscope f cd A outer s0 Hb E) H0 Ex target iter fi)
    (inner:∀ C cells s1 H0 ex pn xe Ex',(own++cap.map (·.1)).Nodup->Pa (Cx.wx (bf (cxm P w K mg base N qual fscope f cd A outer s0 Hb E) scope (own++cap.map (·.1)) C cells s1 H0 ex pn) xe) H0 Ex'->FG (Cx.wx (bf (cxm P w K mg base N qual fscope f cd A outer s0 Hb E) scope (own++cap.map (·.1)) C cells s1 H0 ex pn) xe) H0 target gt/\FTs (Cx.wx (bf (cxm P w K mg base N qual fscope f cd A outer s0 Hb E) scope (own++cap.map (·.1)) C cells s1 H0 ex pn) xe) H0 ifs ft/\FE (Cx.wx (bf (cxm P w K mg base N qual fscope f cd A outer s0 Hb E) scope (own++cap.map (·.1)) C cells s1 H0 ex pn) xe) H0 Ex' elt fe)
    (hsw:swapsWith (.ListComp elt [⟨target,iter,ifs,0⟩] scope pc) (some (.Name x px)) pos.line (cxm P w K mg base N qual fscope f cd A outer s0 Hb E).env=pure true:=by rfl)
    (hf:(cxm P w K mg base N qual fscope f cd A outer s0 Hb E).fn x=true\/(cxm P w K mg base N qual fscope f cd A outer s0 Hb E).env.scope.names.lookup x=some .local:=by first | exact .inl rfl | exact .inr rfl | assumption)
    (hs:∀ x,foldedSetIterable iter (cxm P w K mg base N qual fscope f cd A outer s0 Hb E).env x=pure x:=by intro _;rfl):FS (cxm P w K mg base N qual fscope f cd A outer s0 Hb E) H0 Ex (.Assign [.Name x px] (.ListComp elt [⟨target,iter,ifs,0⟩] scope pc) pos) (aE i (jz own.length (cap.map (·.2)) fi gt ft fe)):=by
 generalize hX:cxm P w K mg base N qual fscope f cd A outer s0 Hb E=X at *;refine ⟨?_⟩;intro pins s σ H En I h;obtain ⟨Hs,ρ,⟨S,n⟩,p⟩:=h;rw[exec_Assign_Name_used _ _ _ _ hsw];refine wpAny_bind (wpAny_standAt (wpAny_bind ?_))
 show wpAny _ X.A (do let _ <- comprehension (.ListComp elt [⟨target,iter,ifs,0⟩] scope pc) scope X.env _ (newList []) false (eval iter X.env) (some (assign (.Name x px) X.env))) _ _ s
 refine wpAny_bind (wpAny_mono (wpAny_comprehension_free (use:=some (assign (.Name x px) X.env)) (Q:=fun _ s'=>SP X pins En .next s') rfl hs (dF fun x hx hk=>I.ok.has x.1 (CS.free x hx hk)) CS.kind (fun x hx hl=>by rw[<- hl];exact cx CS.nd hx) ?_) (fun _ s' hq=>wpAny_pure (wpAny_pure hq)) fun _ _ e=>e);have p:=PostS.aft p
 refine thn (hi.go pins s σ H (fun J H'=>∃ Hf fp items,df J Hf items/\Own Hf H' fp σ ρ/\Fine Hs H0 Hf H' fp/\∃ r0,cb gt ft fe items (List.replicate own.length none++cap.map fun p=>aL ρ p.2) []=r0/\r0≠.bad/\(∀ C,r0=.exc C->Ex C)/\∀ out,r0=.ok out->i<ρ.length/\∀ σ' H',SS Hs H0 H' σ' (ρ.set i (some (.lst .o out)))->En.nx σ' H') I ⟨Hs,ρ,[],S,?_⟩) fun xv s1 h1=>thn h1 fun itv s2 h2=>?_
 ·unfold jz at p
  refine (Post.bind p).imp fun items _ p1 J H' Hf fp ok O F=>?_;rw[List.map_map] at p1;have p1:Post Ex (cb gt ft fe items (List.replicate own.length none++cap.map fun p=>aL ρ p.2) [] >>= fun ds=>.ok (.lst .o ds)) fun d=>PostS Hs H0 Ex En (if d.tag=.b\/ρ.length<=i then .bad else .nx (ρ.set i (some d))):=p1;refine ⟨Hf,fp,items,ok,O,F,_,rfl,fun z=>?_,fun C z=>?_,fun out z=>?_⟩
  ·rw[z] at p1;exact p1.elim
  ·rw[z] at p1;exact p1
  ·rw[z] at p1
   have p1:PostS Hs H0 Ex En (if (D.lst .o out).tag=.b\/ρ.length<=i then .bad else .nx (ρ.set i (some (.lst .o out)))):=p1;split at p1
   ·exact p1.elim
   ·rename_i hcc
    refine ⟨?_,p1⟩;by_cases hl:ρ.length<=i
    ·exact absurd (.inr hl) hcc
    ·omega
 ·obtain ⟨it,fpi,tn,J,H2,rfl,I2,T,st,hf2,Hf,fp,items,ok,O,F,r0,ho,hbad,hxc,k⟩:=h2
  refine lX (ts:=[]) (RR:=fun acc C=>compPost (model X.prog X.w) X.A X.xe (some (assign (.Name x px) X.env)) (fun _ s'=>SP X pins En .next s') acc C) hX.symm hE hc CS inner I2 T st hf2 ok O F ho hbad hxc (fun _ _ _ _ q=>q) ?_;intro out hout Da C s' H' m hn hC hI S';obtain ⟨hil,k⟩:=k out hout;have I':Inv X pins σ H' s':=(hI s'.heap (Heap.SameBut.refl ..)).1
  have hHC:H' C=none:=(hI s'.heap (Heap.SameBut.refl ..)).2;have S'':SX Hs H0 H' [(.ref Da,.lst .o out)] σ ρ:=SR.told O F S' (fun z=>nomatch z);have hCL:C≠X.env.locals:=Nat.ne_of_gt (Nat.lt_of_lt_of_le I2.lt hC);have hCc:∀ y c,X.env.cells.lookup y=some c->c≠C:=fun y c e=>by
   obtain ⟨v,q⟩:=I2.cell y c e;exact Nat.ne_of_lt (Nat.lt_of_lt_of_le q.lt hC)
  show wpAny (model X.prog X.w) X.A (assign (.Name x px) X.env (.ref Da)) _ X.xe s';refine wpAny_assign_Name (gP (v:=.ref Da) I' hN hi' hx rfl (fun s3 I3 ⟨a,sb,ha⟩=>?_) hf);have hCa:C≠a:=by
   rcases ha with ha | ha
   ·rw[ha];exact hCL
   ·exact (hCc x a ha).symm
  refine ⟨m,hn.sameBut sb hCa,fun h'' sb2=>?_⟩;refine ⟨_,H',I3.turned (t':=s3.toks) (it:=C) (fun b o hb e=>(sb2.2 b hb).trans e) hHC hCL (.inr (Nat.le_trans I2.sz hC)) hCc (fun p hp=>?_),k _ H' (SR.set0 S'' (fun z=>nomatch z) n hil)⟩;exact Nat.ne_of_lt (Nat.lt_of_lt_of_le (Heap.lt_size (I2.pin p hp).1) hC)
end
end Mi
namespace Mi
open PySem PySem.Spec L2
open PyProof.Rows hiding St
open PySem.Calls Builtin Builtin.ObjectAttr Builtin.Getset_descriptor
def cq(K:PySem.W.Frag)(C:Addr):Bool:=(PySem.W.findIn K (.ref C) "__getattribute__" == some (some (.builtin "BaseException.__getattribute__"))&&PySem.W.findIn K (.ref C) "__getattr__" == some none&&PySem.W.mroIn K C (.type "BaseException") == some true)&&(PySem.W.clsIn K C).isSome&&PySem.W.findIn K (.ref C) "__class__" == some (some (.builtin "object.__class__"))&&PySem.W.specialIn K (.builtin "object.__class__") "__get__" == some (some (.builtin "getset_descriptor.__get__"))&&PySem.W.takesIn K (.builtin "object.__class__") == some true&&PySem.W.mroIn K C (.type "object") == some true
section
variable {K:PySem.W.Frag}{prog:Program}{w:World}{A:Around}{x C:Addr}
theorem rJ{E:Value->Shared->Prop}{s:Shared}{Q:Option Value->Shared->Prop}(a:cq K C=true)(X:K.In s.heap)(he:∃ oe,s.heap.get? x=some oe/\oe.cls=.ref C)(h:Q (some (.ref C)) { s with toks:=s.toks+1 }) :
    wpAny (model prog w) A (getAttr? (.ref x) "__class__") Q E s:=by
 obtain ⟨oe,he,hc⟩:=he;simp only[cq,Bool.and_eq_true,beq_iff_eq] at a;obtain ⟨⟨⟨⟨⟨⟨⟨g1,g2⟩,g3⟩,a2⟩,a3⟩,a4⟩,a5⟩,a6⟩:=a;have T:∀ {M:Model},PySem.W.Looks M s.heap (typeOf (.ref x)) (.ref C):=hc ▸ (PySem.W.Looks.ld he).andThen .now;have F1:=PySem.W.looks_findIn (M:=model prog w) X a3;have F2:=PySem.W.looks_specialIn (M:=model prog w) X a4;have F3:=PySem.W.looks_takesIn (M:=model prog w) X a5
 have F4:PySem.W.Looks (model prog w) s.heap (find (.ref x) (.ref C) "__class__") (.bind (.builtin "getset_descriptor.__get__") (.builtin "object.__class__")):=
  F1.andThen (F2.andThen ((show PySem.W.Looks (model prog w) s.heap (dataDescriptor? (some (.builtin "object.__class__")) (some (.builtin "getset_descriptor.__get__"))) (some (.builtin "getset_descriptor.__get__", .builtin "object.__class__")) from F3.andThen .now).andThen (PySem.W.Looks.tag .now)))
 obtain ⟨h0,g,d,t,os⟩:=s;have G1:=PySem.W.looks_findIn (M:=model prog w) X g1;have G2:=PySem.W.looks_findIn (M:=model prog w) X g2;have M1:=PySem.W.looks_mroIn (M:=model prog w) X a6;have M2:=PySem.W.looks_mroIn (M:=model prog w) X g3;have T1:=T (M:=model prog w);have hx2:(onTheHeap (Value.ref C)&&Value.builtin "BaseException.__getattribute__" == Value.builtin "object.__getattribute__")=false:=by
  rw[show (Value.builtin "BaseException.__getattribute__" == Value.builtin "object.__getattribute__")=false by decide +kernel];rfl
 have f3:=F.excAttr_ValueError.ga.bind (.ref x);unfold getAttr? getAttrBy? getAttrBy;refine wpAny_bind (wpAny_mkText (wpAny_bind (wpAny_attempt (wpAny_holding (wpAny_bind (T1.at (wpAny_bind (G1.at ?_))))))));simp only[hx2,Bool.false_eq_true,if_false];refine wpAny_bind (G2.at (wpAny_bind (wpAny_attempt (wpAny_holding ?_))));show wpAny _ _ (boundAndCalled _ _ _) _ _ _;unfold boundAndCalled;rw[f3]
 refine wpAny_bind (wpAny_pure (wpAny_call (codeAny_call_builtin F.excAttr_ValueError.ga.plain F.entry_bexc_ga ?_)));have LI:PySem.W.Looks (model prog w) h0 (isInstance (.ref x) (.type "BaseException")) true:=T1.andThen M2;have hk:builtinKind "BaseException.__getattribute__" = some .slot:=by decide +kernel
 have hsplit:splitId "BaseException.__getattribute__" = some ("BaseException", "__getattribute__"):=by decide +kernel
 have ha:=F.args_bexc_ga (.ref x) (.str "__class__" t);show wpAny _ _ (checkBuiltinCall "BaseException.__getattribute__" ⟨[.ref x,.str "__class__" t],[]⟩) _ _ _;simp only[checkBuiltinCall,hk,hsplit];refine wpAny_bind (LI.at ?_);simp only[Bool.not_true,Bool.false_eq_true,if_false];unfold argsOk at ha;refine Eq.mpr (congrArg (fun z=>wpAny (model prog w) A.in1 z _ _ _) ha) ?_;refine wpAny_pure ?_
 show wpAny _ _ (Builtin.«object.__getattribute__» ⟨[.ref x,.str "__class__" t],[]⟩) _ _ _;unfold Builtin.«object.__getattribute__»;refine wpAny_bind (wpAny_pure (wpAny_bind (wpAny_pure (wpAny_bind (T1.at (wpAny_bind (F4.at ?_)))))));show wpAny _ _ (bindTo _ _ (Value.ref x) (Value.ref C)) _ _ _;unfold bindTo;show wpAny _ _ (holding [_] (call _ [_,.ref x,.ref C]) >>= ret) _ _ _
 refine wpAny_bind (wpAny_holding (wpAny_call ?_));refine codeAny_call_builtin PySem.W.KF.slot_gs.plain PySem.W.KF.entry_gs (PySem.W.KF.slot_gs.check _ _ _ _ _ _ _ _ PySem.W.KF.type_class (PySem.W.KF.args_gs _ _ _) ?_);unfold Builtin.«getset_descriptor.__get__» descrGet;rw[PySem.W.dga_obj];refine wpAny_bind (wpAny_pure ?_);unfold descrGetter descrCheckInstance descrNameAndClass isInstance
 simp only[PySem.W.KF.owner_class];(repeat lk);refine ⟨Code.quiet_builtin _ (by decide +kernel),codeAny_builtin PySem.W.KF.entry_class ?_⟩;unfold Builtin.«object.__class__» shownTypeOf;(repeat lk);exact h
theorem oF{cd:ClassData}{h:Heap}(X:K.In h)(e:PySem.W.clsIn K C=some cd):∃ c d sl,h.get? C=some ⟨c,d,.cls cd,sl⟩:=by
 unfold PySem.W.clsIn at e;split at e
 ·rename_i ho
  cases e
  exact ⟨_,_,_,X _ _ ho⟩
 ·cases e
theorem qd(a:cq K C=true):PySem.W.KitX K (.ref x) (.ref C) (fun h=>∃ oe,h.get? x=some oe/\oe.cls=.ref C):=by
 have a':=a;simp only[cq,Bool.and_eq_true,beq_iff_eq] at a';obtain ⟨⟨⟨⟨⟨_,a2⟩,_⟩,_⟩,_⟩,_⟩:=a';obtain ⟨cd,hc⟩:=Option.isSome_iff_exists.mp a2;refine ⟨fun M h _ p=>?_,fun M h X _=>?_,fun h tp dd its n sl X htp=>?_,fun X p k=>rJ a X p k⟩
 ·obtain ⟨oe,p1,p2⟩:=p
  exact p2 ▸ (PySem.W.Looks.ld p1).andThen .now
 ·obtain ⟨c,d,sl,g⟩:=oF X hc
  intro A' Q' E' s' k q;unfold isType loadHead;exact wpAny_bind (wpAny_loadPart (k _ _ g) (wpAny_pure q))
 ·obtain ⟨c,d,sl,g⟩:=oF X hc
  refine Bool.eq_false_iff.mpr fun q=>?_
  cases Value.ref.inj (beq_iff_eq.mp q)
  cases g.symm.trans htp
end
def dh(yes no:List Addr):D->Res D
 | .exc (.ref c)=>if c∈yes then .ok (.bl true) else if c∈no then .ok (.bl false) else .bad
 |_=>.bad
def iq(f:ac->Res D):ac->Res D:=fun ρ=>f ρ >>= fun d=>match d with
 | .lst .f xs=>match dq xs with
  |some bs=>if bs.length<=1000 then .ok (.int ((bs.countP (· == true):Nat):Int)) else .bad
  |none=>.bad
 |_=>.bad
def ir(f:ac->Res D):ac->Res D:=fun ρ=>f ρ >>= fun d=>match d with
 | .lst .f xs=>match dq xs with
  |some bs=>if bs.length<=1000/\true∈bs then .ok (.int ((bs.idxOf true:Nat):Int)) else .bad
  |none=>.bad
 |_=>.bad
def dJ(a:Str)(n:Int):Str:=⟨(List.replicate n.toNat a.cps).foldl (fun u v=>u++v) #[]⟩
def gB:D->D->Res D:=fun x y=>match x,y with
 | .str a,.int n=>if 2<=n/\n<=100/\a.length<=10/\a.length≠0 then .ok (.str (dJ a n)) else .bad
 |_,_=>.bad
theorem oG:∀ x y,noX (gB x y)=true:=by
 intro x y;unfold gB;split
 ·split<;>rfl
 ·rfl
section
variable {X:Cx}{Ex:Value->Prop}{H0:Hp}{e:Expr}{f:ac->Res D}{pos:Pos}
theorem qe{vT:V}{tv:Value}(hr:∀ u,RelV vT u->u=tv):CallR X (.builtin "isinstance") fun us H Q=>∃ (a c:Addr) (φ:Heap->Prop) (b:Bool),us=[.ref a,vT]/\H a=some (.ext φ)/\(∀ h,φ h->∃ oe,h.get? a=some oe/\oe.cls=.ref c)/\cq X.K c=true/\PySem.W.kitOne X.K (.ref c) tv=some b/\Q (.bl b) H:=by
 intro pins s σ H xs us Q I r h;obtain ⟨a,c,φ,b,rfl,ha,hφ,hx,hk,q⟩:=h
 cases r with
 |cons r1 r2=>
  cases r2 with
  |cons r3 r4=>
   cases r4
   cases r1
   have:=hr _ r3;subst this;obtain ⟨p,_,_⟩:=(show ObjOk X.prog X.w H s.heap a (.ext φ) from I.hok a _ ha)
   exact PySem.W.kia_one (qd hx) I.kIn (hφ _ p) hk (fun z=>nomatch z) fun tk=>⟨.bl b,H,I.tok tk,rfl,q⟩
theorem gd{vT:V}{tv:Value}{yes no:List Addr}{x:Str}{p p2:Pos}(hr:∀ u,RelV vT u->u=tv)(hP:PE X (.Name x p2) (tC vT))(hy:∀ c∈yes,cq X.K c=true/\PySem.W.kitOne X.K (.ref c) tv=some true)(hn:∀ c∈no,cq X.K c=true/\PySem.W.kitOne X.K (.ref c) tv=some false)(he:FE X H0 Ex e f)(hg:Gl X "isinstance")(hm:X.mg "isinstance" = none)
    (h1:starEach [e,.Name x p2] X.env=(false,eval e X.env)::starEach [.Name x p2] X.env:=by rfl) (h2:starEach [.Name x p2] X.env=(false,eval (.Name x p2) X.env)::starEach [] X.env:=by rfl) (h3:(backTo pos (starEach [.Name x p2] X.env)).any (·.1)=false:=by rfl) :
    FE X H0 Ex (.Call (.Name "isinstance" p) [e,.Name x p2] [] pos) (f1 (dh yes no) f):=by
 have hb:bootBuiltins "isinstance" = some (.builtin "isinstance"):=by decide +kernel
 refine ⟨PE.pre (lf (qe hr) hg hm hb (cv he.go (cv hP dj h2) h1) (by decide) (by decide) h1 h3) ?_⟩;rintro σ H Q ⟨Hs,ρ,ts,S,p⟩;refine ⟨Hs,ρ,ts,S,(Post.bind p).imp fun d _ p1 v H1 S1=>?_⟩;have S1:SR Hs H0 H1 (some v::(tvs ts++σ)) (some d::(tds ts++ρ)):=S1;unfold dh at p1;split at p1
 ·rename_i c _ _
  have hh:=S1.head
  cases hh with
  |exc ha hφ=>
   split at p1
   ·rename_i hc
    exact ⟨_,c,_,true,rfl,ha,hφ,(hy c hc).1,(hy c hc).2,p1 _ H1 S1.drop.bl⟩
   ·split at p1
    ·rename_i hc
     exact ⟨_,c,_,false,rfl,ha,hφ,(hn c hc).1,(hn c hc).2,p1 _ H1 S1.drop.bl⟩
    ·exact p1.elim
 ·exact p1.elim
theorem oH{bs:List Bool}:∀ {its:List Value},Vals (bs.map V.bl) its->its=bs.map Value.bool:=by
 induction bs with
 |nil=>intro its r;cases r;rfl
 |cons b bs ih=>
  intro its r
  cases r with
  |cons r1 r2=>
   cases r1
   rw[ih r2];rfl
def iu:Value->Bool
 | .bool b=>b
 |_=>false
theorem oI:MtR X "list.count" (fun x vs H Q=>∃ (l:Addr) (bs:List Bool),x=.ref l/\vs=[.bl true]/\SqL X.K H l (bs.map V.bl)/\Q (.int ((bs.countP (· == true):Nat):Int)) H):=by
 intro pins s σ H x vs v us Q I rx rv h;obtain ⟨l,bs,rfl,rfl,hq,q⟩:=h
 cases rx
 cases rv with
 |cons ru r2=>
  cases r2
  cases ru
  obtain ⟨its,w,pl,_⟩:=I.list hq;have hi:=oH w;subst hi;obtain ⟨⟨cls,dd,data,sl⟩,ho,hc,n,hd⟩:=id pl.isList;simp only at hc hd;subst hc hd;refine call_meets PySem.F.slot_list_count ⟨_,ho,rfl⟩ PySem.F.entry_list_count (PySem.F.args_list_count_2 _ _)
   (SeqAt.list_countAt l (bs.map Value.bool).toArray n dd sl (.bool true) iu) ⟨ho,fun y hy=>?_,?_⟩
  ·have hy:y∈bs.map Value.bool:=by simpa using hy
   obtain ⟨b,_,rfl⟩:=List.mem_map.mp hy
   cases b<;>exact SeqAt.EqAt.bool_bool _ _
  ·have:List.countP iu (bs.map Value.bool).toArray.toList=bs.countP (· == true):=by
      show List.countP iu (bs.map Value.bool)=_;rw[List.countP_map];congr 1;funext b
      cases b<;>rfl
   rw[this];exact ⟨.int _,H,I.tok _,⟨_,rfl⟩,q⟩
theorem oJ:MtR X "list.index" (fun x vs H Q=>∃ (l:Addr) (bs:List Bool),x=.ref l/\vs=[.bl true]/\SqL X.K H l (bs.map V.bl)/\true∈bs/\bs.length<=1000/\Q (.int (bs.idxOf true:Nat)) H):=by
 intro pins s σ H x vs v us Q I rx rv h;obtain ⟨l,bs,rfl,rfl,hq,hk,hl,q⟩:=h
 cases rx
 cases rv with
 |cons ru r2=>
  cases r2
  cases ru
  obtain ⟨its,w,pl,_⟩:=I.list hq;have hi:=oH w;subst hi;obtain ⟨⟨cls,dd,data,sl⟩,ho,hc,n,hd⟩:=id pl.isList;simp only at hc hd;subst hc hd;have hj:bs.idxOf true<bs.length:=List.idxOf_lt_length_iff.mpr hk;refine call_meets PySem.F.slot_list_index ⟨_,ho,rfl⟩ PySem.F.entry_list_index (PySem.F.args_list_index_2 _ _)
   (SeqAt.list_indexAt l (bs.map Value.bool).toArray n dd sl (.bool true) iu (bs.idxOf true) (by simpa using hj) (by omega) ?_ ?_) ⟨ho,fun y hy=>?_,⟨.int _,H,I.tok _,⟨_,rfl⟩,q⟩⟩
  ·show iu ((bs.map Value.bool)[bs.idxOf true]'(by simpa using hj))=true
   rw[List.getElem_map];show bs[bs.idxOf true]=true;exact List.getElem_idxOf hj
  ·intro j hjs hlt
   show iu ((bs.map Value.bool)[j]'(by simpa using hjs))=false;rw[List.getElem_map];have hjl:j<bs.length:=by simpa using hjs
   show bs[j]=false
   cases hb:bs[j] with
   |false=>rfl
   |true=>exact absurd (List.not_of_lt_findIdx (p:=(· == true)) hlt) (by simp[hb])
  ·have hy:y∈bs.map Value.bool:=by simpa using hy
   obtain ⟨b,_,rfl⟩:=List.mem_map.mp hy
   cases b<;>exact SeqAt.EqAt.bool_bool _ _
theorem rK:FOp X (binaryOp .Mult) gB:=by
 refine ⟨?_⟩;intro pins s σ H x y v u Q I rx ry h;obtain ⟨Hs,H1,vs,ds,d1,d2,d,S,eg,k⟩:=h;unfold gB at eg;split at eg
 ·rename_i a n
  split at eg
  ·rename_i hc
   cases eg
   have h2:=S.head;have h1:=S.drop.head
   cases h2
   cases h1
   obtain ⟨t1,rfl⟩:=rx;obtain ⟨t2,rfl⟩:=ry;have e:Txt.mul a n=dJ a n:=by
    unfold Txt.mul;rw[if_neg (by omega),if_neg (by simp;omega)];rfl
   refine PySem.W.KXi.mul rfl (by omega) (by omega) (by omega) fun t' kk _ _=>?_;rw[e];exact ⟨.str _,H,I.tok _,⟨_,rfl⟩,k _ H (SR.atom S.drop.drop (fun _=>.str) rfl)⟩
  ·cases eg
 ·cases eg
end
structure RoomH (k:Nat) (A:Around):Prop where
 dp:A.depth+3*k+5<recursionLimit
 un:A.units+16*k+200<cLine
theorem RoomH.of{k:Nat}{A:Around}(r:Room k A)(v:Option Value):RoomH k (A.mark v):=⟨r.dp,r.un⟩
theorem RoomH.deeper{k:Nat}{A:Around}(r:RoomH (k+1) A)(env:Env):RoomH k (A.deeper env):=
 ⟨by have:=r.dp;show A.depth+1+3*k+5<_;omega,by have:=r.un;show A.units+3+16*k+200<_;omega⟩
abbrev cxH(P:Program)(w:World)(K:PySem.W.Frag)(mg:Str->Option Value)(base:Heap)(N:List Str)(qual:Str)(scope:Scope)(f:Addr)(cd:Value)(A:Around)(outer:List Env)(s:Shared)(H:Hp):Cx:=
 { cxm P w K mg base N qual scope f cd A outer s H (fun _ _ _=>False) with calm:=false,xe:=fun _ _=>False }
def CRH(outer:List Env)(P:Program)(w:World)(H:Hp)(s:Shared)(Q:VK)(r:Result)(s':Shared):Prop:=
 match r with
 | .ok (.ret u)=>CE outer P w H s Q u s'
 |_=>False
structure CalH (P:Program) (w:World) (K:PySem.W.Frag) (mg:Str->Option Value) (base:Heap) (x:Str) (n:Nat) (F:List D->Res D) (k:Nat):Prop where
 ex:∃ f fd ps,ps.length=n/\(∀ (A:Around) (outer:List Env) (s:Shared) (H:Hp) (args:Args) (us:List Value) (vs:List V) (Q:VK),RoomH k A->Env0 P w K mg base A outer s H->BindsTo s fd args (ps.zip us)->Vals vs us->spF n F vs H Q (fun _ _ _=>False) →
  codeAny (model P w) A (.call (.ref f) args) (CRH outer P w H s Q) s)/\mg x=some (.ref f)/\PySem.W.keepIn K (.ref f)=true/\Binds K fd ps []
section
variable {P:Program}{w:World}{K:PySem.W.Frag}{mg:Str->Option Value}{base:Heap}{N ps:List Str}{x:Str}{st:Stmt}{k:Nat}{g:ac->FOut}
theorem ua(U:Df K mg x st ps)(S:FnScope N ps (am st))
    (hbody:∀ (f:Addr) (cdv:Value) (A:Around) (outer:List Env) (s:Shared) (H:Hp),RoomH k (A.deeper (envOfC x (am st) s.heap.objs.size f cdv)) →
     FSs (cxH P w K mg base N x (am st) f cdv A outer s H) H (fun _=>False) (bD st) g):CalH P w K mg base x ps.length (aJ N.length g) (k+1):=by
 obtain ⟨f,fd,F,hm,hb⟩:=U.ex;refine ⟨f,fd,ps,rfl,fun A outer s H args us vs Q hr e0 hbt r hsp=>?_,hm,F.kp,hb⟩;obtain ⟨oc,od,kV,doc,pm,an,cdv,ct,osl,rfl,lk,hcd⟩:=F.ex;obtain ⟨Hs,ds,hl,sH,R,ht,p⟩:=hsp;have hl':vs.length=ps.length:=by rw[R.length];exact hl
 have KX:K.In s.heap:=e0.mod.kin.keeps fun b o e=>(e0.bs b o e).1;have lim:s.heap.NoLimit:=e0.mod.nolimit.keeps fun b o e=>(e0.bs b o e).1;have hkind:∀ y∈ps.zip us,(am st).names.lookup y.1=some .local\/((am st).names.lookup y.1=some .cell/\((cellsFrom (s.heap.objs.size+1) (am st).names []).lookup y.1).isSome=true):=fun ⟨n,v⟩ hy=>by
  rcases S.par n (List.of_mem_zip hy).1 with q | q
  ·exact .inl q
  ·exact .inr ⟨q,PySem.W.cellsFrom_some _ _ _ (.inl q)⟩
 refine codeAny_call_function (by have:=hr.dp;omega) (KX _ _ lk) rfl S.co S.gen rfl (PySem.W.codeRec_of KX hcd) (hbt _ _ _ _ ?_);refine wpAny_newFunctionEnv_cells S.kind hkind fun env he s1 xx=>?_;subst he;refine ⟨lim.keeps xx.toInCall.keep,codeAny_func ?_⟩
 have I0:Inv (cxm P w K mg base N x (am st) f cdv { A with handled:=none } outer s H (fun _ _ _=>False)) [] (L2.cN N vs) H s1:=km S rfl ⟨e0.frames,e0.mod,e0.bs,e0.bsz,e0.funs,e0.frf,e0.hok,e0.bare⟩ hl' r xx
 have I:Inv (cxH P w K mg base N x (am st) f cdv A outer s H) [] (L2.cN N vs) H s1:=⟨⟨I0.ok.mod,I0.ok.kind,I0.ok.glob,I0.ok.blt,I0.ok.above,I0.ok.inj,I0.ok.has,I0.ok.cab,(fun z=>nomatch z),Around.frames_deeper e0.frames,I0.ok.stk,I0.ok.exf,I0.ok.bs,I0.ok.bsz,I0.ok.noex,I0.ok.exfs,I0.ok.funs,I0.ok.frf⟩,I0.os,I0.bare,I0.base,I0.loc,I0.cell,I0.free,I0.freeC,I0.pin,I0.hok,I0.len⟩
 refine wpAny_mono ((hbody f cdv A outer s H (hr.deeper _)).go [] s1 (L2.cN N vs) H { nx:=fun _ H'=>Q .non H',rt:=Q } I ⟨Hs,ds.map some++List.replicate (N.length - ds.length) none,⟨⟨Hs,[],?_,List.nodup_nil,fun _ m=>by simp at m,sH,Same.refl _,Same.refl _,fun a o e=>.inl ⟨o,e⟩⟩,?_⟩,?_⟩) (fun fl s' hs=>?_) fun e s' hs=>hs.elim
 ·have:=dG (Hs:=Hs) (H:=H) (N.length - ds.length) R ht
  unfold L2.cN;rw[R.length];exact this
 ·intro d m
  rcases List.mem_append.mp m with m | m
  ·obtain ⟨d',m',e⟩:=List.mem_map.mp m
   cases e
   rw[ht d m'];decide
  ·rw[List.mem_replicate] at m;cases m.2
 ·unfold aJ at p
  cases eg:g (ds.map some++List.replicate (N.length - ds.length) none) with
  |rt d=>
   rw[eg] at p;exact fun v H' S'=>p v H' S'
  |nx ρ'=>
   rw[eg] at p;exact fun σ' H' S'=>p .non H' (SR.only (vs':=[]) (ds':=[]) S'.1.non)
  |exc C=>rw[eg] at p;exact p H (Same.refl _)
  |bk ρ'=>rw[eg] at p;exact p.elim
  |ct ρ'=>rw[eg] at p;exact p.elim
  |bad=>rw[eg] at p;exact p.elim
 ·have fin:∀ {σ':St} {H':Hp} {v:V} {u:Value},Inv (cxH P w K mg base N x (am st) f cdv A outer s H) [] σ' H' s'->RelV v u->Q v H'->CE outer P w H s Q u s':=
     fun {σ' H' v u} J rv q=>⟨v,H',J.os,J.bare,J.base,J.hok,rv,q⟩
  cases fl with
  |ret u=>
   obtain ⟨v,σ',H',J,rv,q⟩:=hs;exact fin J rv q
  |next=>
   obtain ⟨σ',H',J,q⟩:=hs;exact fin (v:=V.non) (u:=Value.none) J rfl q
  |brk=>
   obtain ⟨_,_,_,q⟩:=hs;exact False.elim q
  |cont=>
   obtain ⟨_,_,_,q⟩:=hs;exact False.elim q
end
section
variable {X:Cx}{Ex:Value->Prop}{H0:Hp}{e:Expr}{pos:Pos}
theorem qf{x:Str}{n k:Nat}{F:List D->Res D}{p:Pos}{es:List Expr}{fa:ac->Res (List D)}(c:CalH X.prog X.w X.K X.mg X.base x n F k)(hr:RoomH k X.A)(hg:Gl X x)(ha:FA X H0 Ex (e::es) fa)
    (hdb:(x == ("__debug__" : Str))=false:=by decide) (he:starEach (e::es) X.env=(false,eval e X.env)::starEach es X.env:=by rfl) (hpl:(backTo pos (starEach es X.env)).any (·.1)=false:=by rfl) :
    FE X H0 Ex (.Call (.Name x p) (e::es) [] pos) (cz n F fa):=by
 obtain ⟨f,fd,ps,hn,G,hm,hk,hb⟩:=c.ex;refine ⟨PE.pre (t:=mR (spF n F) [] (fun _ _ _=>False) (TAF H0 Ex fa)) ?_ fun σ H Q h=>kC h⟩;intro pins s σ H Q I h;refine wpAny_Call_Name_kw (du I hg hm ?_ hdb);refine PySem.W.callWith_K (h₀:=X.base) I.ok.mod.kin hk (thn (ha.go pos pins s σ H _ I h) fun us s1 ⟨vs,H1,I1,r,q⟩=>⟨I1.kIn,?_⟩) he hpl;have q:spF n F (vs++[]) H1 Q (fun _ _ _=>False):=q
 rw[List.append_nil] at q;have hl:us.length=ps.length:=by
  obtain ⟨Hs,ds,hl,_,R,_⟩:=q;rw[<- r.length,R.length,hl,hn]
 have hb':=hb s1 us I1.kIn (by rw[List.append_nil];exact hl);rw[List.append_nil] at hb';refine wpAny_call (codeAny_mono (G X.A X.stack s1 H1 ⟨us,[]⟩ us vs Q hr I1.env0 hb' r q) fun r s' hq=>?_)
 cases r with
 |error e=>exact hq.elim
 |ok fl=>
  cases fl with
  |ret u=>exact I1.after hq
  |next=>exact False.elim hq
  |brk=>exact False.elim hq
  |cont=>exact False.elim hq
end
section
variable {X:Cx}{Ex:Value->Prop}{H0:Hp}
theorem oK{o:Expr}{fo:ac->Res D}{j:Nat}{apos cpos p:Pos}(ho:FE X H0 Ex o fo)
    (hbase:attributeBase o "count" X.env (eval o X.env)=eval o X.env:=by rfl)
    (hfew:((backTo cpos (starEach [.Constant (.bool true) j p] X.env)).all (fun x=>!x.1)&&(backToKw cpos (keywordEach [] X.env)).all (fun x=>x.1.isSome)&&decide (([.Constant (.bool true) j p]:List Expr).length+([]:List Keyword).length+(if ([]:List Keyword).isEmpty then 0 else 1)<30))=true:=by rfl)
    (hline:(apos.endLine == cpos.line)=true:=by rfl) (hplain:(backTo cpos (starEach [] X.env)).any (·.1)=false:=by rfl) (hs1:starEach [.Constant (.bool true) j p] X.env=(false,eval (.Constant (.bool true) j p) X.env)::starEach [] X.env:=by rfl) :
    FE X H0 Ex (.Call (.Attribute o "count" apos) [.Constant (.bool true) j p] [] cpos) (iq fo):=by
 refine ⟨PE.pre (jh PySem.F.plainAttrs_list PySem.F.slot_list_count PySem.F.type_list_count oI ho.go (cv (mT (X:=X) (H0:=H0) (Ex:=Ex) (pos:=p) (i:=true) (j:=j)).go dj hs1) hbase hfew hline hs1 hplain) ?_⟩;rintro σ H Q ⟨Hs,ρ,ts,S,p⟩;refine ⟨Hs,ρ,ts,S,(Post.bind p).imp fun d1 _ p1 v1 H1 S1=>?_⟩;split at p1
 ·rename_i xs _
  split at p1
  ·rename_i bs hbs
   split at p1
   ·rename_i hc
    have S1:SR Hs H0 H1 (some v1::(tvs ts++σ)) (some (.lst .f xs)::(tds ts++ρ)):=S1;have hh:=S1.head
    cases hh with
    |lst q1 R=>
     rename_i a us _;refine ⟨.inl ⟨rfl,us,SqL.of q1⟩,Hs,ρ,(.ref a,.lst .f xs)::ts,S1,?_⟩;show ∀ v2 H2,SX Hs H0 H2 ((v2,.bl true)::(.ref a,.lst .f xs)::ts) σ ρ->_;intro v2 H2 S2;have S2:SR Hs H0 H2 (some v2::some (.ref a)::(tvs ts++σ)) (some (.bl true)::some (.lst .f xs)::(tds ts++ρ)):=S2;have h2:=S2.head
     cases h2
     have h3:=S2.drop.head
     cases h3 with
     |lst q3 R3=>
      refine ⟨a,bs,rfl,rfl,?_,p1 _ H2 S2.drop.drop.int⟩;rw[<- fL R3 hbs];exact SqL.of q3
   ·exact p1.elim
  ·exact p1.elim
 ·exact p1.elim
theorem oM{o:Expr}{fo:ac->Res D}{j:Nat}{apos cpos p:Pos}(ho:FE X H0 Ex o fo)
    (hbase:attributeBase o "index" X.env (eval o X.env)=eval o X.env:=by rfl)
    (hfew:((backTo cpos (starEach [.Constant (.bool true) j p] X.env)).all (fun x=>!x.1)&&(backToKw cpos (keywordEach [] X.env)).all (fun x=>x.1.isSome)&&decide (([.Constant (.bool true) j p]:List Expr).length+([]:List Keyword).length+(if ([]:List Keyword).isEmpty then 0 else 1)<30))=true:=by rfl)
    (hline:(apos.endLine == cpos.line)=true:=by rfl) (hplain:(backTo cpos (starEach [] X.env)).any (·.1)=false:=by rfl) (hs1:starEach [.Constant (.bool true) j p] X.env=(false,eval (.Constant (.bool true) j p) X.env)::starEach [] X.env:=by rfl) :
    FE X H0 Ex (.Call (.Attribute o "index" apos) [.Constant (.bool true) j p] [] cpos) (ir fo):=by
 refine ⟨PE.pre (jh PySem.F.plainAttrs_list PySem.F.slot_list_index PySem.F.type_list_index oJ ho.go (cv (mT (X:=X) (H0:=H0) (Ex:=Ex) (pos:=p) (i:=true) (j:=j)).go dj hs1) hbase hfew hline hs1 hplain) ?_⟩;rintro σ H Q ⟨Hs,ρ,ts,S,p⟩;refine ⟨Hs,ρ,ts,S,(Post.bind p).imp fun d1 _ p1 v1 H1 S1=>?_⟩;split at p1
 ·rename_i xs _
  split at p1
  ·rename_i bs hbs
   split at p1
   ·rename_i hc
    have S1:SR Hs H0 H1 (some v1::(tvs ts++σ)) (some (.lst .f xs)::(tds ts++ρ)):=S1;have hh:=S1.head
    cases hh with
    |lst q1 R=>
     rename_i a us _;refine ⟨.inl ⟨rfl,us,SqL.of q1⟩,Hs,ρ,(.ref a,.lst .f xs)::ts,S1,?_⟩;show ∀ v2 H2,SX Hs H0 H2 ((v2,.bl true)::(.ref a,.lst .f xs)::ts) σ ρ->_;intro v2 H2 S2;have S2:SR Hs H0 H2 (some v2::some (.ref a)::(tvs ts++σ)) (some (.bl true)::some (.lst .f xs)::(tds ts++ρ)):=S2;have h2:=S2.head
     cases h2
     have h3:=S2.drop.head
     cases h3 with
     |lst q3 R3=>
      refine ⟨a,bs,rfl,rfl,?_,hc.2,hc.1,p1 _ H2 S2.drop.drop.int⟩;rw[<- fL R3 hbs];exact SqL.of q3
   ·exact p1.elim
  ·exact p1.elim
 ·exact p1.elim
end
theorem gC{K:PySem.W.Frag}{C:Addr}(h1:PySem.W.findIn K (.ref C) "__getattribute__" = some (some (.builtin "BaseException.__getattribute__")))(h7:PySem.W.findIn K (.ref C) "__getattr__" = some none)(h8:PySem.W.mroIn K C (.type "BaseException")=some true)(h2:PySem.W.findIn K (.ref C) "__class__" = some (some (.builtin "object.__class__")))(h3:PySem.W.specialIn K (.builtin "object.__class__") "__get__" = some (some (.builtin "getset_descriptor.__get__")))(h4:PySem.W.takesIn K (.builtin "object.__class__")=some true)(h5:PySem.W.mroIn K C (.type "object")=some true):cq K C=true:=by
 have h6:(PySem.W.clsIn K C).isSome=true:=by
  obtain ⟨cd,e,_⟩:=Option.bind_eq_some_iff.mp h5;rw[e];rfl
 unfold cq;rw[h1,h2,h3,h4,h5,h6,h7,h8];decide
theorem al0{p:Addr->Prop}:∀ c∈([]:List Addr),p c:=fun _ m=>nomatch m
theorem al1{p:Addr->Prop}{x:Addr}{l:List Addr}(h:p x)(r:∀ c∈l,p c):∀ c∈x::l,p c:=fun c m=>by
 rcases List.mem_cons.mp m with rfl | m
 ·exact h
 ·exact r c m
theorem cI{K:PySem.W.Frag}{x y:Addr}(h:PySem.W.kitOne K (.ref x) (.ref y)=some false):x≠y:=by
 rintro rfl;unfold PySem.W.kitOne at h;rw[if_pos (by simp)] at h
 cases h
def iv(cs:List Addr)(i n:Nat)(gh g:ac->FOut):ac->FOut:=fun ρ=>match g ρ with
 | .exc (.ref c)=>if c∈cs then (match gh ((List.replicate n none).set i (some (.exc (.ref c)))) with
  | .rt d=>.rt d
  |_=>.bad) else .bad
 | .exc (.int k t)=>if 0<=k/\t=0/\k.toNat∈cs then (match gh ((List.replicate n none).set i (some (.exc (.ref k.toNat)))) with
  | .rt d=>.rt d
  |_=>.bad) else .bad
 | .exc _=>.bad
 |r=>r
section
variable {X:Cx}{pins:List (Addr × Obj)}{σ:St}{H H1:Hp}{s s1:Shared}{a:Addr}{φ:Heap->Prop}
theorem Inv.adopt(I:Inv X pins σ H s)(h0:H a=none)(hs:∀ o,X.s₀.heap.get? a=some o->a∈X.ex)(hl:a≠X.env.locals)(hc:∀ x c,X.env.cells.lookup x=some c->c≠a)(hp:∀ p∈X.pn++pins,p.1≠a)
    (hφ:φ s.heap/\(∃ o,s.heap.get? a=some o)/\∀ h1 h2:Heap,φ h1->(∀ o,h1.get? a=some o->h2.get? a=some o)->φ h2):Inv X pins σ (upd H a (.ext φ)) s:=by
 have up:∀ b o,H b=some o->upd H a (.ext φ) b=some o:=fun b o e=>by
  rw[aD fun z=>by rw[z,h0] at e;cases e];exact e
 refine ⟨I.ok,I.os,I.bare,⟨I.base.keep,I.base.slot,fun b o e n hx=>?_,I.base.there,fun b xs e=>up _ _ (I.base.tups b xs e),fun b o u e=>up _ _ (I.base.frzs b o u e),fun b ps e=>?_⟩,I.loc,I.cell,?_,fun x c e=>?_,fun p m=>?_,fun b ob e=>?_,I.len⟩
 ·rw[aD fun z=>by rw[z] at e hx;exact hx (hs o e)]
  exact I.base.free b o e n hx
 ·obtain ⟨m,z⟩:=I.base.tbls b ps e
  exact ⟨m,up _ _ z⟩
 ·rw[aD (Ne.symm hl)];exact I.free
 ·rw[aD (hc x c e)];exact I.freeC x c e
 ·obtain ⟨z1,z2,z3⟩:=I.pin p m
  exact ⟨z1,by rw[aD (hp p m)];exact z2,z3⟩
 ·by_cases hb:b=a
  ·subst hb
   rw[bc] at e
   cases e
   exact hφ
  ·rw[aD hb] at e
   exact (I.hok b ob e).stay (fun _ _ _ q=>q) (fun _ q=>up _ _ q) fun _ _ q=>up _ _ q
theorem Inv.forget(I:Inv X pins σ H s){i:Nat}{v:V}(h:σ[i]?=some (some v)):Inv X pins ((List.replicate X.N.length none).set i (some v)) H s:=by
 refine ⟨I.ok,I.os,I.bare,I.base,?_,I.cell,I.free,I.freeC,I.pin,I.hok,by simp⟩;obtain ⟨m,h1,h2⟩:=I.loc;refine ⟨m,h1,fun j y u e1 e2 e3=>?_⟩;by_cases hj:i=j
 ·subst hj
  rw[List.getElem?_set] at e2;simp only[if_true] at e2;split at e2
  ·cases e2
   exact h2 _ _ _ e1 h e3
  ·cases e2
 ·rw[List.getElem?_set_ne hj,List.getElem?_replicate] at e2
  split at e2<;>cases e2
end
theorem lE{Hs H:Hp}:∀ k:Nat,Own Hs H [] (List.replicate k none) (List.replicate k none)
 | 0=>.nil
 |k+1=>.skip (lE k)
theorem mr{Hs H:Hp}{v:V}{d:D}(r:Rep Hs v d)(ht:d.tag=.f):∀ (n i:Nat),Own Hs H [] ((List.replicate n none).set i (some v)) ((List.replicate n none).set i (some d))
 | 0,_=>.nil
 |n+1,0=>Own.cons (fp:=[]) (.fz r ht) (lE n)
 |n+1,i+1=>.skip (mr r ht n i)
theorem SR.unadopt{Hf H0 H:Hp}{a:Addr}{o:HO}{vs:List (Option V)}{ds:List (Option D)}(h0:H0 a=none)(hf:Hf a=none)(S:SR (upd Hf a o) H0 H vs ds):SR Hf H0 H vs ds:=by
 obtain ⟨Hg,fp,O,F⟩:=S;refine ⟨Hg,fp,O,F.nd,F.own,F.fh,F.zh,fun b u e=>F.sf b u ?_,fun b u e=>?_⟩
 ·rw[aD fun z=>by rw[z,hf] at e;cases e];exact e
 ·rcases F.new b u e with ⟨o',z⟩ | z
  ·by_cases hb:b=a
   ·subst hb;exact .inr h0
   ·rw[aD hb] at z;exact .inl ⟨o',z⟩
  ·exact .inr z
section
variable {X:Cx}{Ex:Value->Prop}{H0:Hp}{g gh:ac->FOut}{body hs:List Stmt}{st1:Stmt}{i:Nat}{n cn:Str}{W:Addr}{cs:List Addr}{p1 p7 pos:Pos}
theorem rL(hW:X.mg cn=some (.ref W))(hk:∀ c∈cs,PySem.W.exmOne X.K (.ref c) (.ref W)=some true)(hN:X.N.Nodup)(hi:X.N[i]?=some n)(hl:X.env.scope.names.lookup n=some .local)
    (hgC:Gl X cn) (hst:X.stack=X.env::X.outer) (hfl:X.env.frame=some X.env.locals) (hex:X.ex=[])
    (hb:∀ (E':Value->Shared->Prop) (pn':List (Addr × Obj)) (H0':Hp) (Ex':Value->Prop),Pa (Cx.att X E' pn') H0' Ex'->FSs (Cx.att X E' pn') H0' Ex' body g)
    (hh:∀ (a:Addr) (E':Value->Shared->Prop) (H0':Hp),FSs (Cx.han X a E') H0' (fun _=>False) (st1::hs) gh) (hdC:(cn == ("__debug__" : Str))=false:=by decide) :
    FS X H0 Ex (.Try body [.ExceptHandler (some (.Name cn p1)) (some n) (st1::hs) p7] [] [] pos) (iv cs i X.N.length gh g):=by
 refine ⟨?_⟩;intro pins s σ H En I h;obtain ⟨Hs,ρ,⟨S,nB⟩,p⟩:=h;obtain ⟨Hf,fp,Ow,F⟩:=S;refine wpAny_Try_except ?_
 let Eh:Value->Shared->Prop:=fun e s₁=>wpAny (model X.prog X.w) X.A (noteFrame e X.env) (fun _ s₂=>wpAny (model X.prog X.w) X.A (setFlight e none) (fun _ s₃=>wpAny (model X.prog X.w) X.A (handleBy e X.env [.ExceptHandler (some (.Name cn p1)) (some n) (st1::hs) p7]) (SP X pins En) X.xe s₃) X.xe s₂) X.xe s₁
 let ExB:Value->Prop:=fun C'=>∃ c:Addr,(C'=.ref c\/C'=.int (c:Int) 0)/\c∈cs/\∃ d,gh ((List.replicate X.N.length none).set i (some (.exc (.ref c))))=.rt d/\∀ v H',SR Hs H0 H' [some v] [some d]->En.rt v H';have hPa:Pa (Cx.att X Eh (X.pn++pins)) (b9 H fp) ExB:=by
  refine ⟨?_⟩;intro pins1 σ1 H1 s1 e s' I1 hx;obtain ⟨a,C',H',rfl,hos,bare,u,hok,⟨oe,vs,T,oT,ts,x1,x2',x3,x4,x5,x6,x7,x8,x9,x10,x11,x12⟩,⟨C,hCC,hcs,d,hgd,hrt⟩,sm⟩:=hx;have x2:oe.cls=.ref C:=XC.cls x2' hCC;have I1:Inv X pins σ1 H1 s1:=Inv.unatt I1;have u:Un (frs X.stack) [] H1 H' s1.heap s'.heap:=u;have FF:s'.heap.FunFrames X.base X.stack:=dz u (fun _ m=>m) (fun b m=>I1.stkFree b m) I1.stack
  show wpAny (model X.prog X.w) X.A (noteFrame (.ref a) X.env) _ X.xe s';have hsz:1<vs.size:=(Array.getElem?_eq_some_iff.mp x4).1;have h0:vs[0]?=some vs[0]:=Array.getElem?_eq_some_iff.mpr ⟨by omega,rfl⟩
  refine wpAny_looks_onW (base:=PySem.W.hideAll s'.heap (a::T::frs X.stack)) (outer:=X.outer) (L:=X.env.locals) (cls:=.ref C) (a0:=vs[0]) (by rw[I1.ok.frames,hst]) hfl ⟨fun b o e=>PySem.W.of_hideAll _ e,PySem.W.hideAll_none _ (by simp),?_,oe,vs,T,oT,ts,x1,⟨x2,h0⟩,x3,x4,PySem.W.hideAll_none _ (by simp),x5,x6,x7,x8⟩ fun h2' hh2 up2=>?_
  ·rw[<- hst]
   exact PySem.W.funFrames_hide FF fun env he b hb=>List.mem_cons_of_mem _ (List.mem_cons_of_mem _ (List.mem_filterMap.mpr ⟨env,he,hb⟩))
  refine wpAny_landsW (s:={ s' with heap:=h2' }) hh2 fun h3' fl3 up3=>?_;rw[<- hst] at fl3;have F3:Fly s'.heap X.stack a T (.ref C) h3':=⟨vs[0],fl3,up2.trans up3⟩
  have I3:Inv X pins σ1 H' { s' with heap:=h3',toks:=s'.toks }:=im I1 hos bare u hok x9 x10 x11 x12 F3;refine wpAny_handleBy_cons (codeAny_handlers_test ?_) (by intro q;cases q);refine du (X:=Cx.han X a X.xe) (Inv.han I3) hgC hW ?_ hdC;obtain ⟨st3,be3,ff3,tr3⟩:=id fl3;obtain ⟨oe3,he3,hcl3⟩:=tr3.at.there
  refine (PySem.W.exm_one (M:=model X.prog X.w) (e:=a) I3.kIn (hcl3 ▸ (PySem.W.Looks.ld he3).andThen .now) (hk C hcs)).here ?_;show codeAny _ _ (Code.handlers (.ref a) [.ExceptHandler none (some n) (st1::hs) p7] X.env) _ _;refine codeAny_handlers_suite_as ?_
  refine wpAny_setFlight_noneW (base:=PySem.W.hideAll s'.heap (a::T::frs X.stack)) (l:=X.stack) (s:={ s' with heap:=h3' }) st3 ff3 tr3.at fun h4' st4 ff4 tr4 k4=>?_;have F4:Fly s'.heap X.stack a T (.ref C) h4':=⟨vs[0],⟨st4,be3,ff4,tr4⟩,(up2.trans up3).trans fun b o e hn=>⟨o.slots,k4 b o e hn⟩⟩
  have I4:Inv X pins σ1 H' { s' with heap:=h4',toks:=s'.toks }:=im I1 hos bare u hok x9 x10 x11 x12 F4;obtain ⟨oe4,vs4,T4,oT4,ts4,he4,⟨hcl4,_⟩,hd4,_⟩:=id tr4;have na:∀ b o,s1.heap.get? b=some o->b≠a:=fun b o e z=>by rw[z,x11] at e;cases e
  have I5:Inv X pins σ1 (upd H' a (.ext fun h=>h.get? a=some oe4)) { s' with heap:=h4',toks:=s'.toks }:=by
   refine Inv.adopt I4 x9 (fun o e=>?_) ?_ (fun x c e=>?_) (fun q m=>?_) ⟨he4,⟨_,he4⟩,fun h1 h2 e k=>k _ e⟩
   ·obtain ⟨o',e'⟩:=I1.base.there a o e (by rw[hex];simp)
    rw[x11] at e';cases e'
   ·obtain ⟨m,⟨o,_,_,ho,_⟩,_⟩:=I1.loc
    exact (na _ _ ho).symm
   ·obtain ⟨v,o,ho,_⟩:=I1.cell x c e
    exact na _ _ ho
   ·exact na _ _ (I1.pin q m).1
  refine eX (X:=Cx.han X a X.xe) (Inv.han I5) hN hi (.inl hl) (v:=.ref a) rfl (fun s5 I6=>?_) (.inr hl);have hiσ:i<σ1.length:=by rw[I4.len];exact (List.getElem?_eq_some_iff.mp hi).1
  have I7:=Inv.forget I6 (v:=.ref a) (i:=i) (List.getElem?_set_self hiσ);have l0:b9 H fp a=none:=by
   cases e:b9 H fp a with
   |none=>rfl
   |some o=>have:=sm a o e;rw[x9] at this;cases this
  have f0:Hf a=none:=by
   cases e:Hf a with
   |none=>rfl
   |some o=>have:=F.notIn.1 a o e;rw[l0] at this;cases this
  have S7:SR (upd Hf a (.ext fun h=>h.get? a=some oe4)) (b9 H fp) (upd H' a (.ext fun h=>h.get? a=some oe4)) ((List.replicate X.N.length none).set i (some (.ref a))) ((List.replicate X.N.length none).set i (some (.exc (.ref C)))):=by
   refine ⟨_,[],mr (.exc bc fun h e=>⟨oe4,e,hcl4⟩) rfl _ _,List.nodup_nil,fun _ m=>by simp at m,fun b o e=>?_,fun b o e=>?_,Same.refl _,fun b o e=>.inl ⟨o,e⟩⟩
   ·by_cases hb:b=a
    ·subst hb;rw[bc] at e ⊢;exact e
    ·rw[aD hb] at e ⊢;exact sm b o (F.notIn.1 b o e)
   ·rw[aD fun z=>by rw[z,l0] at e;cases e];exact sm b o e
  refine thn ((hh a _ (b9 H fp)).go pins s5 _ _ { nx:=fun _ _=>False,rt:=fun v H6=>En.rt v H6,bk:=fun _ _=>False,ct:=fun _ _=>False } (Inv.han (Inv.unhan I7 I4.ok)) ⟨_,_,⟨S7,fun d m=>?_⟩,?_⟩) fun f s6 hq=>?_
  ·rcases List.mem_or_eq_of_mem_set m with m | m
   ·rw[List.mem_replicate] at m;cases m.2
   ·cases m;exact fun z=>nomatch z
  ·rw[hgd]
   exact fun v H6 S6=>hrt v H6 (SR.back F (SR.unadopt l0 f0 S6))
  ·cases f with
   |next=>obtain ⟨_,_,_,q⟩:=hq;exact q.elim
   |brk=>obtain ⟨_,_,_,q⟩:=hq;exact q.elim
   |cont=>obtain ⟨_,_,_,q⟩:=hq;exact q.elim
   |ret r=>
    obtain ⟨v,σ6,H6,I8,rv,q⟩:=hq;have I8:=Inv.unhan I8 I4.ok;obtain ⟨m6,hn6,_⟩:=id I8.loc;refine wpAny_nameGoes_keeps hl hn6 (by rw[I4.ok.kind];rfl) fun h7 v7 hn7 hs7=>?_;have I9:=Inv.gone (tk:=s6.toks+1) I8 hn7 hs7;exact ⟨v,_,H6,I9,rv,q⟩
 refine wpAny_mono ((hb Eh (X.pn++pins) (b9 H fp) ExB hPa).go [] s σ H En (Inv.att I) ⟨Hf,ρ,⟨⟨Hf,fp,Ow,F.nd,fun b m=>⟨(F.own b m).1,by unfold b9;rw[if_pos m]⟩,F.fh,jv,Same.refl _,fun b o e=>.inl ⟨o,e⟩⟩,nB⟩,?_⟩) (fun f s1 q=>?_) fun _ _ z=>z
 ·unfold iv at p
  cases eg:g ρ with
  |nx ρ'=>rw[eg] at p;exact fun σ' H' S'=>p σ' H' ⟨SR.back F S'.1,S'.2⟩
  |rt d=>rw[eg] at p;exact fun v H' S'=>p v H' (SR.back F S')
  |bk ρ'=>rw[eg] at p;exact fun σ' H' S'=>p σ' H' ⟨SR.back F S'.1,S'.2⟩
  |ct ρ'=>rw[eg] at p;exact fun σ' H' S'=>p σ' H' ⟨SR.back F S'.1,S'.2⟩
  |bad=>rw[eg] at p;exact p
  |exc C'=>
   rw[eg] at p;have fin:∀ {r:FOut},PostS Hs H0 Ex En (match r with | .rt d=>.rt d | _=>.bad)->∃ d,r=.rt d/\∀ v H',SR Hs H0 H' [some v] [some d]->En.rt v H':=fun {r} z=>by
    cases r with
    |rt d=>exact ⟨d,rfl,z⟩
    |_=>exact z.elim
   cases C' with
   |ref c=>
    by_cases hc:c∈cs
    ·simp only[if_pos hc] at p
     obtain ⟨d,e1,e2⟩:=fin p;exact ⟨c,.inl rfl,hc,d,e1,e2⟩
    ·simp only[if_neg hc] at p
     exact p.elim
   |int k t=>
    by_cases hc:0<=k/\t=0/\k.toNat∈cs
    ·simp only[if_pos hc] at p
     obtain ⟨d,e1,e2⟩:=fin p;refine ⟨k.toNat,.inr ?_,hc.2.2,d,e1,e2⟩;rw[hc.2.1,Int.toNat_of_nonneg hc.1]
    ·simp only[if_neg hc] at p
     exact p.elim
   |_=>exact p.elim
 ·have q:=SP.unatt q
  cases f with
  |next=>exact wpAny_execs_nil q
  |ret v=>exact q
  |brk=>exact q
  |cont=>exact q
end
def i9:D->D->Res D:=fun x y=>match x,y with
 | .lst t xs,.int j=>match D.its (.lst t xs) with
  |some xs'=>if -(2 ^ 63)<=j/\j<2 ^ 63/\xs'.length*j.toNat<=1000 then .ok (.lst .o (List.replicate j.toNat xs').flatten) else .bad
  |_=>.bad
 |_,_=>.bad
theorem qg:∀ x y,noX (i9 x y)=true:=by
 intro x y;unfold i9;split
 ·split
  ·split<;>rfl
  ·rfl
 ·rfl
theorem ub{X:Cx}:FOp X (binaryOp .Mult) i9:=by
 refine ⟨OpR.pre tD ?_⟩;rintro x y H Q ⟨Hs,H0,vs,ds,d1,d2,d,S,e,k⟩;unfold i9 at e;split at e
 ·rename_i t xs j
  split at e
  ·rename_i xs' hx
   split at e
   ·rename_i hc
    cases e
    cases SR.isInt S
    obtain ⟨Hf,fp,O,F⟩:=S.drop;obtain ⟨a1,us1,rfl,e1,Hk,fr,O2,F2,s2,R1⟩:=O.items F hx;refine ⟨a1,j,us1,rfl,rfl,e1,hc.1,hc.2.1,by rw[R1.length];exact Nat.le_trans hc.2.2 (by decide),fun p hp=>k _ _ ?_⟩;refine SR.laidL O2 F2 (R1.rep j.toNat) (fun z m=>?_) hp;obtain ⟨l,m1,m2⟩:=List.mem_flatten.mp m;rw[List.mem_replicate] at m1;rw[m1.2] at m2;exact D.its_tag hx z m2
   ·cases e
  ·cases e
 ·cases e
end Mi
namespace Lw
open PySem PySem.Spec L2 Mi
open PyProof.Rows hiding St
def top(i:Nat):Stmt:=PySem.Challenge.pw_lonewalks_k17_refusals_apart.main.body.getD i (.Pass ⟨0,0,0,0⟩)
def eN(i j:Nat):Stmt:=match top i with
 | .ClassDef _ _ _ b _ _ _ _ _ _ _=>b.getD j (.Pass ⟨0,0,0,0⟩)
 |_=>.Pass ⟨0,0,0,0⟩
structure Ads where
 BadCompany:Addr
 BadNet:Addr
 BadWalk:Addr
 NoNumber:Addr
 WalkError:Addr
 Net:Addr
def Dis(a:Ads):Prop:=a.BadCompany≠a.BadNet/\a.BadCompany≠a.BadWalk/\a.BadCompany≠a.NoNumber/\a.BadNet≠a.BadCompany/\a.BadNet≠a.BadWalk/\a.BadNet≠a.NoNumber/\a.BadWalk≠a.BadCompany/\a.BadWalk≠a.BadNet/\a.BadWalk≠a.NoNumber/\a.NoNumber≠a.BadCompany/\a.NoNumber≠a.BadNet/\a.NoNumber≠a.BadWalk
structure Bl (K:PySem.W.Frag) (mg:Str->Option Value) (a:Ads):Prop where
 b_ValueError:mg "ValueError" = none
 b_all:mg "all" = none
 b_enumerate:mg "enumerate" = none
 b_isinstance:mg "isinstance" = none
 b_len:mg "len" = none
 b_list:mg "list" = none
 b_min:mg "min" = none
 b_range:mg "range" = none
 b_sorted:mg "sorted" = none
 b_zip:mg "zip" = none
 c_MOST_SIDE:∃ t,mg "MOST_SIDE" = some (.int 8 t)
 c_MOST_WALKERS:∃ t,mg "MOST_WALKERS" = some (.int 4 t)
 c_MOST_WEIGHT:∃ t,mg "MOST_WEIGHT" = some (.int 1000 t)
 x_BadCompany:XCls K mg "BadCompany" a.BadCompany
 x_BadNet:XCls K mg "BadNet" a.BadNet
 x_BadWalk:XCls K mg "BadWalk" a.BadWalk
 x_NoNumber:XCls K mg "NoNumber" a.NoNumber
 x_WalkError:XCls K mg "WalkError" a.WalkError
 q_BadCompany:cq K a.BadCompany=true
 q_BadNet:cq K a.BadNet=true
 q_BadWalk:cq K a.BadWalk=true
 q_NoNumber:cq K a.NoNumber=true
 kx_BadCompany_BadCompany:PySem.W.kitOne K (.ref a.BadCompany) (.ref a.BadCompany)=some true
 kx_BadCompany_BadNet:PySem.W.kitOne K (.ref a.BadCompany) (.ref a.BadNet)=some false
 kx_BadCompany_BadWalk:PySem.W.kitOne K (.ref a.BadCompany) (.ref a.BadWalk)=some false
 kx_BadCompany_NoNumber:PySem.W.kitOne K (.ref a.BadCompany) (.ref a.NoNumber)=some false
 kx_BadCompany_ValueError:PySem.W.kitOne K (.ref a.BadCompany) (.type "ValueError")=some true
 kx_BadCompany_WalkError:PySem.W.kitOne K (.ref a.BadCompany) (.ref a.WalkError)=some true
 kx_BadNet_BadCompany:PySem.W.kitOne K (.ref a.BadNet) (.ref a.BadCompany)=some false
 kx_BadNet_BadNet:PySem.W.kitOne K (.ref a.BadNet) (.ref a.BadNet)=some true
 kx_BadNet_BadWalk:PySem.W.kitOne K (.ref a.BadNet) (.ref a.BadWalk)=some false
 kx_BadNet_NoNumber:PySem.W.kitOne K (.ref a.BadNet) (.ref a.NoNumber)=some false
 kx_BadNet_ValueError:PySem.W.kitOne K (.ref a.BadNet) (.type "ValueError")=some true
 kx_BadNet_WalkError:PySem.W.kitOne K (.ref a.BadNet) (.ref a.WalkError)=some true
 kx_BadWalk_BadCompany:PySem.W.kitOne K (.ref a.BadWalk) (.ref a.BadCompany)=some false
 kx_BadWalk_BadNet:PySem.W.kitOne K (.ref a.BadWalk) (.ref a.BadNet)=some false
 kx_BadWalk_BadWalk:PySem.W.kitOne K (.ref a.BadWalk) (.ref a.BadWalk)=some true
 kx_BadWalk_NoNumber:PySem.W.kitOne K (.ref a.BadWalk) (.ref a.NoNumber)=some false
 kx_BadWalk_ValueError:PySem.W.kitOne K (.ref a.BadWalk) (.type "ValueError")=some true
 kx_BadWalk_WalkError:PySem.W.kitOne K (.ref a.BadWalk) (.ref a.WalkError)=some true
 kx_NoNumber_BadCompany:PySem.W.kitOne K (.ref a.NoNumber) (.ref a.BadCompany)=some false
 kx_NoNumber_BadNet:PySem.W.kitOne K (.ref a.NoNumber) (.ref a.BadNet)=some false
 kx_NoNumber_BadWalk:PySem.W.kitOne K (.ref a.NoNumber) (.ref a.BadWalk)=some false
 kx_NoNumber_NoNumber:PySem.W.kitOne K (.ref a.NoNumber) (.ref a.NoNumber)=some true
 kx_NoNumber_ValueError:PySem.W.kitOne K (.ref a.NoNumber) (.type "ValueError")=some true
 kx_NoNumber_WalkError:PySem.W.kitOne K (.ref a.NoNumber) (.ref a.WalkError)=some true
 m_BadCompany_WalkError:PySem.W.exmOne K (.ref a.BadCompany) (.ref a.WalkError)=some true
 m_BadNet_WalkError:PySem.W.exmOne K (.ref a.BadNet) (.ref a.WalkError)=some true
 m_BadWalk_WalkError:PySem.W.exmOne K (.ref a.BadWalk) (.ref a.WalkError)=some true
 m_NoNumber_WalkError:PySem.W.exmOne K (.ref a.NoNumber) (.ref a.WalkError)=some true
 cl_Net:Cls K a.Net
 na_Net_columns:NoAttr K a.Net "columns"
 na_Net_ends:NoAttr K a.Net "ends"
 na_Net_right:NoAttr K a.Net "right"
 na_Net_rows:NoAttr K a.Net "rows"
 na_Net_starts:NoAttr K a.Net "starts"
 na_Net_up:NoAttr K a.Net "up"
variable {P:Program}{w:World}{K:PySem.W.Frag}{mg:Str->Option Value}{base:Heap}{a:Ads}
def dL(a:Ads):ac->FOut:=
 (gIf (b8 (ftB (bw (fun i j=>decide (i<=j)) (fun i j=>decide (i<=j)) (fC (.int 1)) (ad 0) (fC (.int 8))))) (fun _=>.exc (.ref a.BadNet)) aV)
def bV(a:Ads):List D->Res D:=aJ 1 (dL a)
theorem gJ:FnScope ["length"] ["length"] (am (top 10)):=⟨rfl,rfl,rfl,by decide +kernel,rfl,by decide +kernel,by decide +kernel⟩
theorem kR(B:Bl K mg a)(U:Df K mg "check_side" (top 10) ["length"])  : Cal P w K mg base "check_side" 1 (bV a) 1:=by
 refine a8 (k:=0) (N:=["length"]) U gJ fun f cdv A outer s H E Ex hE hr=>?_;have sc:=gJ;exact (au (bi (dk (dY dD dD ai (af 0 (mv 0)) (jY rfl B.c_MOST_SIDE.choose_spec ⟨_,rfl⟩))) (au (bN B.x_BadNet hE rfl)) ba))
def eK(a:Ads):ac->FOut:=
 (az (gIf (ft2 (cU true) (fCB bq (aa (ad 0) ag)) (ad 1)) (fun _=>.exc (.ref a.BadNet)) aV)
 (dW (bA (ad 0)) (aB 3) (az (gIf (ft2 (cU true) (fCB bq (aa (ad 3) ag)) (ad 2)) (fun _=>.exc (.ref a.BadNet)) aV)
 (gIf (b8 (ftB (fCB gX (aa (aT 1 [] (bA (ad 3)) (aB 0) aO (bw (fun i j=>decide (i<=j)) (fun i j=>decide (i<=j)) (fC (.int 0)) (ad 0) (fC (.int 1000)))) ag)))) (fun _=>.exc (.ref a.BadNet)) aV))))
def b5(a:Ads):List D->Res D:=aJ 4 (eK a)
theorem ge:FnScope ["lists", "count", "length", "weights"] ["lists", "count", "length"] (am (top 11)):=⟨rfl,rfl,rfl,by decide +kernel,rfl,by decide +kernel,by decide +kernel⟩
theorem j4(B:Bl K mg a)(U:Df K mg "check_steps" (top 11) ["lists", "count", "length"])  : Cal P w K mg base "check_steps" 3 (b5 a) 1:=by
 refine a8 (k:=0) (N:=["lists", "count", "length", "weights"]) U ge fun f cdv A outer s H E Ex hE hr=>?_;have sc:=ge;exact (ao (bi (bg f9 (dr _) (bd cc bC rfl B.b_len (by decide +kernel) (ae (af 0 (mv 0)) aj)) (af 1 (mv 1)) (a7 _)) (au (bN B.x_BadNet hE rfl)) ba)
  (au (f8 ik rfl (eD (af 0 (mv 0))) (bL (i:=3) sc.nd rfl (.inl rfl)) (ao (bi (bg f9 (dr _) (bd cc bC rfl B.b_len (by decide +kernel) (ae (af 3 (mv 3)) aj)) (af 2 (mv 2)) (a7 _)) (au (bN B.x_BadNet hE rfl)) ba)
  (au (bi (dk (jq (bd (tW rfl) pX rfl B.b_all (by decide +kernel) (ae (dX rfl (CompScope.of (own:=["weight"]) (cap:=[]) rfl (by decide +kernel) rfl rfl (by decide +kernel)) (eD (af 3 (mv 3))) (fun C cells s0 H0 ex pn hN=>⟨(bL (i:=0) hN rfl (by first | exact Or.inl rfl | exact Or.inr rfl)),cy,(i7 dD dD ai (af 0 (mv 0)) (jY rfl B.c_MOST_WEIGHT.choose_spec ⟨_,rfl⟩))⟩)) aj)))) (au (bN B.x_BadNet hE rfl)) ba))))))
def dZ(a:Ads):ac->FOut:=
 (az (gIf (b8 (ftB (bw (fun i j=>decide (i<=j)) (fun i j=>decide (i<=j)) (fC (.int 1)) (fCB bq (aa (ad 0) ag)) (fC (.int 4))))) (fun _=>.exc (.ref a.BadNet)) aV)
 (az (aE 2 (fFz (f1 gu (fC (.int 1)))))
 (dW (bA (ad 0)) (aB 3) (az (gIf (b8 (ftB (bw (fun i j=>decide (i<j)) (fun i j=>decide (i<j)) (ad 2) (ad 3) (ad 1)))) (fun _=>.exc (.ref a.BadNet)) aV)
 (aE 2 (fFz (ad 3)))))))
def bP(a:Ads):List D->Res D:=aJ 4 (dZ a)
theorem fM:FnScope ["chosen", "rows", "last", "row"] ["chosen", "rows"] (am (top 12)):=⟨rfl,rfl,rfl,by decide +kernel,rfl,by decide +kernel,by decide +kernel⟩
theorem jA(B:Bl K mg a)(U:Df K mg "check_border" (top 12) ["chosen", "rows"])  : Cal P w K mg base "check_border" 2 (bP a) 1:=by
 refine a8 (k:=0) (N:=["chosen", "rows", "last", "row"]) U fM fun f cdv A outer s H E Ex hE hr=>?_;have sc:=fM;exact (ao (bi (dk (dY dD dD ai (bd cc bC rfl B.b_len (by decide +kernel) (ae (af 0 (mv 0)) aj)) (jY rfl B.c_MOST_WALKERS.choose_spec ⟨_,rfl⟩))) (au (bN B.x_BadNet hE rfl)) ba)
  (ao (aS (i:=2) sc.nd rfl (.inl rfl) (bu (js ai)))
  (au (f8 ik rfl (eD (af 0 (mv 0))) (bL (i:=3) sc.nd rfl (.inl rfl)) (ao (bi (dk (dY fG fG (af 2 (mv 2)) (af 3 (mv 3)) (af 1 (mv 1)))) (au (bN B.x_BadNet hE rfl)) ba)
  (au (aS (i:=2) sc.nd rfl (.inl rfl) (bu (af 3 (mv 3))))))))))
def jB(a:Ads):ac->FOut:=
 (az (bx (al 1 (bV a) (aa (fCB bq (aa (ad 1) ag)) ag)))
 (az (aE 5 (fFz (fCB bq (aa (ad 1) ag))))
 (az (aE 6 (fFz (f2 aX (fCB bq (aa (f2 dIx (ad 1) (fC (.int 0))) ag)) (fC (.int 1)))))
 (az (bx (al 1 (bV a) (aa (ad 6) ag)))
 (az (bx (al 3 (b5 a) (aa (ad 1) (aa (ad 5) (aa (f2 de (ad 6) (fC (.int 1))) ag)))))
 (az (bx (al 3 (b5 a) (aa (ad 2) (aa (f2 de (ad 5) (fC (.int 1))) (aa (ad 6) ag)))))
 (az (bx (al 2 (bP a) (aa (ad 3) (aa (ad 5) ag))))
 (az (bx (al 2 (bP a) (aa (ad 4) (aa (ad 5) ag))))
 (az (gIf (ft2 (cU true) (fCB bq (aa (ad 3) ag)) (fCB bq (aa (ad 4) ag))) (fun _=>.exc (.ref a.BadNet)) aV)
 (az (dg 0 a.Net "right" (aT 1 [] (bA (ad 1)) (aB 0) aO (fCB bF (aa (ad 0) ag))))
 (az (dg 0 a.Net "up" (aT 1 [] (bA (ad 2)) (aB 0) aO (fCB bF (aa (ad 0) ag))))
 (az (dg 0 a.Net "starts" (fCB bF (aa (ad 3) ag)))
 (az (dg 0 a.Net "ends" (fCB bF (aa (ad 4) ag)))
 (az (dg 0 a.Net "columns" (ad 6))
 (dg 0 a.Net "rows" (ad 5))))))))))))))))
def eO(a:Ads):Addr->List D->Res (List (Str × D)):=cj a.Net 7 (jB a)
theorem oN:FnScope ["self", "right", "up", "starts", "ends", "rows", "columns"] ["self", "right", "up", "starts", "ends"] (am (eN 13 0)):=⟨rfl,rfl,rfl,by decide +kernel,rfl,by decide +kernel,by decide +kernel⟩
theorem uc(B:Bl K mg a)(U:∃ f fd,Fun K "__init__" "Net.__init__" (eN 13 0) f fd/\mg "Net" = some (.ref a.Net)/\Mk K a.Net f/\Binds K fd ["self", "right", "up", "starts", "ends"] [])(c_check_border:Cal P w K mg base "check_border" 2 (bP a) 1)(c_check_side:Cal P w K mg base "check_side" 1 (bV a) 1)(c_check_steps:Cal P w K mg base "check_steps" 3 (b5 a) 1):Mak P w K mg base "Net" a.Net 4 (eO a) 2:=by
 refine u9 (k:=1) (N:=["self", "right", "up", "starts", "ends", "rows", "columns"]) U oN rfl fun f cdv A outer s H H0 E Ex hE hr=>?_;have sc:=oN;exact (ao (bW (ax c_check_side (aQ hE) (hr.mono (by decide)) rfl (ae (bd cc bC rfl B.b_len (by decide +kernel) (ae (af 1 (mv 1)) aj)) aj)))
  (ao (aS (i:=5) sc.nd rfl (.inl rfl) (bu (bd cc bC rfl B.b_len (by decide +kernel) (ae (af 1 (mv 1)) aj))))
  (ao (aS (i:=6) sc.nd rfl (.inl rfl) (bu (aH bG aZ (bd cc bC rfl B.b_len (by decide +kernel) (ae (bS (af 1 (mv 1)) ai) aj)) ai)))
  (ao (bW (ax c_check_side (aQ hE) (hr.mono (by decide)) rfl (ae (af 6 (mv 6)) aj)))
  (ao (bW (ax c_check_steps (aQ hE) (hr.mono (by decide)) rfl (ae (af 1 (mv 1)) (ae (af 5 (mv 5)) (ae (aH gT (aP _ _) (af 6 (mv 6)) ai) aj)))))
  (ao (bW (ax c_check_steps (aQ hE) (hr.mono (by decide)) rfl (ae (af 2 (mv 2)) (ae (aH gT (aP _ _) (af 5 (mv 5)) ai) (ae (af 6 (mv 6)) aj)))))
  (ao (bW (ax c_check_border (aQ hE) (hr.mono (by decide)) rfl (ae (af 3 (mv 3)) (ae (af 5 (mv 5)) aj))))
  (ao (bW (ax c_check_border (aQ hE) (hr.mono (by decide)) rfl (ae (af 4 (mv 4)) (ae (af 5 (mv 5)) aj))))
  (ao (bi (bg f9 (dr _) (bd cc bC rfl B.b_len (by decide +kernel) (ae (af 3 (mv 3)) aj)) (bd cc bC rfl B.b_len (by decide +kernel) (ae (af 4 (mv 4)) aj)) (a7 _)) (au (bN B.x_BadNet hE rfl)) ba)
  (ao (gc (mv 0) (dX rfl (CompScope.of (own:=["weights"]) (cap:=[]) rfl (by decide +kernel) rfl rfl (by decide +kernel)) (eD (af 1 (mv 1))) (fun C cells s0 H0 ex pn hN=>⟨(bL (i:=0) hN rfl (by first | exact Or.inl rfl | exact Or.inr rfl)),cy,(cT dy cD rfl B.b_list (by decide +kernel) (ae (af 0 (mv 0)) aj))⟩)) B.cl_Net B.na_Net_right)
  (ao (gc (mv 0) (dX rfl (CompScope.of (own:=["weights"]) (cap:=[]) rfl (by decide +kernel) rfl rfl (by decide +kernel)) (eD (af 2 (mv 2))) (fun C cells s0 H0 ex pn hN=>⟨(bL (i:=0) hN rfl (by first | exact Or.inl rfl | exact Or.inr rfl)),cy,(cT dy cD rfl B.b_list (by decide +kernel) (ae (af 0 (mv 0)) aj))⟩)) B.cl_Net B.na_Net_up)
  (ao (gc (mv 0) (cT dy cD rfl B.b_list (by decide +kernel) (ae (af 3 (mv 3)) aj)) B.cl_Net B.na_Net_starts)
  (ao (gc (mv 0) (cT dy cD rfl B.b_list (by decide +kernel) (ae (af 4 (mv 4)) aj)) B.cl_Net B.na_Net_ends)
  (ao (gc (mv 0) (af 6 (mv 6)) B.cl_Net B.na_Net_columns)
  (au (gc (mv 0) (af 5 (mv 5)) B.cl_Net B.na_Net_rows))))))))))))))))
def kD(a:Ads):ac->FOut:=
 (bj (mX (bw (fun i j=>decide (i<=j)) (fun i j=>decide (i<j)) (fC (.int 0)) (ad 1) (f1 (bO a.Net "columns") (ad 0))) (bw (fun i j=>decide (i<=j)) (fun i j=>decide (i<j)) (fC (.int 0)) (ad 2) (f1 (bO a.Net "rows") (ad 0)))))
def eG(a:Ads):List D->Res D:=aJ 3 (kD a)
theorem jC:FnScope ["net", "x", "y"] ["net", "x", "y"] (am (top 14)):=⟨rfl,rfl,rfl,by decide +kernel,rfl,by decide +kernel,by decide +kernel⟩
theorem ni(B:Bl K mg a)(U:Df K mg "lies_on" (top 14) ["net", "x", "y"])  : Cal P w K mg base "lies_on" 3 (eG a) 1:=by
 refine a8 (k:=0) (N:=["net", "x", "y"]) U jC fun f cdv A outer s H E Ex hE hr=>?_;have sc:=jC;exact (au (bn (tN (i7 dD fG ai (af 1 (mv 1)) (ce (af 0 (mv 0)) B.cl_Net B.na_Net_columns)) (tM (i7 dD fG ai (af 2 (mv 2)) (ce (af 0 (mv 0)) B.cl_Net B.na_Net_rows))))))
def gK(a:Ads):ac->FOut:=
 (az (gIf (jr (ft2 dEq (ad 3) (fC (.str "r"))) (ft2 dLt (f2 aX (ad 1) (fC (.int 1))) (f1 (bO a.Net "columns") (ad 0)))) (bj (f2 dIx (f2 dIx (f1 (bO a.Net "right") (ad 0)) (ad 2)) (ad 1))) aV)
 (az (gIf (jr (ft2 dEq (ad 3) (fC (.str "u"))) (ft2 dLt (f2 aX (ad 2) (fC (.int 1))) (f1 (bO a.Net "rows") (ad 0)))) (bj (f2 dIx (f2 dIx (f1 (bO a.Net "up") (ad 0)) (ad 2)) (ad 1))) aV)
 (bj (fC (.int 0)))))
def bB(a:Ads):List D->Res D:=aJ 4 (gK a)
theorem gf:FnScope ["net", "x", "y", "letter"] ["net", "x", "y", "letter"] (am (top 15)):=⟨rfl,rfl,rfl,by decide +kernel,rfl,by decide +kernel,by decide +kernel⟩
theorem j5(B:Bl K mg a)(U:Df K mg "step_weight" (top 15) ["net", "x", "y", "letter"])  : Cal P w K mg base "step_weight" 4 (bB a) 1:=by
 refine a8 (k:=0) (N:=["net", "x", "y", "letter"]) U gf fun f cdv A outer s H E Ex hE hr=>?_;have sc:=gf;exact (ao (bi (FW.ft (n9 (bg (cP (hu4 hr)) bX (af 3 (mv 3)) f6 (a7 _)) (mn (bg mU (aP _ _) (aH bG aZ (af 1 (mv 1)) ai) (ce (af 0 (mv 0)) B.cl_Net B.na_Net_columns) (a7 _))))) (au (bn (bS (bS (ce (af 0 (mv 0)) B.cl_Net B.na_Net_right) (af 2 (mv 2))) (af 1 (mv 1))))) ba)
  (ao (bi (FW.ft (n9 (bg (cP (hu4 hr)) bX (af 3 (mv 3)) f6 (a7 _)) (mn (bg mU (aP _ _) (aH bG aZ (af 2 (mv 2)) ai) (ce (af 0 (mv 0)) B.cl_Net B.na_Net_rows) (a7 _))))) (au (bn (bS (bS (ce (af 0 (mv 0)) B.cl_Net B.na_Net_up) (af 2 (mv 2))) (af 1 (mv 1))))) ba)
  (au (bn ai))))
def gi(a:Ads):ac->FOut:=
 (bj (fIf (ft2 dEq (ad 2) (fC (.str "r"))) (eJ (aa (f2 aX (ad 0) (fC (.int 1))) (aa (ad 1) ag))) (eJ (aa (ad 0) (aa (f2 aX (ad 1) (fC (.int 1))) ag)))))
def cA(a:Ads):List D->Res D:=aJ 3 (gi a)
theorem fN:FnScope ["x", "y", "letter"] ["x", "y", "letter"] (am (top 16)):=⟨rfl,rfl,rfl,by decide +kernel,rfl,by decide +kernel,by decide +kernel⟩
theorem jD(B:Bl K mg a)(U:Df K mg "place_behind" (top 16) ["x", "y", "letter"])  : Cal P w K mg base "place_behind" 3 (cA a) 1:=by
 refine a8 (k:=0) (N:=["x", "y", "letter"]) U fN fun f cdv A outer s H E Ex hE hr=>?_;have sc:=fN;exact (au (bn (pO (bg (cP (hu4 hr)) bX (af 2 (mv 2)) f6 (a7 _)) (gU (ae (aH bG aZ (af 0 (mv 0)) ai) (ae (af 1 (mv 1)) aj))) (gU (ae (af 0 (mv 0)) (ae (aH bG aZ (af 1 (mv 1)) ai) aj))))))
def gD(a:Ads):ac->FOut:=
 (az (gIf (b8 (ftB (al 3 (eG a) (aa (ad 0) (aa (ad 1) (aa (ad 2) ag)))))) (fun _=>.exc (.ref a.BadWalk)) aV)
 (az (aE 4 (bT (aa (eJ (aa (ad 1) (aa (ad 2) ag))) ag)))
 (az (dW (bA (ad 3)) (aB 5) (az (aE 6 (fFz (f2 dIx (ad 4) (f1 gu (fC (.int 1))))))
 (az (gIf (ft2 dEq (al 4 (bB a) (aa (ad 0) (aa (f2 dIx (ad 6) (fC (.int 0))) (aa (f2 dIx (ad 6) (fC (.int 1))) (aa (ad 5) ag))))) (fC (.int 0))) (fun _=>.exc (.ref a.BadWalk)) aV)
 (eU 4 (al 3 (cA a) (aa (f2 dIx (ad 6) (fC (.int 0))) (aa (f2 dIx (ad 6) (fC (.int 1))) (aa (ad 5) ag))))))))
 (mV 4))))
def cf(a:Ads):List D->Res D:=aJ 7 (gD a)
theorem kE:FnScope ["net", "x", "y", "walk", "found", "letter", "place"] ["net", "x", "y", "walk"] (am (top 19)):=⟨rfl,rfl,rfl,by decide +kernel,rfl,by decide +kernel,by decide +kernel⟩
theorem oO(B:Bl K mg a)(U:Df K mg "places" (top 19) ["net", "x", "y", "walk"])(c_lies_on:Cal P w K mg base "lies_on" 3 (eG a) 1)(c_place_behind:Cal P w K mg base "place_behind" 3 (cA a) 1)(c_step_weight:Cal P w K mg base "step_weight" 4 (bB a) 1):Cal P w K mg base "places" 4 (cf a) 2:=by
 refine a8 (k:=1) (N:=["net", "x", "y", "walk", "found", "letter", "place"]) U kE fun f cdv A outer s H E Ex hE hr=>?_;have sc:=kE;exact (ao (bi (dk (jq (ax c_lies_on (aQ hE) (hr.mono (by decide)) rfl (ae (af 0 (mv 0)) (ae (af 1 (mv 1)) (ae (af 2 (mv 2)) aj)))))) (au (bN B.x_BadWalk hE rfl)) ba)
  (ao (aS (i:=4) sc.nd rfl (.inl rfl) (cw (ae (gU (ae (af 1 (mv 1)) (ae (af 2 (mv 2)) aj))) aj)))
  (ao (f8 ik rfl (eD (af 3 (mv 3))) (bL (i:=5) sc.nd rfl (.inl rfl)) (ao (aS (i:=6) sc.nd rfl (.inl rfl) (bu (bS (af 4 (mv 4)) (js ai))))
  (ao (bi (bg (cP (hu4 hr)) bX (ax c_step_weight (aQ hE) (hr.mono (by decide)) rfl (ae (af 0 (mv 0)) (ae (bS (af 6 (mv 6)) ai) (ae (bS (af 6 (mv 6)) ai) (ae (af 5 (mv 5)) aj))))) ai (a7 _)) (au (bN B.x_BadWalk hE rfl)) ba)
  (au (oh (mv 4) (ax c_place_behind (aQ hE) (hr.mono (by decide)) rfl (ae (bS (af 6 (mv 6)) ai) (ae (bS (af 6 (mv 6)) ai) (ae (af 5 (mv 5)) aj)))))))))
  (au (rj 4 (mv 4))))))
def ja(a:Ads):ac->FOut:=
 (az (aE 4 (fFz (fC (.int 1))))
 (az (dW (ip (aa (al 4 (cf a) (aa (ad 0) (aa (ad 1) (aa (ad 2) (aa (ad 3) ag))))) (aa (ad 3) ag))) (gp [5,6]) (aE 4 (fFz (f2 ci (ad 4) (al 4 (bB a) (aa (ad 0) (aa (f2 dIx (ad 5) (fC (.int 0))) (aa (f2 dIx (ad 5) (fC (.int 1))) (aa (ad 6) ag)))))))))
 (bj (ad 4))))
def fu(a:Ads):List D->Res D:=aJ 7 (ja a)
theorem kF:FnScope ["net", "x", "y", "walk", "product", "place", "letter"] ["net", "x", "y", "walk"] (am (top 20)):=⟨rfl,rfl,rfl,by decide +kernel,rfl,by decide +kernel,by decide +kernel⟩
theorem oP(B:Bl K mg a)(U:Df K mg "weight" (top 20) ["net", "x", "y", "walk"])(c_places:Cal P w K mg base "places" 4 (cf a) 2)(c_step_weight:Cal P w K mg base "step_weight" 4 (bB a) 1):Cal P w K mg base "weight" 4 (fu a) 3:=by
 refine a8 (k:=2) (N:=["net", "x", "y", "walk", "product", "place", "letter"]) U kF fun f cdv A outer s H E Ex hE hr=>?_;have sc:=kF;exact (ao (aS (i:=4) sc.nd rfl (.inl rfl) (bu ai))
  (ao (f8 ik rfl (tZ rfl B.b_zip (ae (ax c_places (aQ hE) (hr.mono (by decide)) rfl (ae (af 0 (mv 0)) (ae (af 1 (mv 1)) (ae (af 2 (mv 2)) (ae (af 3 (mv 3)) aj))))) (ae (af 3 (mv 3)) aj))) (nZ (is:=[5,6]) rfl (gq (i:=5) (ig (i:=5) sc.nd rfl (.inl rfl)) (gq (i:=6) (ig (i:=6) sc.nd rfl (.inl rfl)) ml))) (au (aS (i:=4) sc.nd rfl (.inl rfl) (bu (aH dw (aP _ _) (af 4 (mv 4)) (ax c_step_weight (aQ hE) (hr.mono (by decide)) rfl (ae (af 0 (mv 0)) (ae (bS (af 5 (mv 5)) ai) (ae (bS (af 5 (mv 5)) ai) (ae (af 6 (mv 6)) aj))))))))))
  (au (bn (af 4 (mv 4))))))
def ms(a:Ads):ac->FOut:=
 (az (gIf (j0 (b8 (ftB (bw (fun i j=>decide (i<=j)) (fun i j=>decide (i<j)) (fC (.int 0)) (ad 1) (fCB bq (aa (f1 (bO a.Net "starts") (ad 0)) ag))))) (b8 (ftB (bw (fun i j=>decide (i<=j)) (fun i j=>decide (i<j)) (fC (.int 0)) (ad 2) (fCB bq (aa (f1 (bO a.Net "ends") (ad 0)) ag)))))) (fun _=>.exc (.ref a.BadWalk)) aV)
 (fun _=>.bad))
def iw(a:Ads):List D->Res D:=aJ 8 (ms a)
theorem lF:FnScope ["net", "one", "other", "low", "goal", "ahead", "x", "y"] ["net", "one", "other"] (am (top 21)):=⟨rfl,rfl,rfl,by decide +kernel,rfl,by decide +kernel,by decide +kernel⟩
theorem qh(B:Bl K mg a)(U:Df K mg "walks" (top 21) ["net", "one", "other"])  : Cal P w K mg base "walks" 3 (iw a) 1:=by
 refine a8 (k:=0) (N:=["net", "one", "other", "low", "goal", "ahead", "x", "y"]) U lF fun f cdv A outer s H E Ex hE hr=>?_;have sc:=lF
 exact (ao (bi (FW.ft (mW (dk (dY dD fG ai (af 1 (mv 1)) (bd cc bC rfl B.b_len (by decide +kernel) (ae (ce (af 0 (mv 0)) B.cl_Net B.na_Net_starts) aj)))) (n8 (dk (dY dD fG ai (af 2 (mv 2)) (bd cc bC rfl B.b_len (by decide +kernel) (ae (ce (af 0 (mv 0)) B.cl_Net B.na_Net_ends) aj))))))) (au (bN B.x_BadWalk hE rfl)) ba)
  eE)
def eH(a:Ads):ac->FOut:=
 (jx a.BadWalk a.BadCompany (bj (al 4 (cf a) (aa (ad 0) (aa (fC (.int 0)) (aa (f2 dIx (f1 (bO a.Net "starts") (ad 0)) (ad 1)) (aa (ad 2) ag)))))))
def bE(a:Ads):List D->Res D:=aJ 3 (eH a)
theorem dS:FnScope ["net", "walker", "walk"] ["net", "walker", "walk"] (am (top 24)):=⟨rfl,rfl,rfl,by decide +kernel,rfl,by decide +kernel,by decide +kernel⟩
theorem gO(B:Bl K mg a)(U:Df K mg "places_of_walker" (top 24) ["net", "walker", "walk"])(c_places:Cal P w K mg base "places" 4 (cf a) 2):Cal P w K mg base "places_of_walker" 3 (bE a) 3:=by
 refine a8 (k:=2) (N:=["net", "walker", "walk"]) U dS fun f cdv A outer s H E Ex hE hr=>?_;have sc:=dS;exact (au (rH B.x_BadWalk B.x_BadCompany hE rfl rfl (fun E2 pn2 H2 Ex2 hx=>(au (bn (ax c_places hx (hr.mono (by decide)) rfl (ae (af 0 (mv 0)) (ae ai (ae (bS (ce (af 0 (mv 0)) B.cl_Net B.na_Net_starts) (af 1 (mv 1))) (ae (af 2 (mv 2)) aj))))))))))
def lG(a:Ads):ac->FOut:=
 (fun _=>.bad)
def fw(a:Ads):List D->Res D:=aJ 2 (lG a)
theorem gL:FnScope ["net", "tracks"] ["net", "tracks"] (am (top 26)):=⟨rfl,rfl,rfl,by decide +kernel,rfl,by decide +kernel,by decide +kernel⟩
theorem kS(B:Bl K mg a)(U:Df K mg "ends_taken" (top 26) ["net", "tracks"])  : Cal P w K mg base "ends_taken" 2 (fw a) 1:=by
 refine a8 (k:=0) (N:=["net", "tracks"]) U gL fun f cdv A outer s H E Ex hE hr=>?_;have sc:=gL;exact eE
def dM(a:Ads):ac->FOut:=
 (az (gIf (ft2 (cU true) (fCB bq (aa (ad 1) ag)) (fCB bq (aa (f1 (bO a.Net "starts") (ad 0)) ag))) (fun _=>.exc (.ref a.BadCompany)) aV)
 (az (aE 2 (fFz (jz 2 [0] (jw (aa (ad 1) ag)) (gp [0,1]) aO (al 3 (bE a) (aa (ad 2) (aa (ad 0) (aa (ad 1) ag)))))))
 (fun _=>.bad)))
def aU(a:Ads):List D->Res D:=aJ 4 (dM a)
theorem fy:FnScope ["net", "company", "tracks", "taken"] ["net", "company"] (am (top 27)):=⟨rfl,rfl,rfl,by decide +kernel,rfl,by decide +kernel,by decide +kernel⟩
theorem jb(B:Bl K mg a)(U:Df K mg "places_of_all" (top 27) ["net", "company"])(c_places_of_walker:Cal P w K mg base "places_of_walker" 3 (bE a) 3):Cal P w K mg base "places_of_all" 2 (aU a) 4:=by
 refine a8 (k:=3) (N:=["net", "company", "tracks", "taken"]) U fy fun f cdv A outer s H E Ex hE hr=>?_;have sc:=fy;exact (ao (bi (bg f9 (dr _) (bd cc bC rfl B.b_len (by decide +kernel) (ae (af 1 (mv 1)) aj)) (bd cc bC rfl B.b_len (by decide +kernel) (ae (ce (af 0 (mv 0)) B.cl_Net B.na_Net_starts) aj)) (a7 _)) (au (bN B.x_BadCompany hE rfl)) ba)
  (ao (ii (lY (i:=2) hE sc.nd rfl (.inl rfl) rfl (CompScope.of (own:=["walker", "walk"]) (cap:=[("net", 0)]) rfl (by decide +kernel) rfl rfl (by decide +kernel)) (rG rfl B.b_enumerate (ae (af 1 (mv 1)) aj)) (fun C cells s0 H0 ex pn xe2 Ex2 hN hx2=>⟨(nZ (is:=[0,1]) rfl (gq (i:=0) (ig (i:=0) hN rfl (.inl rfl)) (gq (i:=1) (ig (i:=1) hN rfl (.inl rfl)) ml))),cy,(ax c_places_of_walker hx2 (hr.mono (by decide)) rfl (ae (af 2 (mv 2)) (ae (af 0 (mv 0)) (ae (af 1 (mv 1)) aj))))⟩)))
  eE))
def mw(a:Ads):ac->FOut:=
 (bj (al 2 (fw a) (aa (ad 0) (aa (al 2 (aU a) (aa (ad 0) (aa (ad 1) ag))) ag))))
def iy(a:Ads):List D->Res D:=aJ 2 (mw a)
theorem lH:FnScope ["net", "company"] ["net", "company"] (am (top 28)):=⟨rfl,rfl,rfl,by decide +kernel,rfl,by decide +kernel,by decide +kernel⟩
theorem qi(B:Bl K mg a)(U:Df K mg "order" (top 28) ["net", "company"])(c_ends_taken:Cal P w K mg base "ends_taken" 2 (fw a) 1)(c_places_of_all:Cal P w K mg base "places_of_all" 2 (aU a) 4):Cal P w K mg base "order" 2 (iy a) 5:=by
 refine a8 (k:=4) (N:=["net", "company"]) U lH fun f cdv A outer s H E Ex hE hr=>?_;have sc:=lH;exact (au (bn (ax c_ends_taken (aQ hE) (hr.mono (by decide)) rfl (ae (af 0 (mv 0)) (ae (ax c_places_of_all (aQ hE) (hr.mono (by decide)) rfl (ae (af 0 (mv 0)) (ae (af 1 (mv 1)) aj))) aj)))))
def fP(a:Ads):ac->FOut:=
 (az (aE 2 (fFz (al 2 (aU a) (aa (ad 0) (aa (ad 1) ag)))))
 (fun _=>.bad))
def bY(a:Ads):List D->Res D:=aJ 7 (fP a)
theorem fA:FnScope ["net", "company", "tracks", "walker", "track", "place", "other"] ["net", "company"] (am (top 30)):=⟨rfl,rfl,rfl,by decide +kernel,rfl,by decide +kernel,by decide +kernel⟩
theorem jc(B:Bl K mg a)(U:Df K mg "first_meeting" (top 30) ["net", "company"])(c_places_of_all:Cal P w K mg base "places_of_all" 2 (aU a) 4):Cal P w K mg base "first_meeting" 2 (bY a) 5:=by
 refine a8 (k:=4) (N:=["net", "company", "tracks", "walker", "track", "place", "other"]) U fA fun f cdv A outer s H E Ex hE hr=>?_;have sc:=fA;exact (ao (aS (i:=2) sc.nd rfl (.inl rfl) (bu (ax c_places_of_all (aQ hE) (hr.mono (by decide)) rfl (ae (af 0 (mv 0)) (ae (af 1 (mv 1)) aj)))))
  eE)
def iN(a:Ads):ac->FOut:=
 (az (aE 2 (fFz (al 2 (bY a) (aa (ad 0) (aa (ad 1) ag)))))
 (fun _=>.bad))
def ej(a:Ads):List D->Res D:=aJ 8 (iN a)
theorem gZ:FnScope ["net", "company", "meeting", "one", "other", "cut_one", "cut_other", "changed"] ["net", "company"] (am (top 32)):=⟨rfl,rfl,rfl,by decide +kernel,rfl,by decide +kernel,by decide +kernel⟩
theorem lI(B:Bl K mg a)(U:Df K mg "exchanged" (top 32) ["net", "company"])(c_first_meeting:Cal P w K mg base "first_meeting" 2 (bY a) 5):Cal P w K mg base "exchanged" 2 (ej a) 6:=by
 refine a8 (k:=5) (N:=["net", "company", "meeting", "one", "other", "cut_one", "cut_other", "changed"]) U gZ fun f cdv A outer s H E Ex hE hr=>?_;have sc:=gZ;exact (ao (aS (i:=2) sc.nd rfl (.inl rfl) (bu (ax c_first_meeting (aQ hE) (hr.mono (by decide)) rfl (ae (af 0 (mv 0)) (ae (af 1 (mv 1)) aj)))))
  eE)
def nj(a:Ads):ac->FOut:=
 (fun _=>.bad)
def gE(a:Ads):List D->Res D:=aJ 3 (nj a)
theorem iO:FnScope ["net", "right", "up"] ["net"] (am (top 42)):=⟨rfl,rfl,rfl,by decide +kernel,rfl,by decide +kernel,by decide +kernel⟩
theorem lZ(B:Bl K mg a)(U:Df K mg "how_many" (top 42) ["net"])  : Cal P w K mg base "how_many" 1 (gE a) 1:=by
 refine a8 (k:=0) (N:=["net", "right", "up"]) U iO fun f cdv A outer s H E Ex hE hr=>?_;have sc:=iO;exact eE
def g6(a:Ads):ac->FOut:=
 (az (gIf (b8 (ftB (bw (fun i j=>decide (i<=j)) (fun i j=>decide (i<j)) (fC (.int 0)) (ad 1) (al 1 (gE a) (aa (ad 0) ag))))) (fun _=>.exc (.ref a.NoNumber)) aV)
 (fun _=>.bad))
def dN(a:Ads):List D->Res D:=aJ 6 (g6 a)
theorem gM:FnScope ["net", "number", "search", "company", "start", "end"] ["net", "number"] (am (top 49)):=⟨rfl,rfl,rfl,by decide +kernel,rfl,by decide +kernel,by decide +kernel⟩
theorem kT(B:Bl K mg a)(U:Df K mg "company_at" (top 49) ["net", "number"])(c_how_many:Cal P w K mg base "how_many" 1 (gE a) 1):Cal P w K mg base "company_at" 2 (dN a) 2:=by
 refine a8 (k:=1) (N:=["net", "number", "search", "company", "start", "end"]) U gM fun f cdv A outer s H E Ex hE hr=>?_;have sc:=gM;exact (ao (bi (dk (dY dD fG ai (af 1 (mv 1)) (ax c_how_many (aQ hE) (hr.mono (by decide)) rfl (ae (af 0 (mv 0)) aj)))) (au (bN B.x_NoNumber hE rfl)) ba)
  eE)
def iP(a:Ads):ac->FOut:=
 (az (gIf (ft2 (ly true) (al 2 (bY a) (aa (ad 0) (aa (ad 1) ag))) (fC .non)) (fun _=>.exc (.ref a.BadCompany)) aV)
 (fun _=>.bad))
def ek(a:Ads):List D->Res D:=aJ 8 (iP a)
theorem g9:FnScope ["net", "company", "number", "left", "start", "walk", "place", "letter"] ["net", "company"] (am (top 50)):=⟨rfl,rfl,rfl,by decide +kernel,rfl,by decide +kernel,by decide +kernel⟩
theorem lJ(B:Bl K mg a)(U:Df K mg "number_of" (top 50) ["net", "company"])(c_first_meeting:Cal P w K mg base "first_meeting" 2 (bY a) 5):Cal P w K mg base "number_of" 2 (ek a) 6:=by
 refine a8 (k:=5) (N:=["net", "company", "number", "left", "start", "walk", "place", "letter"]) U g9 fun f cdv A outer s H E Ex hE hr=>?_;have sc:=g9;exact (ao (bi (bg rD (pT _) (ax c_first_meeting (aQ hE) (hr.mono (by decide)) rfl (ae (af 0 (mv 0)) (ae (af 1 (mv 1)) aj))) tG (a7 _)) (au (bN B.x_BadCompany hE rfl)) ba)
  eE)
def ee(a:Ads):ac->FOut:=
 (az (gIf (ft2 dLt (ad 1) (fCB bq (aa (ad 0) ag))) (bj (f2 dIx (ad 0) (ad 1))) aV)
 (bj (fC (.int 0))))
def av(a:Ads):List D->Res D:=aJ 2 (ee a)
theorem fQ:FnScope ["script", "k"] ["script", "k"] (am (top 52)):=⟨rfl,rfl,rfl,by decide +kernel,rfl,by decide +kernel,by decide +kernel⟩
theorem jE(B:Bl K mg a)(U:Df K mg "_law_cell_at" (top 52) ["script", "k"])  : Cal P w K mg base "_law_cell_at" 2 (av a) 1:=by
 refine a8 (k:=0) (N:=["script", "k"]) U fQ fun f cdv A outer s H E Ex hE hr=>?_;have sc:=fQ;exact (ao (bi (bg mU (aP _ _) (af 1 (mv 1)) (bd cc bC rfl B.b_len (by decide +kernel) (ae (af 0 (mv 0)) aj)) (a7 _)) (au (bn (bS (af 0 (mv 0)) (af 1 (mv 1))))) ba)
  (au (bn ai)))
def jF(a:Ads):ac->FOut:=
 (az (aE 3 (fFz (bT (aa (fC (.int 48271)) (aa (fC (.int 69621)) (aa (fC (.int 16807)) (aa (fC (.int 39373)) (aa (fC (.int 30269)) (aa (fC (.int 40014)) (aa (fC (.int 40692)) (aa (fC (.int 50021)) (aa (fC (.int 61687)) (aa (fC (.int 71993)) (aa (fC (.int 83869)) (aa (fC (.int 95561)) (aa (fC (.int 30307)) ag))))))))))))))))
 (az (aE 4 (fFz (f2 ci (f2 aX (f2 b7 (ad 0) (fC (.int 2147483647))) (fC (.int 12345))) (f2 dIx (ad 3) (f2 b7 (ad 1) (fC (.int 13)))))))
 (az (aE 4 (fFz (f2 aX (f2 ci (ad 4) (f2 aX (f2 ci (fC (.int 2)) (f2 jl (ad 1) (fC (.int 13)))) (fC (.int 1)))) (f2 ci (fC (.int 977)) (ad 1)))))
 (bj (f2 b7 (f2 jl (f2 b7 (ad 4) (fC (.int 1000000007))) (fC (.int 7))) (ad 2))))))
def br(a:Ads):List D->Res D:=aJ 5 (jF a)
theorem iQ:FnScope ["cell", "k", "many", "some", "number"] ["cell", "k", "many"] (am (top 53)):=⟨rfl,rfl,rfl,by decide +kernel,rfl,by decide +kernel,by decide +kernel⟩
theorem l4(B:Bl K mg a)(U:Df K mg "_law_mix" (top 53) ["cell", "k", "many"])  : Cal P w K mg base "_law_mix" 3 (br a) 1:=by
 refine a8 (k:=0) (N:=["cell", "k", "many", "some", "number"]) U iQ fun f cdv A outer s H E Ex hE hr=>?_;have sc:=iQ;exact (ao (aS (i:=3) sc.nd rfl (.inl rfl) (bu (cw (ae ai (ae ai (ae ai (ae ai (ae ai (ae ai (ae ai (ae ai (ae ai (ae ai (ae ai (ae ai (ae ai aj))))))))))))))))
  (ao (aS (i:=4) sc.nd rfl (.inl rfl) (bu (aH dw (aP _ _) (aH bG aZ (aH cR (aP _ _) (af 0 (mv 0)) ai) ai) (bS (af 3 (mv 3)) (aH cR (aP _ _) (af 1 (mv 1)) ai)))))
  (ao (aS (i:=4) sc.nd rfl (.inl rfl) (bu (aH bG aZ (aH dw (aP _ _) (af 4 (mv 4)) (aH bG aZ (aH dw (aP _ _) ai (aH mj (aP _ _) (af 1 (mv 1)) ai)) ai)) (aH dw (aP _ _) ai (af 1 (mv 1))))))
  (au (bn (aH cR (aP _ _) (aH mj (aP _ _) (aH cR (aP _ _) (af 4 (mv 4)) ai) ai) (af 2 (mv 2))))))))
def eh(a:Ads):ac->FOut:=
 (az (aE 3 (cL (aa (ad 2) ag)))
 (az (aE 4 (bT ag))
 (az (dW (b4 (aa (ad 1) ag)) (aB 5) (cM 4 3 (al 3 (br a) (aa (ad 0) (aa (f2 ci (fC (.int 7)) (ad 5)) (aa (fCB bq (aa (ad 3) ag)) ag))))))
 (bj (fCB cF (aa (ad 4) ag))))))
def bt(a:Ads):List D->Res D:=aJ 6 (eh a)
theorem fR:FnScope ["cell", "many", "rows", "left", "found", "k"] ["cell", "many", "rows"] (am (top 54)):=⟨rfl,rfl,rfl,by decide +kernel,rfl,by decide +kernel,by decide +kernel⟩
theorem jG(B:Bl K mg a)(U:Df K mg "_law_rows_by" (top 54) ["cell", "many", "rows"])(c__law_mix:Cal P w K mg base "_law_mix" 3 (br a) 1):Cal P w K mg base "_law_rows_by" 3 (bt a) 2:=by
 refine a8 (k:=1) (N:=["cell", "many", "rows", "left", "found", "k"]) U fR fun f cdv A outer s H E Ex hE hr=>?_;have sc:=fR;exact (ao (aS (i:=3) sc.nd rfl (.inl rfl) (kx rfl rfl B.b_range rfl B.b_list (ae (af 2 (mv 2)) aj)))
  (ao (aS (i:=4) sc.nd rfl (.inl rfl) (cw aj))
  (ao (f8 ik rfl (cS rfl B.b_range (ae (af 1 (mv 1)) aj)) (bL (i:=5) sc.nd rfl (.inl rfl)) (au (ou (mv 4) (mv 3) (ax c__law_mix (aQ hE) (hr.mono (by decide)) rfl (ae (af 0 (mv 0)) (ae (aH dw (aP _ _) ai (af 5 (mv 5))) (ae (bd cc bC rfl B.b_len (by decide +kernel) (ae (af 3 (mv 3)) aj)) aj)))))))
  (au (bn (bd m4 lw rfl B.b_sorted (by decide +kernel) (ae (af 4 (mv 4)) aj)))))))
def c9(a:Ads):ac->FOut:=
 (az (aE 3 (fFz (al 3 (br a) (aa (ad 0) (aa (ad 1) (aa (ad 2) ag))))))
 (az (gIf (ft2 dEq (ad 3) (fC (.int 0))) (bj (fC (.int 0))) aV)
 (az (gIf (ft2 dEq (ad 3) (fC (.int 1))) (bj (f2 dIx (bT (aa (fC (.int 1000)) (aa (f2 b7 (ad 0) (fC (.int 1001))) ag))) (al 3 (br a) (aa (ad 0) (aa (f2 aX (ad 1) (fC (.int 500))) (aa (fC (.int 2)) ag)))))) aV)
 (bj (f2 aX (fC (.int 1)) (al 3 (br a) (aa (ad 0) (aa (f2 aX (ad 1) (fC (.int 900))) (aa (fC (.int 5)) ag)))))))))
def bb(a:Ads):List D->Res D:=aJ 4 (c9 a)
theorem fS:FnScope ["cell", "k", "shut", "kind"] ["cell", "k", "shut"] (am (top 55)):=⟨rfl,rfl,rfl,by decide +kernel,rfl,by decide +kernel,by decide +kernel⟩
theorem jH(B:Bl K mg a)(U:Df K mg "_law_step_by" (top 55) ["cell", "k", "shut"])(c__law_mix:Cal P w K mg base "_law_mix" 3 (br a) 1):Cal P w K mg base "_law_step_by" 3 (bb a) 2:=by
 refine a8 (k:=1) (N:=["cell", "k", "shut", "kind"]) U fS fun f cdv A outer s H E Ex hE hr=>?_;have sc:=fS;exact (ao (aS (i:=3) sc.nd rfl (.inl rfl) (bu (ax c__law_mix (aQ hE) (hr.mono (by decide)) rfl (ae (af 0 (mv 0)) (ae (af 1 (mv 1)) (ae (af 2 (mv 2)) aj))))))
  (ao (bi (bg (cP (hu4 hr)) bX (af 3 (mv 3)) ai (a7 _)) (au (bn ai)) ba)
  (ao (bi (bg (cP (hu4 hr)) bX (af 3 (mv 3)) ai (a7 _)) (au (bn (bS (cw (ae ai (ae (aH cR (aP _ _) (af 0 (mv 0)) ai) aj))) (ax c__law_mix (aQ hE) (hr.mono (by decide)) rfl (ae (af 0 (mv 0)) (ae (aH bG aZ (af 1 (mv 1)) ai) (ae ai aj))))))) ba)
  (au (bn (aH bG aZ ai (ax c__law_mix (aQ hE) (hr.mono (by decide)) rfl (ae (af 0 (mv 0)) (ae (aH bG aZ (af 1 (mv 1)) ai) (ae ai aj))))))))))
def dO(a:Ads):ac->FOut:=
 (az (aE 4 (fFz (f2 aX (fC (.int 1)) (f2 b7 (al 2 (av a) (aa (ad 0) (aa (fC (.int 0)) ag))) (ad 1)))))
 (az (aE 5 (fFz (f2 aX (fC (.int 1)) (f2 b7 (al 2 (av a) (aa (ad 0) (aa (fC (.int 1)) ag))) (ad 1)))))
 (az (aE 6 (fFz (al 2 (av a) (aa (ad 0) (aa (fC (.int 2)) ag)))))
 (az (aE 7 (fFz (aT 1 [3,4,6] (b4 (aa (ad 5) ag)) (aB 0) aO (aT 1 [0,1,3] (b4 (aa (f2 de (ad 2) (fC (.int 1))) ag)) (aB 0) aO (cz 3 (bb a) (aa (ad 3) (aa (f2 aX (f2 ci (fC (.int 10)) (ad 1)) (ad 0)) (aa (ad 2) ag))))))))
 (az (aE 6 (fFz (al 2 (av a) (aa (ad 0) (aa (fC (.int 3)) ag)))))
 (az (aE 8 (fFz (aT 1 [3,4,6] (b4 (aa (f2 de (ad 5) (fC (.int 1))) ag)) (aB 0) aO (aT 1 [0,1,3] (b4 (aa (ad 2) ag)) (aB 0) aO (cz 3 (bb a) (aa (ad 3) (aa (f2 aX (f2 aX (fC (.int 200)) (f2 ci (fC (.int 10)) (ad 1))) (ad 0)) (aa (ad 2) ag))))))))
 (az (aE 9 (fFz (f2 aX (fC (.int 1)) (f2 b7 (al 2 (av a) (aa (ad 0) (aa (fC (.int 4)) ag))) (fCB gv (aa (ad 2) (aa (ad 5) ag)))))))
 (az (aE 10 (fFz (al 3 (bt a) (aa (al 2 (av a) (aa (ad 0) (aa (fC (.int 5)) ag))) (aa (ad 9) (aa (ad 5) ag))))))
 (az (aE 11 (fFz (al 3 (bt a) (aa (al 2 (av a) (aa (ad 0) (aa (fC (.int 6)) ag))) (aa (ad 9) (aa (ad 5) ag))))))
 (az (gIf (ft2 dGt (f2 b7 (al 2 (av a) (aa (ad 0) (aa (fC (.int 7)) ag))) (fC (.int 3))) (fC (.int 0))) (az (aE 10 (fFz (cL (aa (ad 9) ag))))
 (aE 11 (fFz (aT 1 [5,9] (b4 (aa (ad 9) ag)) (aB 0) aO (f2 aX (f2 de (ad 1) (ad 2)) (ad 0)))))) aV)
 (bj (eJ (aa (ad 7) (aa (ad 8) (aa (ad 10) (aa (ad 11) ag))))))))))))))))
def bZ(a:Ads):List D->Res D:=aJ 12 (dO a)
theorem fB:FnScope ["script", "most", "walkers", "shut", "columns", "rows", "cell", "right", "up", "many", "starts", "ends"] ["script", "most", "walkers", "shut"] (am (top 56)):=⟨rfl,rfl,rfl,by decide +kernel,rfl,by decide +kernel,by decide +kernel⟩
theorem jd(B:Bl K mg a)(U:Df K mg "_law_parts_by" (top 56) ["script", "most", "walkers", "shut"])(c__law_cell_at:Cal P w K mg base "_law_cell_at" 2 (av a) 1)(c__law_rows_by:Cal P w K mg base "_law_rows_by" 3 (bt a) 2)(c__law_step_by:Cal P w K mg base "_law_step_by" 3 (bb a) 2):Cal P w K mg base "_law_parts_by" 4 (bZ a) 3:=by
 refine a8 (k:=2) (N:=["script", "most", "walkers", "shut", "columns", "rows", "cell", "right", "up", "many", "starts", "ends"]) U fB fun f cdv A outer s H E Ex hE hr=>?_;have sc:=fB;exact (ao (aS (i:=4) sc.nd rfl (.inr rfl) (bu (aH bG aZ ai (aH cR (aP _ _) (ax c__law_cell_at (aQ hE) (hr.mono (by decide)) rfl (ae (af 0 (mv 0)) (ae ai aj))) (af 1 (mv 1))))))
  (ao (aS (i:=5) sc.nd rfl (.inr rfl) (bu (aH bG aZ ai (aH cR (aP _ _) (ax c__law_cell_at (aQ hE) (hr.mono (by decide)) rfl (ae (af 0 (mv 0)) (ae ai aj))) (af 1 (mv 1))))))
  (ao (aS (i:=6) sc.nd rfl (.inr rfl) (bu (ax c__law_cell_at (aQ hE) (hr.mono (by decide)) rfl (ae (af 0 (mv 0)) (ae ai aj)))))
  (ao (ii (gr (i:=7) sc.nd rfl (.inl rfl) rfl (CompScope.of (own:=["y"]) (cap:=[("shut", 3),("columns", 4),("cell", 6)]) rfl (by decide +kernel) rfl rfl (by decide +kernel)) (cS rfl B.b_range (ae (af 5 (mv 5)) aj)) (fun C cells s0 H0 ex pn hN=>⟨(bL (i:=0) hN rfl (by first | exact Or.inl rfl | exact Or.inr rfl)),cy,(dX rfl (CompScope.of (own:=["x"]) (cap:=[("y", 0),("shut", 1),("cell", 3)]) rfl (by decide +kernel) rfl rfl (by decide +kernel)) (cS rfl B.b_range (ae (aH gT (aP _ _) (af 2 (mv 2)) ai) aj)) (fun C cells s0 H0 ex pn hN=>⟨(bL (i:=0) hN rfl (by first | exact Or.inl rfl | exact Or.inr rfl)),cy,(lB c__law_step_by (hr.mono (by decide)) rfl (ae (af 3 (mv 3)) (ae (aH bG aZ (aH dw (aP _ _) ai (af 1 (mv 1))) (af 0 (mv 0))) (ae (af 2 (mv 2)) aj))))⟩))⟩)))
  (ao (aS (i:=6) sc.nd rfl (.inr rfl) (bu (ax c__law_cell_at (aQ hE) (hr.mono (by decide)) rfl (ae (af 0 (mv 0)) (ae ai aj)))))
  (ao (ii (gr (i:=8) sc.nd rfl (.inl rfl) rfl (CompScope.of (own:=["y"]) (cap:=[("shut", 3),("columns", 4),("cell", 6)]) rfl (by decide +kernel) rfl rfl (by decide +kernel)) (cS rfl B.b_range (ae (aH gT (aP _ _) (af 5 (mv 5)) ai) aj)) (fun C cells s0 H0 ex pn hN=>⟨(bL (i:=0) hN rfl (by first | exact Or.inl rfl | exact Or.inr rfl)),cy,(dX rfl (CompScope.of (own:=["x"]) (cap:=[("y", 0),("shut", 1),("cell", 3)]) rfl (by decide +kernel) rfl rfl (by decide +kernel)) (cS rfl B.b_range (ae (af 2 (mv 2)) aj)) (fun C cells s0 H0 ex pn hN=>⟨(bL (i:=0) hN rfl (by first | exact Or.inl rfl | exact Or.inr rfl)),cy,(lB c__law_step_by (hr.mono (by decide)) rfl (ae (af 3 (mv 3)) (ae (aH bG aZ (aH bG aZ ai (aH dw (aP _ _) ai (af 1 (mv 1)))) (af 0 (mv 0))) (ae (af 2 (mv 2)) aj))))⟩))⟩)))
  (ao (aS (i:=9) sc.nd rfl (.inr rfl) (bu (aH bG aZ ai (aH cR (aP _ _) (ax c__law_cell_at (aQ hE) (hr.mono (by decide)) rfl (ae (af 0 (mv 0)) (ae ai aj))) (bd (rn rfl) og rfl B.b_min (by decide +kernel) (ae (af 2 (mv 2)) (ae (af 5 (mv 5)) aj)))))))
  (ao (aS (i:=10) sc.nd rfl (.inl rfl) (bu (ax c__law_rows_by (aQ hE) (hr.mono (by decide)) rfl (ae (ax c__law_cell_at (aQ hE) (hr.mono (by decide)) rfl (ae (af 0 (mv 0)) (ae ai aj))) (ae (af 9 (mv 9)) (ae (af 5 (mv 5)) aj))))))
  (ao (aS (i:=11) sc.nd rfl (.inl rfl) (bu (ax c__law_rows_by (aQ hE) (hr.mono (by decide)) rfl (ae (ax c__law_cell_at (aQ hE) (hr.mono (by decide)) rfl (ae (af 0 (mv 0)) (ae ai aj))) (ae (af 9 (mv 9)) (ae (af 5 (mv 5)) aj))))))
  (ao (bi (bg u6 (aP _ _) (aH cR (aP _ _) (ax c__law_cell_at (aQ hE) (hr.mono (by decide)) rfl (ae (af 0 (mv 0)) (ae ai aj))) ai) ai (a7 _)) (ao (aS (i:=10) sc.nd rfl (.inl rfl) (bu (kx rfl rfl B.b_range rfl B.b_list (ae (af 9 (mv 9)) aj))))
  (au (ii (gr (i:=11) sc.nd rfl (.inl rfl) rfl (CompScope.of (own:=["k"]) (cap:=[("rows", 5),("many", 9)]) rfl (by decide +kernel) rfl rfl (by decide +kernel)) (cS rfl B.b_range (ae (af 9 (mv 9)) aj)) (fun C cells s0 H0 ex pn hN=>⟨(bL (i:=0) hN rfl (by first | exact Or.inl rfl | exact Or.inr rfl)),cy,(aH bG aZ (aH gT (aP _ _) (af 1 (mv 1)) (af 2 (mv 2))) (af 0 (mv 0)))⟩))))) ba)
  (au (bn (gU (ae (af 7 (mv 7)) (ae (af 8 (mv 8)) (ae (af 10 (mv 10)) (ae (af 11 (mv 11)) aj)))))))))))))))))
def jI(a:Ads):ac->FOut:=
 (az (pU 1 2 (aa (aT 1 [] (bA (f2 dIx (ad 0) (fC (.int 0)))) (aB 0) aO (fCB bF (aa (ad 0) ag))) (aa (aT 1 [] (bA (f2 dIx (ad 0) (fC (.int 1)))) (aB 0) aO (fCB bF (aa (ad 0) ag))) ag)))
 (bj (ju a.Net 4 (eO a) (aa (ad 1) (aa (ad 2) (aa (fCB bF (aa (f2 dIx (ad 0) (fC (.int 2))) ag)) (aa (fCB bF (aa (f2 dIx (ad 0) (fC (.int 3))) ag)) ag)))))))
def eP(a:Ads):List D->Res D:=aJ 3 (jI a)
theorem iR:FnScope ["parts", "right", "up"] ["parts"] (am (top 57)):=⟨rfl,rfl,rfl,by decide +kernel,rfl,by decide +kernel,by decide +kernel⟩
theorem l5(B:Bl K mg a)(U:Df K mg "_law_net" (top 57) ["parts"])(c_Net:Mak P w K mg base "Net" a.Net 4 (eO a) 2):Cal P w K mg base "_law_net" 1 (eP a) 4:=by
 refine a8 (k:=3) (N:=["parts", "right", "up"]) U iR fun f cdv A outer s H E Ex hE hr=>?_;have sc:=iR
 exact (ao (tR (i:=1) (j:=2) rfl sc.nd rfl rfl (by decide) rfl rfl (ae (dX rfl (CompScope.of (own:=["row"]) (cap:=[]) rfl (by decide +kernel) rfl rfl (by decide +kernel)) (eD (bS (af 0 (mv 0)) ai)) (fun C cells s0 H0 ex pn hN=>⟨(bL (i:=0) hN rfl (by first | exact Or.inl rfl | exact Or.inr rfl)),cy,(cT dy cD rfl B.b_list (by decide +kernel) (ae (af 0 (mv 0)) aj))⟩)) (ae (dX rfl (CompScope.of (own:=["row"]) (cap:=[]) rfl (by decide +kernel) rfl rfl (by decide +kernel)) (eD (bS (af 0 (mv 0)) ai)) (fun C cells s0 H0 ex pn hN=>⟨(bL (i:=0) hN rfl (by first | exact Or.inl rfl | exact Or.inr rfl)),cy,(cT dy cD rfl B.b_list (by decide +kernel) (ae (af 0 (mv 0)) aj))⟩)) aj)) rfl)
  (au (bn (mq c_Net (aQ hE) (hr.mono (by decide)) rfl (ae (af 1 (mv 1)) (ae (af 2 (mv 2)) (ae (cT dy cD rfl B.b_list (by decide +kernel) (ae (bS (af 0 (mv 0)) ai) aj)) (ae (cT dy cD rfl B.b_list (by decide +kernel) (ae (bS (af 0 (mv 0)) ai) aj)) aj))))))))
def hG(a:Ads):ac->FOut:=
 (az (aE 1 (fFz (bT (aa (f1 (dh [a.BadNet] [a.BadCompany,a.BadWalk,a.NoNumber]) (ad 0)) (aa (f1 (dh [a.BadWalk] [a.BadCompany,a.BadNet,a.NoNumber]) (ad 0)) (aa (f1 (dh [a.BadCompany] [a.BadNet,a.BadWalk,a.NoNumber]) (ad 0)) (aa (f1 (dh [a.NoNumber] [a.BadCompany,a.BadNet,a.BadWalk]) (ad 0)) ag)))))))
 (az (gIf (j0 (b8 (ftB (f1 (dh [a.BadCompany,a.BadNet,a.BadWalk,a.NoNumber] []) (ad 0)))) (j0 (b8 (ftB (f1 (dh [a.BadCompany,a.BadNet,a.BadWalk,a.NoNumber] []) (ad 0)))) (ft2 (cU true) (iq (ad 1)) (fC (.int 1))))) (bj (f1 gu (fC (.int 1)))) aV)
 (bj (ir (ad 1)))))
def a9(a:Ads):List D->Res D:=aJ 2 (hG a)
theorem gN:FnScope ["e", "told"] ["e"] (am (top 58)):=⟨rfl,rfl,rfl,by decide +kernel,rfl,by decide +kernel,by decide +kernel⟩
theorem kU(B:Bl K mg a)(U:Df K mg "_law_which" (top 58) ["e"]):CalH P w K mg base "_law_which" 1 (a9 a) 1:=by
 refine ua (k:=0) (N:=["e", "told"]) U gN fun f cdv A outer s H hr=>?_;have sc:=gN
 exact (ao (aS (i:=1) sc.nd rfl (.inl rfl) (bu (cw (ae (gd (vT:=.ref a.BadNet) (tv:=.ref a.BadNet) (yes:=[a.BadNet]) (no:=[a.BadCompany,a.BadWalk,a.NoNumber]) (fun _ h=>h) (eQ rfl B.x_BadNet.bound rfl (by decide)) (al1 ⟨B.q_BadNet,B.kx_BadNet_BadNet⟩ al0) (al1 ⟨B.q_BadCompany,B.kx_BadCompany_BadNet⟩ (al1 ⟨B.q_BadWalk,B.kx_BadWalk_BadNet⟩ (al1 ⟨B.q_NoNumber,B.kx_NoNumber_BadNet⟩ al0))) (af 0 (mv 0)) rfl B.b_isinstance) (ae (gd (vT:=.ref a.BadWalk) (tv:=.ref a.BadWalk) (yes:=[a.BadWalk]) (no:=[a.BadCompany,a.BadNet,a.NoNumber]) (fun _ h=>h) (eQ rfl B.x_BadWalk.bound rfl (by decide)) (al1 ⟨B.q_BadWalk,B.kx_BadWalk_BadWalk⟩ al0) (al1 ⟨B.q_BadCompany,B.kx_BadCompany_BadWalk⟩ (al1 ⟨B.q_BadNet,B.kx_BadNet_BadWalk⟩ (al1 ⟨B.q_NoNumber,B.kx_NoNumber_BadWalk⟩ al0))) (af 0 (mv 0)) rfl B.b_isinstance) (ae (gd (vT:=.ref a.BadCompany) (tv:=.ref a.BadCompany) (yes:=[a.BadCompany]) (no:=[a.BadNet,a.BadWalk,a.NoNumber]) (fun _ h=>h) (eQ rfl B.x_BadCompany.bound rfl (by decide)) (al1 ⟨B.q_BadCompany,B.kx_BadCompany_BadCompany⟩ al0) (al1 ⟨B.q_BadNet,B.kx_BadNet_BadCompany⟩ (al1 ⟨B.q_BadWalk,B.kx_BadWalk_BadCompany⟩ (al1 ⟨B.q_NoNumber,B.kx_NoNumber_BadCompany⟩ al0))) (af 0 (mv 0)) rfl B.b_isinstance) (ae (gd (vT:=.ref a.NoNumber) (tv:=.ref a.NoNumber) (yes:=[a.NoNumber]) (no:=[a.BadCompany,a.BadNet,a.BadWalk]) (fun _ h=>h) (eQ rfl B.x_NoNumber.bound rfl (by decide)) (al1 ⟨B.q_NoNumber,B.kx_NoNumber_NoNumber⟩ al0) (al1 ⟨B.q_BadCompany,B.kx_BadCompany_NoNumber⟩ (al1 ⟨B.q_BadNet,B.kx_BadNet_NoNumber⟩ (al1 ⟨B.q_BadWalk,B.kx_BadWalk_NoNumber⟩ al0))) (af 0 (mv 0)) rfl B.b_isinstance) aj)))))))
  (ao (bi (FW.ft (mW (dk (jq (gd (vT:=.ref a.WalkError) (tv:=.ref a.WalkError) (yes:=[a.BadCompany,a.BadNet,a.BadWalk,a.NoNumber]) (no:=[]) (fun _ h=>h) (eQ rfl B.x_WalkError.bound rfl (by decide)) (al1 ⟨B.q_BadCompany,B.kx_BadCompany_WalkError⟩ (al1 ⟨B.q_BadNet,B.kx_BadNet_WalkError⟩ (al1 ⟨B.q_BadWalk,B.kx_BadWalk_WalkError⟩ (al1 ⟨B.q_NoNumber,B.kx_NoNumber_WalkError⟩ al0)))) al0 (af 0 (mv 0)) rfl B.b_isinstance))) (mW (dk (jq (gd (vT:=.ty "ValueError") (tv:=.type "ValueError") (yes:=[a.BadCompany,a.BadNet,a.BadWalk,a.NoNumber]) (no:=[]) (fun _ h=>h) (qO rfl B.b_ValueError (by decide +kernel) rfl (by decide) (by decide)) (al1 ⟨B.q_BadCompany,B.kx_BadCompany_ValueError⟩ (al1 ⟨B.q_BadNet,B.kx_BadNet_ValueError⟩ (al1 ⟨B.q_BadWalk,B.kx_BadWalk_ValueError⟩ (al1 ⟨B.q_NoNumber,B.kx_NoNumber_ValueError⟩ al0)))) al0 (af 0 (mv 0)) rfl B.b_isinstance))) (n8 (bg f9 (dr _) (oK (af 1 (mv 1))) ai (a7 _)))))) (au (bn (js ai))) ba)
  (au (bn (oM (af 1 (mv 1)))))))
def jJ(a:Ads):ac->FOut:=
 (az (iv [a.BadCompany,a.BadNet,a.BadWalk,a.NoNumber] 2 3 (bj (cz 1 (a9 a) (aa (ad 2) ag))) (gIf (ft2 dEq (ad 1) (fC (.int 0))) (bx (ju a.Net 4 (eO a) (aa (bT ag) (aa (bT ag) (aa (bT (aa (fC (.int 0)) ag)) (aa (bT (aa (fC (.int 0)) ag)) ag)))))) (gIf (ft2 dEq (ad 1) (fC (.int 1))) (bx (al 4 (cf a) (aa (ad 0) (aa (fC (.int 0)) (aa (fC (.int 0)) (aa (f2 gB (fC (.str "r")) (fC (.int 9))) ag)))))) (gIf (ft2 dEq (ad 1) (fC (.int 2))) (bx (al 4 (fu a) (aa (ad 0) (aa (fC (.int 0)) (aa (fC (.int 0)) (aa (fC (.str "x")) ag)))))) (gIf (ft2 dEq (ad 1) (fC (.int 3))) (bx (al 3 (iw a) (aa (ad 0) (aa (fC (.int 0)) (aa (fC (.int 4)) ag))))) (gIf (ft2 dEq (ad 1) (fC (.int 4))) (bx (al 2 (iy a) (aa (ad 0) (aa (bT ag) ag)))) (gIf (ft2 dEq (ad 1) (fC (.int 5))) (bx (al 2 (ej a) (aa (ad 0) (aa (f2 i9 (bT (aa (fC (.str "x")) ag)) (fCB bq (aa (f1 (bO a.Net "starts") (ad 0)) ag))) ag)))) (gIf (ft2 dEq (ad 1) (fC (.int 6))) (bx (al 2 (ek a) (aa (ad 0) (aa (bT ag) ag)))) (bx (al 2 (dN a) (aa (ad 0) (aa (f1 gu (fC (.int 1))) ag))))))))))))
 (bj (fC (.int 9))))
def dP(a:Ads):List D->Res D:=aJ 3 (jJ a)
theorem iS:FnScope ["net", "way", "e"] ["net", "way"] (am (top 59)):=⟨rfl,rfl,rfl,by decide +kernel,rfl,by decide +kernel,by decide +kernel⟩
theorem l6(B:Bl K mg a)(U:Df K mg "_law_met" (top 59) ["net", "way"])(c_Net:Mak P w K mg base "Net" a.Net 4 (eO a) 2)(c__law_which:CalH P w K mg base "_law_which" 1 (a9 a) 1)(c_company_at:Cal P w K mg base "company_at" 2 (dN a) 2)(c_exchanged:Cal P w K mg base "exchanged" 2 (ej a) 6)(c_number_of:Cal P w K mg base "number_of" 2 (ek a) 6)(c_order:Cal P w K mg base "order" 2 (iy a) 5)(c_places:Cal P w K mg base "places" 4 (cf a) 2)(c_walks:Cal P w K mg base "walks" 3 (iw a) 1)(c_weight:Cal P w K mg base "weight" 4 (fu a) 3):Cal P w K mg base "_law_met" 2 (dP a) 7:=by
 refine a8 (k:=6) (N:=["net", "way", "e"]) U iS fun f cdv A outer s H E Ex hE hr=>?_;have sc:=iS
 exact (ao (rL (cs:=[a.BadCompany,a.BadNet,a.BadWalk,a.NoNumber]) B.x_WalkError.bound (al1 B.m_BadCompany_WalkError (al1 B.m_BadNet_WalkError (al1 B.m_BadWalk_WalkError (al1 B.m_NoNumber_WalkError al0)))) sc.nd (i:=2) rfl rfl rfl rfl rfl rfl (fun E2 pn2 H2 Ex2 hx=>(au (bi (bg (cP (hu4 hr)) bX (af 1 (mv 1)) ai (a7 _)) (au (bW (mq c_Net hx (hr.mono (by decide)) rfl (ae (cw aj) (ae (cw aj) (ae (cw (ae ai aj)) (ae (cw (ae ai aj)) aj))))))) (au (bi (bg (cP (hu4 hr)) bX (af 1 (mv 1)) ai (a7 _)) (au (bW (ax c_places hx (hr.mono (by decide)) rfl (ae (af 0 (mv 0)) (ae ai (ae ai (ae (aH rK oG f6 ai) aj))))))) (au (bi (bg (cP (hu4 hr)) bX (af 1 (mv 1)) ai (a7 _)) (au (bW (ax c_weight hx (hr.mono (by decide)) rfl (ae (af 0 (mv 0)) (ae ai (ae ai (ae f6 aj))))))) (au (bi (bg (cP (hu4 hr)) bX (af 1 (mv 1)) ai (a7 _)) (au (bW (ax c_walks hx (hr.mono (by decide)) rfl (ae (af 0 (mv 0)) (ae ai (ae ai aj)))))) (au (bi (bg (cP (hu4 hr)) bX (af 1 (mv 1)) ai (a7 _)) (au (bW (ax c_order hx (hr.mono (by decide)) rfl (ae (af 0 (mv 0)) (ae (cw aj) aj))))) (au (bi (bg (cP (hu4 hr)) bX (af 1 (mv 1)) ai (a7 _)) (au (bW (ax c_exchanged hx (hr.mono (by decide)) rfl (ae (af 0 (mv 0)) (ae (aH ub qg (cw (ae f6 aj)) (bd cc bC rfl B.b_len (by decide +kernel) (ae (ce (af 0 (mv 0)) B.cl_Net B.na_Net_starts) aj))) aj))))) (au (bi (bg (cP (hu4 hr)) bX (af 1 (mv 1)) ai (a7 _)) (au (bW (ax c_number_of hx (hr.mono (by decide)) rfl (ae (af 0 (mv 0)) (ae (cw aj) aj))))) (au (bW (ax c_company_at hx (hr.mono (by decide)) rfl (ae (af 0 (mv 0)) (ae (js ai) aj)))))))))))))))))))) (fun a2 E2 H2=>au (bn (qf c__law_which (RoomH.of (hr.mono (by decide)) _) rfl (ae (af 2 (mv 2)) aj)))))
  (au (bn ai)))
def g_law(a:Ads):ac->FOut:=
 (az (aE 1 (fFz (al 4 (bZ a) (aa (ad 0) (aa (fC (.int 5)) (aa (fC (.int 4)) (aa (fC (.int 6)) ag)))))))
 (az (aE 2 (fFz (al 1 (eP a) (aa (ad 1) ag))))
 (az (aE 3 (fFz (f2 b7 (al 2 (av a) (aa (ad 0) (aa (fC (.int 8)) ag))) (fC (.int 8)))))
 (az (dW (b4 (aa (fC (.int 8)) ag)) (aB 4) (az (aE 5 (fFz (f2 b7 (f2 aX (ad 3) (ad 4)) (fC (.int 8)))))
 (gIf (ft2 dNe (al 2 (dP a) (aa (ad 2) (aa (ad 5) ag))) (f2 dIx (bT (aa (fC (.int 0)) (aa (fC (.int 1)) (aa (fC (.int 1)) (aa (fC (.int 1)) (aa (fC (.int 2)) (aa (fC (.int 2)) (aa (fC (.int 2)) (aa (fC (.int 3)) ag))))))))) (ad 5))) (bj (fC (.bl false))) aV)))
 (bj (f2 dEq (eJ (aa (f1 (bO a.Net "right") (ad 2)) (aa (f1 (bO a.Net "up") (ad 2)) (aa (f1 (bO a.Net "starts") (ad 2)) (aa (f1 (bO a.Net "ends") (ad 2)) ag))))) (ad 1)))))))
def kZ(a:Ads):List D->Res D:=aJ 6 (g_law a)
theorem oQ:FnScope ["script", "parts", "net", "first", "k", "way"] ["script"] (am (top 60)):=⟨rfl,rfl,rfl,by decide +kernel,rfl,by decide +kernel,by decide +kernel⟩
theorem rM(B:Bl K mg a){f:Addr}{fd:FuncData}(U:Fun K "law" "law" (top 60) f fd)(c__law_cell_at:Cal P w K mg base "_law_cell_at" 2 (av a) 1)(c__law_met:Cal P w K mg base "_law_met" 2 (dP a) 7)(c__law_net:Cal P w K mg base "_law_net" 1 (eP a) 4)(c__law_parts_by:Cal P w K mg base "_law_parts_by" 4 (bZ a) 3):FnOk P w K mg base (CXm P w) 8 f fd ["script"] (spF 1 (kZ a)):=by
 refine t7 (k:=7) (N:=["script", "parts", "net", "first", "k", "way"]) U oQ fun f cdv A outer s H E Ex hE hr=>?_;have sc:=oQ;exact (ao (aS (i:=1) sc.nd rfl (.inl rfl) (bu (ax c__law_parts_by (aQ hE) (hr.mono (by decide)) rfl (ae (af 0 (mv 0)) (ae ai (ae ai (ae ai aj)))))))
  (ao (aS (i:=2) sc.nd rfl (.inl rfl) (bu (ax c__law_net (aQ hE) (hr.mono (by decide)) rfl (ae (af 1 (mv 1)) aj))))
  (ao (aS (i:=3) sc.nd rfl (.inl rfl) (bu (aH cR (aP _ _) (ax c__law_cell_at (aQ hE) (hr.mono (by decide)) rfl (ae (af 0 (mv 0)) (ae ai aj))) ai)))
  (ao (f8 ik rfl (cS rfl B.b_range (ae ai aj)) (bL (i:=4) sc.nd rfl (.inl rfl)) (ao (aS (i:=5) sc.nd rfl (.inl rfl) (bu (aH cR (aP _ _) (aH bG aZ (af 3 (mv 3)) (af 4 (mv 4))) ai)))
  (au (bi (bg (vd (hu4 hr)) rE (ax c__law_met (aQ hE) (hr.mono (by decide)) rfl (ae (af 2 (mv 2)) (ae (af 5 (mv 5)) aj))) (bS (cw (ae ai (ae ai (ae ai (ae ai (ae ai (ae ai (ae ai (ae ai aj))))))))) (af 5 (mv 5))) (a7 _)) (au (bn mT)) ba))))
  (au (bn (tH (cP (hu4 hr)) bX (gU (ae (ce (af 2 (mv 2)) B.cl_Net B.na_Net_right) (ae (ce (af 2 (mv 2)) B.cl_Net B.na_Net_up) (ae (ce (af 2 (mv 2)) B.cl_Net B.na_Net_starts) (ae (ce (af 2 (mv 2)) B.cl_Net B.na_Net_ends) aj))))) (af 1 (mv 1)) (a7 _))))))))
theorem ar1{p:List Value->Prop}(h:∀ a:Value,p [a]):∀ us:List Value,us.length=1->p us:=by
 intro us hl
 cases us with
 |nil=>cases hl
 |cons a us=>
 cases us with
 |nil=>exact h a
 |cons z us=>simp at hl
theorem ar2{p:List Value->Prop}(h:∀ a b:Value,p [a,b]):∀ us:List Value,us.length=2->p us:=by
 intro us hl
 cases us with
 |nil=>cases hl
 |cons a us=>
 cases us with
 |nil=>cases hl
 |cons b us=>
 cases us with
 |nil=>exact h a b
 |cons z us=>simp at hl
theorem ar3{p:List Value->Prop}(h:∀ a b c:Value,p [a,b,c]):∀ us:List Value,us.length=3->p us:=by
 intro us hl
 cases us with
 |nil=>cases hl
 |cons a us=>
 cases us with
 |nil=>cases hl
 |cons b us=>
 cases us with
 |nil=>cases hl
 |cons c us=>
 cases us with
 |nil=>exact h a b c
 |cons z us=>simp at hl
theorem ar4{p:List Value->Prop}(h:∀ a b c d:Value,p [a,b,c,d]):∀ us:List Value,us.length=4->p us:=by
 intro us hl
 cases us with
 |nil=>cases hl
 |cons a us=>
 cases us with
 |nil=>cases hl
 |cons b us=>
 cases us with
 |nil=>cases hl
 |cons c us=>
 cases us with
 |nil=>cases hl
 |cons d us=>
 cases us with
 |nil=>exact h a b c d
 |cons z us=>simp at hl
theorem ar5{p:List Value->Prop}(h:∀ a b c d e:Value,p [a,b,c,d,e]):∀ us:List Value,us.length=5->p us:=by
 intro us hl
 cases us with
 |nil=>cases hl
 |cons a us=>
 cases us with
 |nil=>cases hl
 |cons b us=>
 cases us with
 |nil=>cases hl
 |cons c us=>
 cases us with
 |nil=>cases hl
 |cons d us=>
 cases us with
 |nil=>cases hl
 |cons e us=>
 cases us with
 |nil=>exact h a b c d e
 |cons z us=>simp at hl
theorem ud(main:∀ a,Dis a->∀ ns,List.length ns<=63->kZ a [.scr ns]=.ok (.bl true)){l:PySem.W.OpenLaw}{w:World}{K:PySem.W.Frag}{h:Heap}{mg:Str->Option Value}{fa:Addr}(X:K.In h)(G:h.Ns mainGlobals mg)(hfa:mg "law" = some (.ref fa))
    {A_0 A_1 A_2 A_4 A_5 A_3:Addr}
    {f_3:Addr} {od_3 an_3:Option Addr} {sl_3:Array (Option Value)} {oc_3 kV_3 dc_3 pm_3 cd_3 ct_3:Value}
    {f_law:Addr} {od_law an_law:Option Addr} {sl_law:Array (Option Value)} {oc_law kV_law dc_law pm_law cd_law ct_law:Value}
    {t_MOST_SIDE:Tok}
    {t_MOST_WALKERS:Tok}
    {t_MOST_WEIGHT:Tok}
    (g_0:PySem.W.nsIn K mainGlobals "BadCompany" = some (some (.ref A_0)))
    (e_0:PySem.W.excIn K A_0 fK "ValueError.__new__" = true)
    (g_1:PySem.W.nsIn K mainGlobals "BadNet" = some (some (.ref A_1)))
    (e_1:PySem.W.excIn K A_1 fK "ValueError.__new__" = true)
    (g_2:PySem.W.nsIn K mainGlobals "BadWalk" = some (some (.ref A_2)))
    (e_2:PySem.W.excIn K A_2 fK "ValueError.__new__" = true)
    (g_4:PySem.W.nsIn K mainGlobals "NoNumber" = some (some (.ref A_4)))
    (e_4:PySem.W.excIn K A_4 fK "ValueError.__new__" = true)
    (g_5:PySem.W.nsIn K mainGlobals "WalkError" = some (some (.ref A_5)))
    (e_5:PySem.W.excIn K A_5 fK "ValueError.__new__" = true)
    (q_BadCompany:cq K A_0=true)
    (q_BadNet:cq K A_1=true)
    (q_BadWalk:cq K A_2=true)
    (q_NoNumber:cq K A_4=true)
    (kx_BadCompany_BadCompany:PySem.W.kitOne K (.ref A_0) (.ref A_0)=some true)
    (kx_BadCompany_BadNet:PySem.W.kitOne K (.ref A_0) (.ref A_1)=some false)
    (kx_BadCompany_BadWalk:PySem.W.kitOne K (.ref A_0) (.ref A_2)=some false)
    (kx_BadCompany_NoNumber:PySem.W.kitOne K (.ref A_0) (.ref A_4)=some false)
    (kx_BadCompany_ValueError:PySem.W.kitOne K (.ref A_0) (.type "ValueError")=some true)
    (kx_BadCompany_WalkError:PySem.W.kitOne K (.ref A_0) (.ref A_5)=some true)
    (kx_BadNet_BadCompany:PySem.W.kitOne K (.ref A_1) (.ref A_0)=some false)
    (kx_BadNet_BadNet:PySem.W.kitOne K (.ref A_1) (.ref A_1)=some true)
    (kx_BadNet_BadWalk:PySem.W.kitOne K (.ref A_1) (.ref A_2)=some false)
    (kx_BadNet_NoNumber:PySem.W.kitOne K (.ref A_1) (.ref A_4)=some false)
    (kx_BadNet_ValueError:PySem.W.kitOne K (.ref A_1) (.type "ValueError")=some true)
    (kx_BadNet_WalkError:PySem.W.kitOne K (.ref A_1) (.ref A_5)=some true)
    (kx_BadWalk_BadCompany:PySem.W.kitOne K (.ref A_2) (.ref A_0)=some false)
    (kx_BadWalk_BadNet:PySem.W.kitOne K (.ref A_2) (.ref A_1)=some false)
    (kx_BadWalk_BadWalk:PySem.W.kitOne K (.ref A_2) (.ref A_2)=some true)
    (kx_BadWalk_NoNumber:PySem.W.kitOne K (.ref A_2) (.ref A_4)=some false)
    (kx_BadWalk_ValueError:PySem.W.kitOne K (.ref A_2) (.type "ValueError")=some true)
    (kx_BadWalk_WalkError:PySem.W.kitOne K (.ref A_2) (.ref A_5)=some true)
    (kx_NoNumber_BadCompany:PySem.W.kitOne K (.ref A_4) (.ref A_0)=some false)
    (kx_NoNumber_BadNet:PySem.W.kitOne K (.ref A_4) (.ref A_1)=some false)
    (kx_NoNumber_BadWalk:PySem.W.kitOne K (.ref A_4) (.ref A_2)=some false)
    (kx_NoNumber_NoNumber:PySem.W.kitOne K (.ref A_4) (.ref A_4)=some true)
    (kx_NoNumber_ValueError:PySem.W.kitOne K (.ref A_4) (.type "ValueError")=some true)
    (kx_NoNumber_WalkError:PySem.W.kitOne K (.ref A_4) (.ref A_5)=some true)
    (m_BadCompany_WalkError:PySem.W.exmOne K (.ref A_0) (.ref A_5)=some true)
    (m_BadNet_WalkError:PySem.W.exmOne K (.ref A_1) (.ref A_5)=some true)
    (m_BadWalk_WalkError:PySem.W.exmOne K (.ref A_2) (.ref A_5)=some true)
    (m_NoNumber_WalkError:PySem.W.exmOne K (.ref A_4) (.ref A_5)=some true)
    (g_3:PySem.W.nsIn K mainGlobals "Net" = some (some (.ref A_3)))
    (i_3:PySem.W.findIn K (.ref A_3) "__init__" = some (some (.ref f_3)))
    (n_3:PySem.W.isFn K (.ref f_3)=true)
    (l_3:K.lookup f_3=some ⟨oc_3,od_3,.func (PySem.W.fnOf "__init__" "Net.__init__" (cK (eN 13 0)) (bD (eN 13 0)) (am (eN 13 0)) .none kV_3 dc_3 pm_3 an_3 cd_3 ct_3),sl_3⟩)
    (c_3:PySem.W.codeIn K cd_3 "Net.__init__" = true)
    (k_3:PySem.W.keepIn K (.ref f_3)=true)
    (pg_3:PySem.W.plainGet K A_3 Str.empty=true)
    (hd_3:PySem.W.hasDictIn K A_3=true)
    (po_3:PySem.W.plainOver K A_3=true)
    (sa_3:PySem.W.findIn K (.ref A_3) "__setattr__" = some (some (.builtin "object.__setattr__")))
    (mk_3:PySem.W.makesIn K A_3=true)
    (kc_3:PySem.W.keepIn K (.ref A_3)=true)
    (na_Net_columns:PySem.W.findIn K (.ref A_3) "columns" = some none)
    (na_Net_ends:PySem.W.findIn K (.ref A_3) "ends" = some none)
    (na_Net_right:PySem.W.findIn K (.ref A_3) "right" = some none)
    (na_Net_rows:PySem.W.findIn K (.ref A_3) "rows" = some none)
    (na_Net_starts:PySem.W.findIn K (.ref A_3) "starts" = some none)
    (na_Net_up:PySem.W.findIn K (.ref A_3) "up" = some none)
    (U_15:Df K mg "check_side" (top 10) ["length"])
    (U_16:Df K mg "check_steps" (top 11) ["lists", "count", "length"])
    (U_14:Df K mg "check_border" (top 12) ["chosen", "rows"])
    (U_23:Df K mg "lies_on" (top 14) ["net", "x", "y"])
    (U_30:Df K mg "step_weight" (top 15) ["net", "x", "y", "letter"])
    (U_26:Df K mg "place_behind" (top 16) ["x", "y", "letter"])
    (U_27:Df K mg "places" (top 19) ["net", "x", "y", "walk"])
    (U_32:Df K mg "weight" (top 20) ["net", "x", "y", "walk"])
    (U_31:Df K mg "walks" (top 21) ["net", "one", "other"])
    (U_29:Df K mg "places_of_walker" (top 24) ["net", "walker", "walk"])
    (U_18:Df K mg "ends_taken" (top 26) ["net", "tracks"])
    (U_28:Df K mg "places_of_all" (top 27) ["net", "company"])
    (U_25:Df K mg "order" (top 28) ["net", "company"])
    (U_20:Df K mg "first_meeting" (top 30) ["net", "company"])
    (U_19:Df K mg "exchanged" (top 32) ["net", "company"])
    (U_21:Df K mg "how_many" (top 42) ["net"])
    (U_17:Df K mg "company_at" (top 49) ["net", "number"])
    (U_24:Df K mg "number_of" (top 50) ["net", "company"])
    (U_6:Df K mg "_law_cell_at" (top 52) ["script", "k"])
    (U_8:Df K mg "_law_mix" (top 53) ["cell", "k", "many"])
    (U_11:Df K mg "_law_rows_by" (top 54) ["cell", "many", "rows"])
    (U_12:Df K mg "_law_step_by" (top 55) ["cell", "k", "shut"])
    (U_10:Df K mg "_law_parts_by" (top 56) ["script", "most", "walkers", "shut"])
    (U_9:Df K mg "_law_net" (top 57) ["parts"])
    (U_13:Df K mg "_law_which" (top 58) ["e"])
    (U_7:Df K mg "_law_met" (top 59) ["net", "way"])
    (g_law:PySem.W.nsIn K mainGlobals "law" = some (some (.ref f_law)))
    (l_law:K.lookup f_law=some ⟨oc_law,od_law,.func (PySem.W.fnOf "law" "law" (cK (top 60)) (bD (top 60)) (am (top 60)) .none kV_law dc_law pm_law an_law cd_law ct_law),sl_law⟩)
    (c_law:PySem.W.codeIn K cd_law "law" = true)
    (k_law:PySem.W.keepIn K (.ref f_law)=true)
    (b_ValueError:PySem.W.nsIn K mainGlobals "ValueError" = some none)
    (b_all:PySem.W.nsIn K mainGlobals "all" = some none)
    (b_enumerate:PySem.W.nsIn K mainGlobals "enumerate" = some none)
    (b_isinstance:PySem.W.nsIn K mainGlobals "isinstance" = some none)
    (b_len:PySem.W.nsIn K mainGlobals "len" = some none)
    (b_list:PySem.W.nsIn K mainGlobals "list" = some none)
    (b_min:PySem.W.nsIn K mainGlobals "min" = some none)
    (b_range:PySem.W.nsIn K mainGlobals "range" = some none)
    (b_sorted:PySem.W.nsIn K mainGlobals "sorted" = some none)
    (b_zip:PySem.W.nsIn K mainGlobals "zip" = some none)
    (v_MOST_SIDE:PySem.W.nsIn K mainGlobals "MOST_SIDE" = some (some (.int 8 t_MOST_SIDE)))
    (v_MOST_WALKERS:PySem.W.nsIn K mainGlobals "MOST_WALKERS" = some (some (.int 4 t_MOST_WALKERS)))
    (v_MOST_WEIGHT:PySem.W.nsIn K mainGlobals "MOST_WEIGHT" = some (some (.int 1000 t_MOST_WEIGHT)))
    (nl:gY K=true) :
    ∃ Fl:List D->Res D,(∀ ns:List Int,ns.length<=63->Fl [.scr ns]=.ok (.bl true))/\gY K=true/\∃ fd:FuncData,(∀ (s:Shared) (v:Value),BindsTo s fd ⟨[v],[]⟩ [("script", v)])/\∀ base:Heap,K.In base->base.Ns mainGlobals mg->FnOk l.prog w K mg base (CXm l.prog w) 8 fa fd ["script"] (spF 1 Fl):=by
 have B:Bl K mg ⟨A_0,A_1,A_2,A_4,A_5,A_3⟩:=⟨PySem.W.mg_none_of X G b_ValueError,PySem.W.mg_none_of X G b_all,PySem.W.mg_none_of X G b_enumerate,PySem.W.mg_none_of X G b_isinstance,PySem.W.mg_none_of X G b_len,PySem.W.mg_none_of X G b_list,PySem.W.mg_none_of X G b_min,PySem.W.mg_none_of X G b_range,PySem.W.mg_none_of X G b_sorted,PySem.W.mg_none_of X G b_zip,⟨_,PySem.W.mg_of X G v_MOST_SIDE⟩,⟨_,PySem.W.mg_of X G v_MOST_WALKERS⟩,⟨_,PySem.W.mg_of X G v_MOST_WEIGHT⟩,fm X G g_0 e_0,fm X G g_1 e_1,fm X G g_2 e_2,fm X G g_4 e_4,fm X G g_5 e_5,q_BadCompany,q_BadNet,q_BadWalk,q_NoNumber,kx_BadCompany_BadCompany,kx_BadCompany_BadNet,kx_BadCompany_BadWalk,kx_BadCompany_NoNumber,kx_BadCompany_ValueError,kx_BadCompany_WalkError,kx_BadNet_BadCompany,kx_BadNet_BadNet,kx_BadNet_BadWalk,kx_BadNet_NoNumber,kx_BadNet_ValueError,kx_BadNet_WalkError,kx_BadWalk_BadCompany,kx_BadWalk_BadNet,kx_BadWalk_BadWalk,kx_BadWalk_NoNumber,kx_BadWalk_ValueError,kx_BadWalk_WalkError,kx_NoNumber_BadCompany,kx_NoNumber_BadNet,kx_NoNumber_BadWalk,kx_NoNumber_NoNumber,kx_NoNumber_ValueError,kx_NoNumber_WalkError,m_BadCompany_WalkError,m_BadNet_WalkError,m_BadWalk_WalkError,m_NoNumber_WalkError,⟨pg_3,hd_3,po_3,sa_3⟩,na_Net_columns,na_Net_ends,na_Net_right,na_Net_rows,na_Net_starts,na_Net_up⟩
 have F_Net:=jj (st:=eN 13 0) l_3 c_3 k_3;have b_Net:=F_Net.binds (ps:=["self", "right", "up", "starts", "ends"]) (fun _ _ _ _ _ _=>ar5 fun _ _ _ _ _=>rfl);have e:=hfa.symm.trans (PySem.W.mg_of X G g_law)
 cases e
 have UL:=jj (st:=top 60) l_law c_law k_law
 refine ⟨kZ ⟨A_0,A_1,A_2,A_4,A_5,A_3⟩,main ⟨A_0,A_1,A_2,A_4,A_5,A_3⟩ ⟨cI kx_BadCompany_BadNet,cI kx_BadCompany_BadWalk,cI kx_BadCompany_NoNumber,cI kx_BadNet_BadCompany,cI kx_BadNet_BadWalk,cI kx_BadNet_NoNumber,cI kx_BadWalk_BadCompany,cI kx_BadWalk_BadNet,cI kx_BadWalk_NoNumber,cI kx_NoNumber_BadCompany,cI kx_NoNumber_BadNet,cI kx_NoNumber_BadWalk⟩,nl,PySem.W.fnOf "law" "law" (cK (top 60)) (bD (top 60)) (am (top 60)) .none kV_law dc_law pm_law an_law cd_law ct_law,fun s v=>.of_eq rfl,fun base _ _=>?_⟩
 have C_15:=kR (P:=l.prog) (w:=w) (base:=base) B U_15 ;have C_16:=j4 (P:=l.prog) (w:=w) (base:=base) B U_16 ;have C_14:=jA (P:=l.prog) (w:=w) (base:=base) B U_14 ;have C_3:=uc (P:=l.prog) (w:=w) (base:=base) B ⟨f_3,_,F_Net,PySem.W.mg_of X G g_3,⟨mk_3,i_3,n_3,kc_3⟩,b_Net⟩ C_14 C_15 C_16;have C_23:=ni (P:=l.prog) (w:=w) (base:=base) B U_23 ;have C_30:=j5 (P:=l.prog) (w:=w) (base:=base) B U_30 
 have C_26:=jD (P:=l.prog) (w:=w) (base:=base) B U_26 ;have C_27:=oO (P:=l.prog) (w:=w) (base:=base) B U_27 C_23 C_26 C_30;have C_32:=oP (P:=l.prog) (w:=w) (base:=base) B U_32 C_27 C_30;have C_31:=qh (P:=l.prog) (w:=w) (base:=base) B U_31 ;have C_29:=gO (P:=l.prog) (w:=w) (base:=base) B U_29 C_27;have C_18:=kS (P:=l.prog) (w:=w) (base:=base) B U_18 
 have C_28:=jb (P:=l.prog) (w:=w) (base:=base) B U_28 C_29;have C_25:=qi (P:=l.prog) (w:=w) (base:=base) B U_25 C_18 C_28;have C_20:=jc (P:=l.prog) (w:=w) (base:=base) B U_20 C_28;have C_19:=lI (P:=l.prog) (w:=w) (base:=base) B U_19 C_20;have C_21:=lZ (P:=l.prog) (w:=w) (base:=base) B U_21 ;have C_17:=kT (P:=l.prog) (w:=w) (base:=base) B U_17 C_21
 have C_24:=lJ (P:=l.prog) (w:=w) (base:=base) B U_24 C_20;have C_6:=jE (P:=l.prog) (w:=w) (base:=base) B U_6 ;have C_8:=l4 (P:=l.prog) (w:=w) (base:=base) B U_8 ;have C_11:=jG (P:=l.prog) (w:=w) (base:=base) B U_11 C_8;have C_12:=jH (P:=l.prog) (w:=w) (base:=base) B U_12 C_8;have C_10:=jd (P:=l.prog) (w:=w) (base:=base) B U_10 C_6 C_11 C_12;have C_9:=l5 (P:=l.prog) (w:=w) (base:=base) B U_9 C_3
 have C_13:=kU (P:=l.prog) (w:=w) (base:=base) B U_13 ;have C_7:=l6 (P:=l.prog) (w:=w) (base:=base) B U_7 C_3 C_13 C_17 C_19 C_24 C_25 C_27 C_31 C_32;exact rM (P:=l.prog) (w:=w) (base:=base) B UL C_6 C_7 C_9 C_10
end Lw
namespace Lw
open PySem PySem.W
section
variable {tb:String->Option Builtin}{p:Program}{w:World}{n₀:Nat}{ann:Option Value}
def nk(tb:String->Option Builtin)(p:Program)(w:World)(n₀:Nat)(ann:Option Value):Nat->SharedT->Thread->Option SharedT
 | 0,_,_=>none
 |n+1,s,t=>match through t with
  |true=>some s
  |false=>match stepOk n₀ ann t with
   |false=>none
   |true=>match stepT (denote tb) p w s t with
    |some (s',t')=>nk tb p w n₀ ann n s' t'
    |none=>none
theorem rN(n:Nat):∀ (s r:SharedT) (t:Thread),nk tb p w n₀ ann n s t=some r->topRun tb p w n₀ ann n s.abs t=some r.abs:=by
 induction n with
 |zero=>intro s r t h;cases h
 |succ n ih=>
  intro s r t h;unfold nk at h;unfold topRun
  cases ht:through t with
  |true=>rw[ht] at h;cases h;rfl
  |false=>
   rw[ht] at h
   cases hk:stepOk n₀ ann t with
   |false=>rw[hk] at h;cases h
   |true=>
    rw[hk] at h
    cases hs:stepT (denote tb) p w s t with
    |none=>rw[hs] at h;cases h
    |some x=>
     rw[hs] at h;have e:=stepT_spec hs;dsimp only;rw[e];exact ih _ _ _ h
end
def nq(P:Params):BT:=(boot_heap P).objs.toList.zipIdx.foldl (fun t x=>t.ins x.2 x.1) .nil
def j6(tb:String->Option Builtin)(p:Program)(w:World)(N n:Nat)(life:Life)(ann:Option Value)(os:OsState):Option SharedT:=nk tb p w n ann N ⟨nq w.params,n,life,Array.mk [],boot_drawn,boot_toks,os⟩ (topStub p)
theorem ue{p q:Program}{loose:List Str}{Xt:Shared->Bool}{α:Type}{Yf:Shared->α}{Ya:World->α}{N n:Nat}{life:Life}{ann:Option Value}
    (e:opening p=plainProg p.main.scope.names) (hN:Nat.ble 600 N=true) (f:∀ s,fenceModules? p s=some s)
    (ht:∀ P,absHeap (nq P) n life=boot_heap P)
    (size:∀ P,((boot_heap P).isNs mainGlobals,(boot_heap P).objs.size,(boot_heap P).nsMap mainGlobals "__annotations__")=(true,n,ann))
    (h1:∀ (w:World) (os:OsState),(j6 treeTable p w N n life ann os).map (fun r=>(staticsOk (importedModules p.main.body) (boot_heap w.params) r.abs.heap&&namesBound p r.abs.heap&&gensDone r.abs&&laidKept (boot_heap w.params) r.abs.heap,Yf r.abs))=some (true,Ya w))
    (h2:∀ (w:World) (os:OsState),(j6 treeTable p w N n life ann os).map (fun r=>(openSeen q loose (importedModules p.main.body) Xt true r.abs).1)=some (openGood q loose).1)
    (h3:∀ (w:World) (os:OsState),(j6 treeTable p w N n life ann os).map (fun r=>(openSeen q loose (importedModules p.main.body) Xt true r.abs).2)=some (openGood q loose).2):LeftO p q loose Xt Yf Ya N:=fun w=>by
 obtain ⟨⟨hp,gs,d,k,os⟩,e1,e2⟩:=Option.map_eq_some_iff.mp (boot_open e hN f w);obtain ⟨rfl,rfl,rfl,rfl⟩:hp=boot_heap w.params/\gs=Array.mk []/\d=boot_drawn/\k=boot_toks:=by simpa using e2
 obtain ⟨z1,z2,z3⟩:_/\_/\_:=by simpa only[Prod.mk.injEq] using size w.params
 obtain ⟨r,hr,e3⟩:=Option.map_eq_some_iff.mp (h1 w os);obtain ⟨l1,l3⟩:_/\_:=by simpa only[Prod.mk.injEq] using e3
 have h2:=h2 w os;have h3:=h3 w os;rw[hr] at h2 h3;have l2:=Prod.ext (Option.some.inj h2) (Option.some.inj h3);have t:=rN _ _ _ _ hr;have a:(⟨nq w.params,n,life,Array.mk [],boot_drawn,boot_toks,os⟩:SharedT).abs=⟨boot_heap w.params,Array.mk [],boot_drawn,boot_toks,os⟩:=by unfold SharedT.abs;rw[ht]
 rw[a] at t;have tf:topFrom treeTable p w N ⟨boot_heap w.params,Array.mk [],boot_drawn,boot_toks,os⟩=some r.abs:=by
  unfold topFrom;dsimp only;rw[z1,z2,z3,t];show (match staticsOk (importedModules p.main.body) (boot_heap w.params) r.abs.heap&&namesBound p r.abs.heap&&gensDone r.abs&&laidKept (boot_heap w.params) r.abs.heap with | true=>_ | false=>_)=_;rw[l1]
 unfold openEnds;rw[e1];show (topFrom treeTable p w N _).map _=_;rw[tf];exact congrArg some (Prod.ext l2 l3)
end Lw
namespace Lw
open PySem L2 Mi
abbrev vS(s:String)(t:Tok):Value:=.str (.ofString s) t
abbrev eS(P:Params)(s:String)(t:Tok)(v:Value):DictEntry:=⟨PyData.keyHash P (.ofString s),.str (.ofString s) t,v⟩
abbrev fD(n q:String)(st:Stmt)(dV kV doc pm:Value)(an:Option Addr)(cdv ct:Value):FuncData:=PySem.W.fnOf (.ofString n) (.ofString q) (cK st) (bD st) (am st) dV kV doc pm an cdv ct
abbrev fO(n q:String)(st:Stmt)(m:String)(t c:Nat):Obj:=⟨.type "function", none,.func (fD n q st .none .none .none (vS m t) none (.ref c) .none),#[]⟩
abbrev tO(l:List Value):Obj:=⟨.type "tuple", none,.seq l.toArray 0,#[]⟩
abbrev cO(n:String)(t1:Nat)(q:String)(t2 t3 l c r1 r2:Nat)(a b d e:Value)(i j t4:Nat):Obj:=⟨.type "code", none,.fields #[vS n t1,vS q t2,vS "/claim/cut.py" t3,.int l 0,.int c 0,.int 0 0,.int 0 0,.int 3 0,.ref r1,.bool true,.int 181 0,.ref r2,a,b,d,e,.int i 0,.int j 0,vS "/claim/cut.py" t4],#[]⟩
def khKeep:List Nat:=[1,2,3,4,5,7,8,9,10,11,12,13,14,15,16,18,19,20,21,22,24,25,26,27,28,29,30,31,32,34,35,36,37,38,39,40,41,42,44,45,46,47,48,49,50,52,53,54,55,56,57,58,59,60]
def khN:Nat:=5976
def nu:List Nat:=2::3::23::24::36::37::48::49::60::61::72::73::81::82::86::87::93::94::105::106::108::109::119::120::126::127::133::134::140::141::147::148::154::155::159::160::166::167::173::174::178::179::183::184::190::191::197::198::204::205::211::212::218::219::225::226::230::231::235::236::242::243::247::248::252::253::259::260::264::265::269::270::274::275::281::282::288::289::302::303::309::310::312::313::323::324::330::331::337::338::344::345::351::352::358::359::365::366::370::371::375::376::382::383::389::390::396::397::[]
def khK:Params->PySem.W.Frag:=fun P=>(nat_lit 2,⟨.none,none,.dict #[] 0,#[]⟩)::(nat_lit 3,⟨.type "dict", none,.dict #[eS P "__name__" 165 (vS "law_lonewalks_k17_refusals_apart" 667),eS P "__doc__" 166 .none,eS P "__package__" 167 .none,eS P "__loader__" 168 (.builtin "__main__.__loader__#opaque"),eS P "__spec__" 169 .none,eS P "__annotations__" 170 (.ref 6),eS P "__builtins__" 171 (.ref 4),eS P "__file__" 173 (vS "/claim/cut.py" 172),eS P "__cached__" 174 .none,eS P "WalkError" 206 (.ref 24),eS P "BadNet" 222 (.ref 37),eS P "BadWalk" 238 (.ref 49),eS P "BadCompany" 254 (.ref 61),eS P "NoNumber" 270 (.ref 73),eS P "MOST_SIDE" 274 (.int 8 273),eS P "MOST_WEIGHT" 276 (.int 1000 275),eS P "MOST_WALKERS" 278 (.int 4 277),eS P "check_side" 285 (.ref 82),eS P "check_steps" 291 (.ref 87),eS P "check_border" 301 (.ref 94),eS P "Net" 333 (.ref 109),eS P "lies_on" 342 (.ref 120),eS P "step_weight" 352 (.ref 127),eS P "place_behind" 361 (.ref 134),eS P "LETTERS" 365 (vS "ru" 364),eS P "places" 378 (.ref 141),eS P "weight" 391 (.ref 148),eS P "walks" 405 (.ref 155),eS P "walks_on" 411 (.ref 160),eS P "places_of_walker" 422 (.ref 167),eS P "end_at" 430 (.ref 174),eS P "ends_taken" 436 (.ref 179),eS P "places_of_all" 442 (.ref 184),eS P "order" 450 (.ref 191),eS P "least_other" 461 (.ref 198),eS P "first_meeting" 474 (.ref 205),eS P "steps_to" 483 (.ref 212),eS P "exchanged" 497 (.ref 219),eS P "climbed" 510 (.ref 226),eS P "sums_on_last_column" 516 (.ref 231),eS P "table" 522 (.ref 236),eS P "first_row_to_use" 531 (.ref 243),eS P "reduced" 537 (.ref 248),eS P "det" 543 (.ref 253),eS P "lone_weight" 550 (.ref 260),eS P "ones_for_open" 556 (.ref 265),eS P "how_many" 562 (.ref 270),eS P "without_step" 570 (.ref 275),eS P "with_only_step" 579 (.ref 282),eS P "how_many_go_right" 587 (.ref 289),eS P "Search" 628 (.ref 313),eS P "walk_found" 640 (.ref 324),eS P "company_at" 652 (.ref 331),eS P "number_of" 666 (.ref 338),eS P "_law_cell_at" 676 (.ref 345),eS P "_law_mix" 687 (.ref 352),eS P "_law_rows_by" 699 (.ref 359),eS P "_law_step_by" 709 (.ref 366),eS P "_law_parts_by" 715 (.ref 371),eS P "_law_net" 721 (.ref 376),eS P "_law_which" 729 (.ref 383),eS P "_law_met" 738 (.ref 390),eS P "law" 750 (.ref 397)] 63,#[]⟩)::(nat_lit 23,⟨.type "dict", none,.dict #[eS P "__module__" 196 (vS "lonewalks.errors" 187),eS P "__firstlineno__" 200 (.int 2 199),eS P "__static_attributes__" 201 (.ref 22),eS P "__weakref__" 203 (.ref 25),eS P "__doc__" 204 .none] 3,#[]⟩)::(nat_lit 24,⟨.type "type", none,.cls ⟨.ofString "WalkError", [.type "ValueError"],[.ref 24,.type "ValueError", .type "Exception", .type "BaseException", .type "object"],23,.ofString "WalkError", true,[],[.ref 37,.ref 49,.ref 61,.ref 73],false,none,false⟩,#[(some (.ref 15)),none,(some (vS "WalkError" 189)),(some (vS "WalkError" 197)),(some (.builtin "ValueError.__new__")),(some (.bool true))]⟩)::(nat_lit 36,⟨.type "dict", none,.dict #[eS P "__module__" 214 (vS "lonewalks.errors" 187),eS P "__firstlineno__" 218 (.int 4 217),eS P "__static_attributes__" 219 (.ref 35),eS P "__doc__" 220 .none] 2,#[]⟩)::(nat_lit 37,⟨.type "type", none,.cls ⟨.ofString "BadNet", [.ref 24],[.ref 37,.ref 24,.type "ValueError", .type "Exception", .type "BaseException", .type "object"],36,.ofString "BadNet", true,[],[],false,none,false⟩,#[(some (.ref 28)),none,(some (vS "BadNet" 207)),(some (vS "BadNet" 215)),(some (.builtin "ValueError.__new__")),(some (.bool true))]⟩)::(nat_lit 48,⟨.type "dict", none,.dict #[eS P "__module__" 230 (vS "lonewalks.errors" 187),eS P "__firstlineno__" 234 (.int 6 233),eS P "__static_attributes__" 235 (.ref 47),eS P "__doc__" 236 .none] 2,#[]⟩)::(nat_lit 49,⟨.type "type", none,.cls ⟨.ofString "BadWalk", [.ref 24],[.ref 49,.ref 24,.type "ValueError", .type "Exception", .type "BaseException", .type "object"],48,.ofString "BadWalk", true,[],[],false,none,false⟩,#[(some (.ref 40)),none,(some (vS "BadWalk" 223)),(some (vS "BadWalk" 231)),(some (.builtin "ValueError.__new__")),(some (.bool true))]⟩)::(nat_lit 60,⟨.type "dict", none,.dict #[eS P "__module__" 246 (vS "lonewalks.errors" 187),eS P "__firstlineno__" 250 (.int 8 249),eS P "__static_attributes__" 251 (.ref 59),eS P "__doc__" 252 .none] 2,#[]⟩)::(nat_lit 61,⟨.type "type", none,.cls ⟨.ofString "BadCompany", [.ref 24],[.ref 61,.ref 24,.type "ValueError", .type "Exception", .type "BaseException", .type "object"],60,.ofString "BadCompany", true,[],[],false,none,false⟩,#[(some (.ref 52)),none,(some (vS "BadCompany" 239)),(some (vS "BadCompany" 247)),(some (.builtin "ValueError.__new__")),(some (.bool true))]⟩)::(nat_lit 72,⟨.type "dict", none,.dict #[eS P "__module__" 262 (vS "lonewalks.errors" 187),eS P "__firstlineno__" 266 (.int 10 265),eS P "__static_attributes__" 267 (.ref 71),eS P "__doc__" 268 .none] 2,#[]⟩)::(nat_lit 73,⟨.type "type", none,.cls ⟨.ofString "NoNumber", [.ref 24],[.ref 73,.ref 24,.type "ValueError", .type "Exception", .type "BaseException", .type "object"],72,.ofString "NoNumber", true,[],[],false,none,false⟩,#[(some (.ref 64)),none,(some (vS "NoNumber" 255)),(some (vS "NoNumber" 263)),(some (.builtin "ValueError.__new__")),(some (.bool true))]⟩)::(nat_lit 81,cO "check_side" 279 "check_side" 280 281 16 1 76 77 .none (.ref 78) (.ref 79) (.ref 80) 283 16 284)::(nat_lit 82,fO "check_side" "check_side" (top 10) "lonewalks.nets" 271 81)::(nat_lit 86,cO "check_steps" 286 "check_steps" 287 288 19 3 83 84 .none .none .none (.ref 85) 289 19 290)::(nat_lit 87,fO "check_steps" "check_steps" (top 11) "lonewalks.nets" 271 86)::(nat_lit 93,cO "check_border" 292 "check_border" 293 294 27 2 88 89 .none (.ref 90) (.ref 91) (.ref 92) 299 27 300)::(nat_lit 94,fO "check_border" "check_border" (top 12) "lonewalks.nets" 271 93)::(nat_lit 105,cO "__init__" 314 "Net.__init__" 315 316 37 5 102 103 .none .none .none (.ref 104) 317 37 318)::(nat_lit 106,fO "__init__" "Net.__init__" (eN 13 0) "lonewalks.nets" 271 105)::(nat_lit 108,⟨.type "dict", none,.dict #[eS P "__module__" 309 (vS "lonewalks.nets" 271),eS P "__firstlineno__" 313 (.int 35 312),eS P "__init__" 319 (.ref 106),eS P "__static_attributes__" 326 (.ref 107),eS P "__dict__" 328 (.ref 110),eS P "__weakref__" 330 (.ref 111),eS P "__doc__" 331 .none] 4,#[]⟩)::(nat_lit 109,⟨.type "type", none,.cls ⟨.ofString "Net", [.type "object"],[.ref 109,.type "object"],108,.ofString "Net", true,[],[],false,none,false⟩,#[none,none,(some (vS "Net" 302)),(some (vS "Net" 310)),(some (.builtin "object.__new__")),(some (.bool true))]⟩)::(nat_lit 119,cO "lies_on" 334 "lies_on" 335 336 54 3 114 115 .none (.ref 116) (.ref 117) (.ref 118) 340 54 341)::(nat_lit 120,fO "lies_on" "lies_on" (top 14) "lonewalks.nets" 271 119)::(nat_lit 126,cO "step_weight" 343 "step_weight" 344 345 56 4 121 122 .none (.ref 123) (.ref 124) (.ref 125) 350 56 351)::(nat_lit 127,fO "step_weight" "step_weight" (top 15) "lonewalks.nets" 271 126)::(nat_lit 133,cO "place_behind" 353 "place_behind" 354 355 62 3 128 129 .none (.ref 130) (.ref 131) (.ref 132) 359 62 360)::(nat_lit 134,fO "place_behind" "place_behind" (top 16) "lonewalks.nets" 271 133)::(nat_lit 140,cO "places" 366 "places" 367 368 66 4 135 136 .none (.ref 137) (.ref 138) (.ref 139) 376 66 377)::(nat_lit 141,fO "places" "places" (top 19) "lonewalks.walks" 362 140)::(nat_lit 147,cO "weight" 379 "weight" 380 381 76 4 142 143 .none (.ref 144) (.ref 145) (.ref 146) 389 76 390)::(nat_lit 148,fO "weight" "weight" (top 20) "lonewalks.walks" 362 147)::(nat_lit 154,cO "walks" 392 "walks" 393 394 81 3 149 150 .none (.ref 151) (.ref 152) (.ref 153) 403 81 404)::(nat_lit 155,fO "walks" "walks" (top 21) "lonewalks.walks" 362 154)::(nat_lit 159,cO "walks_on" 406 "walks_on" 407 408 91 4 156 157 .none .none .none (.ref 158) 409 91 410)::(nat_lit 160,fO "walks_on" "walks_on" (top 22) "lonewalks.walks" 362 159)::(nat_lit 166,cO "places_of_walker" 414 "places_of_walker" 415 416 98 3 161 162 .none (.ref 163) (.ref 164) (.ref 165) 420 98 421)::(nat_lit 167,fO "places_of_walker" "places_of_walker" (top 24) "lonewalks.companies" 412 166)::(nat_lit 173,cO "end_at" 423 "end_at" 424 425 103 2 168 169 .none (.ref 170) (.ref 171) (.ref 172) 428 103 429)::(nat_lit 174,fO "end_at" "end_at" (top 25) "lonewalks.companies" 412 173)::(nat_lit 178,cO "ends_taken" 431 "ends_taken" 432 433 107 2 175 176 .none .none .none (.ref 177) 434 107 435)::(nat_lit 179,fO "ends_taken" "ends_taken" (top 26) "lonewalks.companies" 412 178)::(nat_lit 183,cO "places_of_all" 437 "places_of_all" 438 439 109 2 180 181 .none .none .none (.ref 182) 440 109 441)::(nat_lit 184,fO "places_of_all" "places_of_all" (top 27) "lonewalks.companies" 412 183)::(nat_lit 190,cO "order" 443 "order" 444 445 117 2 185 186 .none (.ref 187) (.ref 188) (.ref 189) 448 117 449)::(nat_lit 191,fO "order" "order" (top 28) "lonewalks.companies" 412 190)::(nat_lit 197,cO "least_other" 451 "least_other" 452 453 119 3 192 193 .none (.ref 194) (.ref 195) (.ref 196) 459 119 460)::(nat_lit 198,fO "least_other" "least_other" (top 29) "lonewalks.companies" 412 197)::(nat_lit 204,cO "first_meeting" 462 "first_meeting" 463 464 124 2 199 200 .none (.ref 201) (.ref 202) (.ref 203) 472 124 473)::(nat_lit 205,fO "first_meeting" "first_meeting" (top 30) "lonewalks.companies" 412 204)::(nat_lit 211,cO "steps_to" 475 "steps_to" 476 477 132 3 206 207 .none (.ref 208) (.ref 209) (.ref 210) 481 132 482)::(nat_lit 212,fO "steps_to" "steps_to" (top 31) "lonewalks.companies" 412 211)::(nat_lit 218,cO "exchanged" 484 "exchanged" 485 486 134 2 213 214 .none (.ref 215) (.ref 216) (.ref 217) 495 134 496)::(nat_lit 219,fO "exchanged" "exchanged" (top 32) "lonewalks.companies" 412 218)::(nat_lit 225,cO "climbed" 500 "climbed" 501 502 147 3 220 221 .none (.ref 222) (.ref 223) (.ref 224) 508 147 509)::(nat_lit 226,fO "climbed" "climbed" (top 34) "lonewalks.counts" 498 225)::(nat_lit 230,cO "sums_on_last_column" 511 "sums_on_last_column" 512 513 152 2 227 228 .none .none .none (.ref 229) 514 152 515)::(nat_lit 231,fO "sums_on_last_column" "sums_on_last_column" (top 35) "lonewalks.counts" 498 230)::(nat_lit 235,cO "table" 517 "table" 518 519 158 1 232 233 .none .none .none (.ref 234) 520 158 521)::(nat_lit 236,fO "table" "table" (top 36) "lonewalks.counts" 498 235)::(nat_lit 242,cO "first_row_to_use" 523 "first_row_to_use" 524 525 164 1 237 238 .none (.ref 239) (.ref 240) (.ref 241) 529 164 530)::(nat_lit 243,fO "first_row_to_use" "first_row_to_use" (top 37) "lonewalks.counts" 498 242)::(nat_lit 247,cO "reduced" 532 "reduced" 533 534 169 3 244 245 .none .none .none (.ref 246) 535 169 536)::(nat_lit 248,fO "reduced" "reduced" (top 38) "lonewalks.counts" 498 247)::(nat_lit 252,cO "det" 538 "det" 539 540 171 1 249 250 .none .none .none (.ref 251) 541 171 542)::(nat_lit 253,fO "det" "det" (top 39) "lonewalks.counts" 498 252)::(nat_lit 259,cO "lone_weight" 544 "lone_weight" 545 546 185 1 254 255 .none (.ref 256) (.ref 257) (.ref 258) 548 185 549)::(nat_lit 260,fO "lone_weight" "lone_weight" (top 40) "lonewalks.counts" 498 259)::(nat_lit 264,cO "ones_for_open" 551 "ones_for_open" 552 553 187 1 261 262 .none .none .none (.ref 263) 554 187 555)::(nat_lit 265,fO "ones_for_open" "ones_for_open" (top 41) "lonewalks.counts" 498 264)::(nat_lit 269,cO "how_many" 557 "how_many" 558 559 189 1 266 267 .none .none .none (.ref 268) 560 189 561)::(nat_lit 270,fO "how_many" "how_many" (top 42) "lonewalks.counts" 498 269)::(nat_lit 274,cO "without_step" 565 "without_step" 566 567 194 3 271 272 .none .none .none (.ref 273) 568 194 569)::(nat_lit 275,fO "without_step" "without_step" (top 44) "lonewalks.numbers" 563 274)::(nat_lit 281,cO "with_only_step" 571 "with_only_step" 572 573 203 3 276 277 .none (.ref 278) (.ref 279) (.ref 280) 577 203 578)::(nat_lit 282,fO "with_only_step" "with_only_step" (top 45) "lonewalks.numbers" 563 281)::(nat_lit 288,cO "how_many_go_right" 580 "how_many_go_right" 581 582 205 2 283 284 .none (.ref 285) (.ref 286) (.ref 287) 585 205 586)::(nat_lit 289,fO "how_many_go_right" "how_many_go_right" (top 46) "lonewalks.numbers" 563 288)::(nat_lit 302,cO "__init__" 600 "Search.__init__" 601 602 209 3 297 298 .none (.ref 299) (.ref 300) (.ref 301) 606 209 607)::(nat_lit 303,fO "__init__" "Search.__init__" (eN 47 0) "lonewalks.numbers" 563 302)::(nat_lit 309,cO "choose" 609 "Search.choose" 610 611 213 2 304 305 .none (.ref 306) (.ref 307) (.ref 308) 616 213 617)::(nat_lit 310,fO "choose" "Search.choose" (eN 47 1) "lonewalks.numbers" 563 309)::(nat_lit 312,⟨.type "dict", none,.dict #[eS P "__module__" 595 (vS "lonewalks.numbers" 563),eS P "__firstlineno__" 599 (.int 207 598),eS P "__init__" 608 (.ref 303),eS P "choose" 618 (.ref 310),eS P "__static_attributes__" 621 (.ref 311),eS P "__dict__" 623 (.ref 314),eS P "__weakref__" 625 (.ref 315),eS P "__doc__" 626 .none] 4,#[]⟩)::(nat_lit 313,⟨.type "type", none,.cls ⟨.ofString "Search", [.type "object"],[.ref 313,.type "object"],312,.ofString "Search", true,[],[],false,none,false⟩,#[none,none,(some (vS "Search" 588)),(some (vS "Search" 596)),(some (.builtin "object.__new__")),(some (.bool true))]⟩)::(nat_lit 323,cO "walk_found" 629 "walk_found" 630 631 222 3 318 319 .none (.ref 320) (.ref 321) (.ref 322) 638 222 639)::(nat_lit 324,fO "walk_found" "walk_found" (top 48) "lonewalks.numbers" 563 323)::(nat_lit 330,cO "company_at" 641 "company_at" 642 643 230 2 325 326 .none (.ref 327) (.ref 328) (.ref 329) 650 230 651)::(nat_lit 331,fO "company_at" "company_at" (top 49) "lonewalks.numbers" 563 330)::(nat_lit 337,cO "number_of" 653 "number_of" 654 655 238 2 332 333 .none (.ref 334) (.ref 335) (.ref 336) 664 238 665)::(nat_lit 338,fO "number_of" "number_of" (top 50) "lonewalks.numbers" 563 337)::(nat_lit 344,cO "_law_cell_at" 669 "_law_cell_at" 670 671 250 2 339 340 .none (.ref 341) (.ref 342) (.ref 343) 674 250 675)::(nat_lit 345,fO "_law_cell_at" "_law_cell_at" (top 52) "law_lonewalks_k17_refusals_apart" 667 344)::(nat_lit 351,cO "_law_mix" 677 "_law_mix" 678 679 254 3 346 347 .none (.ref 348) (.ref 349) (.ref 350) 685 254 686)::(nat_lit 352,fO "_law_mix" "_law_mix" (top 53) "law_lonewalks_k17_refusals_apart" 667 351)::(nat_lit 358,cO "_law_rows_by" 688 "_law_rows_by" 689 690 259 3 353 354 .none (.ref 355) (.ref 356) (.ref 357) 697 259 698)::(nat_lit 359,fO "_law_rows_by" "_law_rows_by" (top 54) "law_lonewalks_k17_refusals_apart" 667 358)::(nat_lit 365,cO "_law_step_by" 700 "_law_step_by" 701 702 265 3 360 361 .none (.ref 362) (.ref 363) (.ref 364) 707 265 708)::(nat_lit 366,fO "_law_step_by" "_law_step_by" (top 55) "law_lonewalks_k17_refusals_apart" 667 365)::(nat_lit 370,cO "_law_parts_by" 710 "_law_parts_by" 711 712 272 4 367 368 .none .none .none (.ref 369) 713 272 714)::(nat_lit 371,fO "_law_parts_by" "_law_parts_by" (top 56) "law_lonewalks_k17_refusals_apart" 667 370)::(nat_lit 375,cO "_law_net" 716 "_law_net" 717 718 286 1 372 373 .none .none .none (.ref 374) 719 286 720)::(nat_lit 376,fO "_law_net" "_law_net" (top 57) "law_lonewalks_k17_refusals_apart" 667 375)::(nat_lit 382,cO "_law_which" 722 "_law_which" 723 724 289 1 377 378 .none (.ref 379) (.ref 380) (.ref 381) 727 289 728)::(nat_lit 383,fO "_law_which" "_law_which" (top 58) "law_lonewalks_k17_refusals_apart" 667 382)::(nat_lit 389,cO "_law_met" 730 "_law_met" 731 732 294 2 384 385 .none (.ref 386) (.ref 387) (.ref 388) 736 294 737)::(nat_lit 390,fO "_law_met" "_law_met" (top 59) "law_lonewalks_k17_refusals_apart" 667 389)::(nat_lit 396,cO "law" 739 "law" 740 741 315 1 391 392 .none (.ref 393) (.ref 394) (.ref 395) 748 315 749)::(nat_lit 397,fO "law" "law" (top 60) "law_lonewalks_k17_refusals_apart" 667 396)::[]
def vw:Program:={ PySem.Challenge.pw_lonewalks_k17_refusals_apart with main:={ PySem.Challenge.pw_lonewalks_k17_refusals_apart.main with body:=khKeep.map top } }
end Lw
namespace Lw
open PySem PySem.W PyProof.Rows
abbrev khL:Life:={ debug:=0,thresholds:=[2000,10,10] }
abbrev khX(s:Shared):Bool:=xlAt vw [] s&&recOk (RowW.records (OpenRow.toRowW (OpenLaw.row PySem.Challenge.rw_lonewalks_k17_refusals_apart))) s
abbrev khH:Hook:=kHook khK nu (fun _=>by kernel_rfl)
set_option maxRecDepth 100000
theorem left1(w:World)(os:OsState):(j6 treeTable (OpenLaw.row PySem.Challenge.rw_lonewalks_k17_refusals_apart).prog w khN 11 khL (some (.ref 6)) os).map (fun r=>(staticsOk (importedModules (OpenLaw.row PySem.Challenge.rw_lonewalks_k17_refusals_apart).prog.main.body) (boot_heap w.params) r.abs.heap&&namesBound (OpenLaw.row PySem.Challenge.rw_lonewalks_k17_refusals_apart).prog r.abs.heap&&gensDone r.abs&&laidKept (boot_heap w.params) r.abs.heap,khH.obs r.abs))=some (true,khH.val w):=by
 rewrite[Fast.te5923862056798008813,Fast.te2368527892694137696,Fast.te14364793385576792824];kernel_rfl
theorem vg(w:World)(os:OsState):(j6 treeTable (OpenLaw.row PySem.Challenge.rw_lonewalks_k17_refusals_apart).prog w khN 11 khL (some (.ref 6)) os).map (fun r=>(openSeen vw [] (importedModules (OpenLaw.row PySem.Challenge.rw_lonewalks_k17_refusals_apart).prog.main.body) khX true r.abs).1)=some (openGood vw []).1:=by
 rewrite[Fast.te4187177175401517315,Fast.te5923862056798008813,Fast.te2368527892694137696,Fast.te14364793385576792824];kernel_rfl
theorem vh(w:World)(os:OsState):(j6 treeTable (OpenLaw.row PySem.Challenge.rw_lonewalks_k17_refusals_apart).prog w khN 11 khL (some (.ref 6)) os).map (fun r=>(openSeen vw [] (importedModules (OpenLaw.row PySem.Challenge.rw_lonewalks_k17_refusals_apart).prog.main.body) khX true r.abs).2)=some (openGood vw []).2:=by
 rewrite[Fast.te4187177175401517315,Fast.te5923862056798008813,Fast.te2368527892694137696,Fast.te14364793385576792824];kernel_rfl
theorem left:LeftO (OpenLaw.row PySem.Challenge.rw_lonewalks_k17_refusals_apart).prog vw [] khX khH.obs khH.val khN:=
 ue (n:=11) (life:=khL) (ann:=some (.ref 6)) (by kernel_rfl) (by kernel_rfl) (fun s=>by kernel_rfl) (fun P=>by kernel_rfl) (fun P=>by kernel_rfl) left1 vg vh
end Lw
namespace Lw
open Mi PySem
section
theorem bok{α β:Type}(a:α)(f:α->Res β):(Res.ok a >>= f)=f a:=rfl
theorem wd{α β:Type}(f:α->Res β):((Res.bad:Res α) >>= f)=.bad:=rfl
theorem fV{α β:Type}(C:Value)(f:α->Res β):((Res.exc C:Res α) >>= f)=.exc C:=rfl
theorem aok{α:Type}(a:α)(k:α->FOut):aft (Res.ok a) k=k a:=rfl
theorem j7{α:Type}(C:Value)(k:α->FOut):aft (Res.exc C:Res α) k=.exc C:=rfl
theorem iz(i:Int):(D.int i).tag=.f:=rfl
theorem rO(i:Str):(D.str i).tag=.f:=rfl
theorem uf(i:Bool):(D.bl i).tag=.f:=rfl
theorem rP:D.non.tag=.f:=rfl
theorem rQ(i:List D):(D.tup i).tag=.f:=rfl
theorem j8(t:Tg)(i:List D):(D.lst t i).tag=t:=rfl
theorem rR(t:Tg)(C:Addr)(i):(D.ins t C i).tag=t:=rfl
theorem rS(i:List Int):(D.scr i).tag=.f:=rfl
theorem oR(i:Int):(D.int i).rd=.int i:=rfl
theorem oS(i:Str):(D.str i).rd=.str i:=rfl
theorem vi(i:Bool):(D.bl i).rd=.bl i:=rfl
theorem ug:D.non.rd=.non:=rfl
theorem oU(i:List D):(D.tup i).rd=.tup i:=rfl
theorem oV(i:List D):(D.lst .f i).rd=.lst .f i:=rfl
theorem oW(i:List D):(D.lst .o i).rd=.lst .b i:=rfl
theorem oX(i:List Int):(D.scr i).rd=.scr i:=rfl
theorem mx(C:Addr)(i):(D.ins .f C i).rd=.ins .f C i:=rfl
theorem uh(p C:Addr)(i):(D.slf p C i).rd=.ins .b C i:=rfl
theorem ay(i:Int):(D.int i).fz=.int i:=rfl
theorem cB(i:Str):(D.str i).fz=.str i:=rfl
theorem dQ(i:Bool):(D.bl i).fz=.bl i:=rfl
theorem dl:D.non.fz=.non:=rfl
theorem lK(i:List D):(D.tup i).fz=.tup (D.fzs i):=rfl
theorem bo(t:Tg)(i:List D):(D.lst t i).fz=.lst .f (D.fzs i):=rfl
theorem cV(t:Tg)(C:Addr)(i):(D.ins t C i).fz=.ins .f C i:=rfl
theorem aA:D.fzs []=[]:=rfl
theorem aq(x:D)(r:List D):D.fzs (x::r)=x.fz::D.fzs r:=rfl
theorem jK(i j:Int):aX (.int i) (.int j)=.ok (.int (i+j)):=rfl
theorem vj(i j:Int):de (.int i) (.int j)=.ok (.int (i - j)):=rfl
theorem nv(i j:Int)(h:-(2 ^ 64)<j/\j<2 ^ 64):ci (.int i) (.int j)=.ok (.int (i*j)):=by
 unfold ci gI;simp only;rw[if_pos (by rw[Bool.or_eq_true];right;rw[Bool.and_eq_true,decide_eq_true_eq,decide_eq_true_eq];exact h)]
theorem hJ(i j:Int)(h:-(2 ^ 64)<i/\i<2 ^ 64):ci (.int i) (.int j)=.ok (.int (i*j)):=by
 unfold ci gI;simp only;rw[if_pos (by rw[Bool.or_eq_true];left;rw[Bool.and_eq_true,decide_eq_true_eq,decide_eq_true_eq];exact h)]
theorem em(i j:Int)(h:0<j):b7 (.int i) (.int j)=.ok (.int (i % j)):=by
 unfold b7 gI;simp only;rw[if_pos (by simpa using h)]
theorem oY(i j:Int)(h:0<j/\j<1073741824):jl (.int i) (.int j)=.ok (.int (i / j)):=by
 unfold jl gI;simp only;rw[if_pos (by rw[Bool.and_eq_true,decide_eq_true_eq,decide_eq_true_eq];exact h)]
theorem oZ(ns:List Int):bq [.scr ns]=.ok (.int ns.length):=rfl
theorem ui(i j:Int):dLt (.int i) (.int j)=.ok (.bl (decide (i<j))):=rfl
theorem we(i j:Int):dLe (.int i) (.int j)=.ok (.bl (decide (i<=j))):=rfl
theorem qj(i j:Int):dGt (.int i) (.int j)=.ok (.bl (decide (j<i))):=rfl
theorem wf(i j:Int):dGe (.int i) (.int j)=.ok (.bl (decide (j<=i))):=rfl
theorem bnf(b:Bool):(false != b)=b:=by cases b<;>rfl
theorem nw(i j:Int):dEq (.int i) (.int j)=.ok (.bl (decide (i=j))):=congrArg (fun b=>Res.ok (D.bl b)) (bnf _)
theorem qE(i j:Str):dEq (.str i) (.str j)=.ok (.bl (decide (i=j))):=congrArg (fun b=>Res.ok (D.bl b)) (bnf _)
theorem ny(i j:Int):cU true (.int i) (.int j)=.ok (.bl (!decide (i=j))):=congrArg (fun b=>Res.ok (D.bl b)) (by cases decide (i=j)<;>rfl)
theorem gF(b:Bool):asB (.bl b)=.ok b:=rfl
theorem ntb{t:Tg}(h:(t == .b)=false):t≠.b:=by
 intro z;subst z
 cases h
theorem uj:(Tg.f == Tg.b)=false:=rfl
theorem uk:(Tg.o == Tg.b)=false:=rfl
theorem cC(i:Nat)(ρ:ac)(d:D)(h:ρ[i]?=some (some d)):ad i ρ=.ok d.rd:=by unfold ad;rw[h]
end
end Lw
local macro_rules | `(tactic| simp_arith [$ts,*])=>`(tactic| simp only[Lw.bok,Lw.wd,Lw.fV,Lw.aok,Lw.j7,Mi.aJ,Mi.az,Mi.gIf,Mi.aE,Mi.bj,Mi.aV,Mi.ft2,Mi.ftB,Mi.b8,Mi.f2,Mi.f1,Mi.fC,Mi.fFz,Mi.ad,Mi.fCB,Mi.aa,Mi.ag,Mi.bT,Mi.eJ,Mi.nb,List.all_cons,List.all_nil,List.length_cons,List.length_nil,List.map_cons,List.map_nil,Lw.iz,Lw.rO,Lw.uf,Lw.rP,Lw.rQ,Lw.j8,Lw.rR,Lw.rS,Lw.oR,Lw.oS,Lw.vi,Lw.ug,Lw.oU,Lw.oV,Lw.oW,Lw.oX,Lw.mx,Lw.uh,Lw.ay,Lw.cB,Lw.dQ,Lw.dl,Lw.lK,Lw.bo,Lw.cV,Lw.aA,Lw.aq,Lw.jK,Lw.vj,Lw.ui,Lw.we,Lw.qj,Lw.wf,Lw.nw,Lw.qE,Lw.ny,Lw.gF,Lw.uj,Lw.uk,List.getElem?_cons_zero,List.getElem?_cons_succ,List.set_cons_zero,List.set_cons_succ,List.replicate,List.cons_append,List.nil_append,reduceCtorEq,false_or,or_false,or_self,if_false,if_true,ite_true,ite_false,Nat.reduceAdd,Nat.reduceSub,Nat.reduceLeDiff,Nat.zero_add,Bool.and_true,Bool.true_and,Bool.not_true,Bool.not_false,decide_true,decide_false,$ts,*])
namespace Lw
open Mi PySem
def cell(ns:List Int)(k:Nat):Int:=(ns[k]?).getD 0
theorem my(a:Ads)(ns:List Int)(k:Nat):av a [.scr ns,.int k]=.ok (.int (cell ns k)):=by
 by_cases h:(k:Int)<ns.length
 ·have hk:k<ns.length:=by lia
  have hx:L2.atI ns (k:Int)=some (ns[k]):=by
   unfold L2.atI L2.ixN;rw[if_pos (by lia),if_pos h];exact List.getElem?_eq_getElem hk
  have hd:dIx (.scr ns) (.int k)=.ok (.int (cell ns k)):=by
   show (match L2.atI ns (k:Int) with | some v=>Res.ok (D.int v) | none=>.bad)=_;rw[hx,cell,List.getElem?_eq_getElem hk];rfl
  simp_arith [av,ee,oZ,h,hd]
 ·have hc:cell ns k=0:=by rw[cell,List.getElem?_eq_none (by lia)];rfl
  simp_arith [av,ee,oZ,h,hc]
theorem iA{t:Tg}(xs:List Int)(i:Int)(h0:0<=i)(h1:i<xs.length):dIx (.lst t (xs.map D.int)) (.int i)=.ok (.int (xs.getD i.toNat 0)):=by
 have hj:i.toNat<xs.length:=by lia
 have e:L2.ixN (xs.map D.int).length i=some i.toNat:=by
  unfold L2.ixN;rw[List.length_map,if_pos h0,if_pos h1]
 unfold dIx;simp only[e];have g:(xs.map D.int)[i.toNat]?=some (.int (xs.getD i.toNat 0)):=by rw[List.getElem?_map,List.getD,List.getElem?_eq_getElem hj];rfl
 cases t
 ·show be ((xs.map D.int)[i.toNat]?.map D.asF)=_;rw[g];rfl
 ·show be ((xs.map D.int)[i.toNat]?)=_;rw[g];rfl
 ·show be ((xs.map D.int)[i.toNat]?.map D.rd)=_;rw[g];rfl
def tbl:List Int:=[48271,69621,16807,39373,30269,40014,40692,50021,61687,71993,83869,95561,30307]
def tb(k:Int):Int:=tbl.getD (k % 13).toNat 0
def cg(c k many:Int):Int:=((c % 2147483647+12345)*tb k*(2*(k / 13)+1)+977*k) % 1000000007 / 7 % many
theorem jL(a:Ads)(c k many:Int)(k0:0<=k)(k1:k<1000000)(hm:0<many):br a [.int c,.int k,.int many]=.ok (.int (cg c k many)):=by
 have hi:=iA (t:=.f) tbl (k % 13) (by lia) (by show k % 13<13;lia);have hi':dIx (D.lst .f [D.int 48271,D.int 69621,D.int 16807,D.int 39373,D.int 30269,D.int 40014,D.int 40692,D.int 50021,D.int 61687,D.int 71993,D.int 83869,D.int 95561,D.int 30307]) (.int (k % 13))=.ok (.int (tb k)):=hi;have hz:(13:Nat)<=sizeLine:=by decide
 have b1:tb k<100000:=by
  have:∀ j,tbl.getD j 0<100000:=by
   intro j;simp only[tbl]
   match j with
   | 0 | 1 | 2 | 3 | 4 | 5 | 6 | 7 | 8 | 9 | 10 | 11 | 12=>decide
   |n+13=>simp
  exact this _
 have b0:-1<tb k:=by
  have:∀ j,-1<tbl.getD j 0:=by
   intro j;simp only[tbl]
   match j with
   | 0 | 1 | 2 | 3 | 4 | 5 | 6 | 7 | 8 | 9 | 10 | 11 | 12=>decide
   |n+13=>simp
  exact this _
 have hz:(13:Nat)<=sizeLine:=by decide
 simp_arith [br,jF,hz,hi',em c 2147483647 (by decide),em k 13 (by decide),nv _ (tb k) (by lia),oY k 13 (by decide),hJ 2 _ (by decide),nv _ (2*(k / 13)+1) (by lia),hJ 977 _ (by decide),em _ 1000000007 (by decide),oY _ 7 (by decide),em _ many hm,cg]
theorem bH{n:Nat}{F:List D->Res D}{fa:ac->Res (List D)}{ρ:ac}{ds:List D}{d:D}(h:fa ρ=.ok ds)(hn:ds.length=n)(hF:F (D.fzs ds)=.ok d)(ha:d.atom=true):al n F fa ρ=.ok d:=by
 unfold al;rw[h,bok,if_pos hn];unfold cZ;rw[hF];show (if _ then _ else _)=_;rw[if_pos (.inr ha)]
theorem iB(c k many:Int)(h:0<many):0<=cg c k many/\cg c k many<many:=⟨Int.emod_nonneg _ (by lia),Int.emod_lt_of_pos _ h⟩
def db(c k shut:Int):Int:=if cg c k shut=0 then 0 else if cg c k shut=1 then [1000,c % 1001].getD (cg c (k+500) 2).toNat 0 else 1+cg c (k+900) 5
theorem lL(c k shut:Int)(h:0<shut):0<=db c k shut/\db c k shut<=1000:=by
 unfold db;split
 ·lia
 ·split
  ·have h2:=iB c (k+500) 2 (by decide)
   have:cg c (k+500) 2=0\/cg c (k+500) 2=1:=by lia
   rcases this with e | e<;>rw[e] <;> simp<;>lia
  ·have:=iB c (k+900) 5 (by decide)
   lia
theorem mz(a:Ads)(c k shut:Int)(k0:0<=k)(k1:k<900000)(hs:0<shut):bb a [.int c,.int k,.int shut]=.ok (.int (db c k shut)):=by
 have m1:∀ (e:Option D),al 3 (br a) (aa (ad 0) (aa (ad 1) (aa (ad 2) ag))) [some (.int c),some (.int k),some (.int shut),e]=.ok (.int (cg c k shut)):=fun e=>
  bH (ds:=[.int c,.int k,.int shut]) rfl rfl (by rw[aq,aq,aq,aA,ay,ay,ay];exact jL a c k shut k0 (by lia) hs) rfl
 have m2:∀ (e:Option D),al 3 (br a) (aa (ad 0) (aa (f2 aX (ad 1) (fC (.int 500))) (aa (fC (.int 2)) ag))) [some (.int c),some (.int k),some (.int shut),e]=.ok (.int (cg c (k+500) 2)):=fun e=>
  bH (ds:=[.int c,.int (k+500),.int 2]) rfl rfl (by rw[aq,aq,aq,aA,ay,ay,ay];exact jL a c (k+500) 2 (by lia) (by lia) (by decide)) rfl
 have m3:∀ (e:Option D),al 3 (br a) (aa (ad 0) (aa (f2 aX (ad 1) (fC (.int 900))) (aa (fC (.int 5)) ag))) [some (.int c),some (.int k),some (.int shut),e]=.ok (.int (cg c (k+900) 5)):=fun e=>
  bH (ds:=[.int c,.int (k+900),.int 5]) rfl rfl (by rw[aq,aq,aq,aA,ay,ay,ay];exact jL a c (k+900) 5 (by lia) (by lia) (by decide)) rfl
 have hz:(2:Nat)<=sizeLine:=by decide
 have h2:=iB c (k+500) 2 (by decide);have hix:dIx (D.lst .o [D.int 1000,D.int (c % 1001)]) (.int (cg c (k+500) 2))=.ok (.int ([1000,c % 1001].getD (cg c (k+500) 2).toNat 0)):=iA (t:=.o) [1000,c % 1001] _ h2.1 h2.2;unfold db;by_cases h0:cg c k shut=0
 ·simp_arith [bb,c9,m1,h0]
 ·by_cases h1:cg c k shut=1
  ·simp_arith [bb,c9,m1,m2,h1,hz,hix,em c 1001 (by decide),Int.reduceEq]
  ·simp_arith [bb,c9,m1,m3,h0,h1]
theorem kG{α β:Type}(f:α->β):∀ (l:List α) (q:Nat),(l.map f).eraseIdx q=(l.eraseIdx q).map f
 | [],_=>rfl
 |_::_,0=>rfl
 |x::l,q+1=>by simp[kG f l q]
theorem jM{α:Type}:∀ (l:List α) (q:Nat) (h:q<l.length),(l[q]::l.eraseIdx q).Perm l
 |x::l,0,_=>.refl _
 |x::l,q+1,h=>by
  have h':q<l.length:=by simpa using h
  exact (List.Perm.swap x _ _).trans (List.Perm.cons x (jM l q h'))
def stR(c many rows:Int)(L Fd:List Int)(e:Option D):ac:=[some (.int c),some (.int many),some (.int rows),some (.lst .o (L.map D.int)),some (.lst .o (Fd.map D.int)),e]
abbrev fkR(a:Ads):ac->Res D:=al 3 (br a) (aa (ad 0) (aa (f2 ci (fC (.int 7)) (ad 5)) (aa (fCB bq (aa (ad 3) ag)) ag)))
theorem rT(t:Tg)(xs:List D):bq [.lst t xs]=.ok (.int xs.length):=rfl
theorem qk(a:Ads)(c many rows:Int)(L Fd:List Int)(j:Nat)(hj:j<1000)(hL:0<L.length)(hL8:L.length<1000)(hF:Fd.length<1000) :
    ∃ q:Nat,∃ hq:q<L.length,cM 4 3 (fkR a) (stR c many rows L Fd (some (.int (0+(j:Int)))))=.nx (stR c many rows (L.eraseIdx q) (Fd++[L[q]]) (some (.int (0+(j:Int))))):=by
 have hm:=iB c (7*(0+(j:Int))) L.length (by lia);have hz:Fd.length<sizeLine:=Nat.lt_trans hF (by decide);refine ⟨(cg c (7*(0+(j:Int))) L.length).toNat,by lia,?_⟩;have hk:fkR a (stR c many rows L Fd (some (.int (0+(j:Int)))))=.ok (.int (cg c (7*(0+(j:Int))) L.length)):=by
  refine bH (ds:=[.int c,.int (7*(0+(j:Int))),.int L.length]) ?_ rfl ?_ rfl
  ·simp_arith [stR,rT,List.length_map,hJ 7 _ (by decide)]
  ·rw[aq,aq,aq,aA,ay,ay,ay]
   exact jL a c _ _ (by lia) (by lia) (by lia)
 have hs:seqIndex? (cg c (7*(0+(j:Int))) L.length) (L.map D.int).length=some (cg c (7*(0+(j:Int))) L.length).toNat:=by
  refine (L2.mh ?_).1;unfold L2.ixN;rw[List.length_map,if_pos hm.1,if_pos hm.2]
 have hg:(L.map D.int)[(cg c (7*(0+(j:Int))) L.length).toNat]?=some (.int (L[(cg c (7*(0+(j:Int))) L.length).toNat]'(by lia))):=by
  rw[List.getElem?_map,List.getElem?_eq_getElem (by lia)];rfl
 have e4:(stR c many rows L Fd (some (.int (0+(j:Int)))))[4]?=some (some (.lst .o (Fd.map D.int))):=rfl;have e3:(stR c many rows L Fd (some (.int (0+(j:Int)))))[3]?=some (some (.lst .o (L.map D.int))):=rfl;unfold cM;simp only[e4,e3,hk,aok,hs,hg];rw[if_neg (by rw[iz,List.length_map];simp only[reduceCtorEq,false_or];lia)];rw[kG];simp[stR]
theorem dt{gt:D->ac->Res ac}{gb:ac->FOut}{x:D}{xs:List D}{ρ ρ1 ρ2:ac}{o:FOut}(h1:gt x ρ=.ok ρ1)(h2:gb ρ1=.nx ρ2)(h3:bM gt gb xs ρ2=o):bM gt gb (x::xs) ρ=o:=by
 show (match gt x ρ with
  | .ok ρ1=>match gb ρ1 with
   | .nx ρ2=>bM gt gb xs ρ2
   | .ct ρ2=>bM gt gb xs ρ2
   | .bk ρ2=>.nx ρ2
   |r=>r
  |_=>.bad)=o
 rw[h1];simp only[h2,h3]
theorem kH(a:Ads)(c many rows:Int):∀ (m i:Nat) (L Fd:List Int) (e:Option D),m<=L.length->L.length<1000->i+m<1000->Fd.length+m<1000 →
    ∃ L' Fd' e',bM (aB 5) (cM 4 3 (fkR a)) ((List.range' i m).map fun (j:Nat)=>D.int (0+(j:Int))) (stR c many rows L Fd e)=.nx (stR c many rows L' Fd' e')/\(L'++Fd').Perm (L++Fd)/\Fd'.length=Fd.length+m
 | 0,i,L,Fd,e,_,_,_,_=>⟨L,Fd,e,rfl,.refl _,rfl⟩
 |m+1,i,L,Fd,e,h1,h2,h3,h4=>by
  obtain ⟨q,hq,hs⟩:=qk a c many rows L Fd i (by lia) (by lia) h2 (by lia);have hl:(L.eraseIdx q).length=L.length - 1:=List.length_eraseIdx_of_lt hq;obtain ⟨L',Fd',e',k1,k2,k3⟩:=kH a c many rows m (i+1) (L.eraseIdx q) (Fd++[L[q]]) (some (.int (0+(i:Int)))) (by lia) (by lia) (by lia) (by simp;lia);refine ⟨L',Fd',e',?_,k2.trans ?_,by rw[k3];simp;lia⟩
  ·rw[List.range'_succ,List.map_cons]
   exact dt rfl hs k1
  ·have p:(L[q]::L.eraseIdx q).Perm L:=jM L q hq
   refine List.Perm.trans ?_ (List.Perm.append_right Fd p);rw[<- List.append_assoc,List.cons_append];exact List.perm_append_singleton _ _
structure Rising (rows:Int) (many:Nat) (L:List Int):Prop where
 len:L.length=many
 asc:L.Pairwise (· < ·)
 inn:∀ x∈L,0<=x/\x<rows
theorem dA{fa:ac->Res (List D)}{ρ:ac}{n:Nat}(h:fa ρ=.ok [.int (n:Int)])(hn:n<1000):b4 fa ρ=.ok (aI 0 n):=by
 have h1:-(2 ^ 62)<=(n:Int):=by lia
 have h2:(n:Int)<2 ^ 62:=by lia
 unfold b4;rw[h,bok];show (if (decide (-(2 ^ 62)<=(n:Int))&&decide ((n:Int)<2 ^ 62))=true then Res.ok (aI 0 (n:Int).toNat) else .bad)=_;rw[if_pos (by rw[Bool.and_eq_true,decide_eq_true_eq,decide_eq_true_eq];exact ⟨h1,h2⟩),Int.toNat_natCast]
theorem kI{fa:ac->Res (List D)}{ρ:ac}{n:Nat}(h:fa ρ=.ok [.int (n:Int)])(hn:n<1000):cL fa ρ=.ok (.lst .o (aI 0 n)):=by
 have hl:(aI 0 n).length<=1000000:=by
  have:(aI 0 n).length=n:=by simp[aI]
  lia
 unfold cL;rw[dA h hn,bok,if_pos hl]
theorem b6:∀ L:List Int,D.fzs (L.map D.int)=L.map D.int
 | []=>aA
 |x::L=>by rw[List.map_cons,aq,ay,b6 L]
theorem o3(t:Tg)(L:List Int)(hi:D.its (.lst t (L.map D.int))=some (L.map D.int))(h:L.length<64):cF [.lst t (L.map D.int)]=.ok (.lst .o ((c7 L).map D.int)):=by
 unfold cF;simp only[hi,mZ];rw[if_pos ⟨rfl,h⟩]
theorem kJ(n:Nat):aI 0 n=((List.range n).map fun (i:Nat)=>(0+(i:Int))).map D.int:=by simp[aI]
theorem vk(L:List Int):D.its (.lst .b (L.map D.int))=some (L.map D.int):=by
 show (if ((L.map D.int).all fun x=>x.tag == Tg.f)=true then some (L.map D.int) else none)=_;refine if_pos ?_;rw[List.all_eq_true];intro x hx;obtain ⟨i,_,rfl⟩:=List.mem_map.mp hx;rfl
theorem j9{N:Nat}{g:ac->FOut}{ds:List D}{d:D}(h:g (ds.map some++List.replicate (N - ds.length) none)=.rt d):aJ N g ds=.ok d:=by unfold aJ;rw[h]
def ka(c:Int)(many rows:Nat):ac:=[some (.int c),some (.int many),some (.int rows),none,none,none]
def nz(c:Int)(many rows:Nat):ac:=[some (.int c),some (.int many),some (.int rows),some (.lst .o (aI 0 rows)),none,none]
abbrev L0(rows:Nat):List Int:=(List.range rows).map fun (i:Nat)=>(0+(i:Int))
theorem rr1(c:Int)(many rows:Nat)(hr:rows<1000):aE 3 (cL (aa (ad 2) ag)) (ka c many rows)=.nx (nz c many rows):=by
 have fl:cL (aa (ad 2) ag) (ka c many rows)=.ok (.lst .o (aI 0 rows)):=kI (by simp_arith [ka]) hr;unfold aE;rw[fl,aok,j8,if_neg (by simp[ka])];simp only[ka,nz,List.set_cons_zero,List.set_cons_succ]
theorem rr2(c:Int)(many rows:Nat):aE 4 (bT ag) (nz c many rows)=.nx (stR c many rows (L0 rows) [] none):=by
 have hz:(0:Nat)<=sizeLine:=Nat.zero_le _;simp_arith [stR,nz,kJ,hz]
theorem rr3(a:Ads)(c:Int)(many rows:Nat)(hm:many<1000){r:ac}(k1:bM (aB 5) (cM 4 3 (fkR a)) (aI 0 many) (stR c many rows (L0 rows) [] none)=.nx r) :
    dW (b4 (aa (ad 1) ag)) (aB 5) (cM 4 3 (fkR a)) (stR c many rows (L0 rows) [] none)=.nx r:=by
 have ff:b4 (aa (ad 1) ag) (stR c many rows (L0 rows) [] none)=.ok (aI 0 many):=dA (by simp_arith [stR]) hm;unfold dW;rw[ff,aok];exact k1
theorem rr4(c many rows:Int)(L' Fd:List Int)(e':Option D)(hF:Fd.length<64):bj (fCB cF (aa (ad 4) ag)) (stR c many rows L' Fd e')=.rt (.lst .o ((c7 Fd).map D.int)):=by
 have fs:fCB cF (aa (ad 4) ag) (stR c many rows L' Fd e')=.ok (.lst .o ((c7 Fd).map D.int)):=by
  simp_arith [stR];exact o3 .b Fd (vk Fd) hF
 unfold bj;rw[fs,aok,j8,if_neg (by simp)]
theorem aK{g1 g2:ac->FOut}{r r':ac}(h:g1 r=.nx r'):az g1 g2 r=g2 r':=by unfold az;rw[h]
theorem rr5(a:Ads)(c:Int)(many rows:Nat)(hm:many<1000)(hr:rows<1000){L' Fd:List Int}{e':Option D}
    (k1:bM (aB 5) (cM 4 3 (fkR a)) (aI 0 many) (stR c many rows (L0 rows) [] none)=.nx (stR c many rows L' Fd e')) (hF:Fd.length<64):eh a (ka c many rows)=.rt (.lst .o ((c7 Fd).map D.int)):=by
 unfold eh;rw[aK (rr1 c many rows hr),aK (rr2 c many rows),aK (rr3 a c many rows hm k1)];exact rr4 c many rows L' Fd e' hF
theorem ql(a:Ads)(c:Int)(many rows:Nat)(hm:many<1000)(hr:rows<1000){L' Fd:List Int}{e':Option D}
    (k1:bM (aB 5) (cM 4 3 (fkR a)) (aI 0 many) (stR c many rows (L0 rows) [] none)=.nx (stR c many rows L' Fd e')) (hF:Fd.length<64) :
    bt a [.int c,.int many,.int rows]=.ok (.lst .o ((c7 Fd).map D.int)):=by
 have gg:=rr5 a c many rows hm hr k1 hF;exact j9 gg
theorem rV(a:Ads)(c:Int)(many rows:Nat)(h1:many<=rows)(h2:rows<=8):∃ L,bt a [.int c,.int many,.int rows]=.ok (.lst .o (L.map D.int))/\Rising rows many L:=by
 obtain ⟨L',Fd,e',k1,k2,k3⟩:=kH a c many rows many 0 ((List.range rows).map fun (i:Nat)=>(0+(i:Int))) [] none (by simp;lia) (by simp;lia) (by lia) (by simp;lia);have hr:aI 0 many=(List.range' 0 many).map fun (j:Nat)=>D.int (0+(j:Int)):=by rw[aI,List.range_eq_range']
 rw[<- hr] at k1;have kl:Fd.length=many:=by rw[k3];simp
 have nd:(L'++Fd).Nodup:=by
  refine (k2.nodup_iff).mpr ?_;rw[List.append_nil];exact List.Pairwise.map _ (fun a b h z=>h (by lia)) (List.nodup_range (n:=rows))
 have inn:∀ x∈Fd,0<=x/\x<rows:=fun x hx=>by
  have:=k2.subset (List.mem_append_right L' hx);simp at this;obtain ⟨i,hi,rfl⟩:=this;lia
 refine ⟨c7 Fd,ql a c many rows (by lia) (by lia) k1 (by lia),by rw[(dI Fd).length_eq,kl],?_,fun x hx=>inn x ((dI Fd).subset hx)⟩;have h1:=gW Fd;have h2:(c7 Fd).Nodup:=((dI Fd).nodup_iff).mpr (List.nodup_append.mp nd).2.1;exact (List.pairwise_and_iff.mpr ⟨h1,h2⟩).imp fun ⟨x,y⟩=>by lia
def onI(f:Int->D):D->D:=fun d=>match d with | .int x=>f x | d=>d
theorem iC(f:Int->D)(x:Int):onI f (.int x)=f x:=rfl
theorem kK{rest:ac}{fe:ac->Res D}{h:D->D}:∀ (items:List D) (e:Option D) (acc:List D),(∀ x∈items,fe (some x::rest)=.ok (h x)/\(h x).tag≠.b)->acc.length+items.length<=1000 →
    bp (aB 0) aO fe items (e::rest) acc=.ok (acc++items.map h)
 | [],_,acc,_,_=>by rw[List.map_nil,List.append_nil];rfl
 |x::xs,e,acc,hh,hl=>by
  have hz:¬ sizeLine<=acc.length:=by
   have:(1000:Nat)<sizeLine:=by decide
   simp at hl;lia
  obtain ⟨h1,h2⟩:=hh x List.mem_cons_self;unfold bp;have ht:aB 0 x (e::rest)=.ok (some x::rest):=by
   unfold aB;rw[if_neg (by simp)];rfl
  rw[ht,bok];show (aO (some x::rest) >>= _)=_;rw[show aO (some x::rest)=.ok true from rfl,bok,if_pos rfl,h1,bok,if_neg (fun z=>z.elim h2 hz)];rw[kK xs (some x) (acc++[h x]) (fun y hy=>hh y (List.mem_cons_of_mem _ hy)) (by simp at hl ⊢;lia)];simp
theorem fT{cap:List Nat}{fi:ac->Res (List D)}{fe:ac->Res D}{ρ:ac}{items:List D}(h:D->D)(hi:fi ρ=.ok items)(hh:∀ x∈items,fe (some x::cap.map (aL ρ))=.ok (h x)/\(h x).tag≠.b)(hl:items.length<=1000) :
    aT 1 cap fi (aB 0) aO fe ρ=.ok (.lst .o (items.map h)):=by
 unfold aT;rw[hi,bok];have:=kK (rest:=cap.map (aL ρ)) (fe:=fe) (h:=h) items none [] hh (by simpa using hl);show (match bp (aB 0) aO fe items (none::cap.map (aL ρ)) [] with
  | .ok ds=>Res.ok (D.lst .o ds)
  |_=>.bad)=_
 rw[this];rfl
theorem jN{n:Nat}{F:List D->Res D}{fa:ac->Res (List D)}{ρ:ac}{ds:List D}{d:D}(h:fa ρ=.ok ds)(hn:ds.length=n)(hF:F (D.fzs ds)=.ok d)(ha:d.atom=true):cz n F fa ρ=.ok d:=by
 unfold cz;rw[h,bok,if_pos hn];have:cZ F ds=.ok d:=by
  unfold cZ;rw[hF];show (if _ then _ else _)=_;rw[if_pos (.inr ha)]
 rw[this]
theorem eI{n:Nat}{x:D}(h:x∈aI 0 n):∃ i:Nat,i<n/\x=.int i:=by
 unfold aI at h;obtain ⟨i,hi,rfl⟩:=List.mem_map.mp h;exact ⟨i,List.mem_range.mp hi,by simp⟩
def ah(t:Tg)(g:List (List Int)):List D:=g.map fun r=>D.lst t (r.map D.int)
def aM(c shut:Int)(cols rows:Nat):List (List Int):=(List.range rows).map fun (y:Nat)=>(List.range cols).map fun (x:Nat)=>db c (10*(y:Int)+(x:Int)) shut
def aW(c shut:Int)(cols rows:Nat):List (List Int):=(List.range rows).map fun (y:Nat)=>(List.range cols).map fun (x:Nat)=>db c (200+10*(y:Int)+(x:Int)) shut
abbrev feR(a:Ads):ac->Res D:=aT 1 [0,1,3] (b4 (aa (f2 de (ad 2) (fC (.int 1))) ag)) (aB 0) aO (cz 3 (bb a) (aa (ad 3) (aa (f2 aX (f2 ci (fC (.int 10)) (ad 1)) (ad 0)) (aa (ad 2) ag))))
theorem o6(a:Ads)(c shut:Int)(cols y:Nat)(hs:0<shut)(hc:cols<100)(hy:y<100) :
    feR a [some (.int y),some (.int shut),some (.int ((cols:Int)+1)),some (.int c)]=.ok (.lst .o ((aI 0 cols).map (onI fun (x:Int)=>D.int (db c (10*(y:Int)+x) shut)))):=by
 refine fT (items:=aI 0 cols) _ (dA ?_ (by lia)) (fun d hd=>?_) (by simp[aI];lia)
 ·simp_arith []
  congr 3;lia
 ·obtain ⟨x,hx,rfl⟩:=eI hd
  refine ⟨?_,ntb rfl⟩;refine jN (ds:=[.int c,.int (10*(y:Int)+(x:Int)),.int shut]) ?_ rfl ?_ rfl
  ·simp_arith [aL,hJ 10 _ (by decide)]
  ·rw[aq,aq,aq,aA,ay,ay,ay]
   exact mz a c _ shut (by lia) (by lia) hs
theorem kb(cols:Nat)(f:Int->Int):((aI 0 cols).map (onI fun (x:Int)=>D.int (f x)))=((List.range cols).map fun (x:Nat)=>f (x:Int)).map D.int:=by
 unfold aI;rw[List.map_map,List.map_map];refine List.map_congr_left fun x _=>?_;simp only[Function.comp_apply,iC,Int.zero_add]
theorem nA(a:Ads)(c shut:Int)(cols rows:Nat)(hs:0<shut)(hc:cols<100)(hr:rows<100){ρ:ac}(h3:ρ[3]?=some (some (.int shut)))(h4:ρ[4]?=some (some (.int ((cols:Int)+1))))(h5:ρ[5]?=some (some (.int rows)))(h6:ρ[6]?=some (some (.int c))) :
    aT 1 [3,4,6] (b4 (aa (ad 5) ag)) (aB 0) aO (feR a) ρ=.ok (.lst .o (ah .o (aM c shut cols rows))):=by
 have e:=fT (cap:=[3,4,6]) (fi:=b4 (aa (ad 5) ag)) (fe:=feR a) (ρ:=ρ) (items:=aI 0 rows) ((onI fun (y:Int)=>D.lst .o (((List.range cols).map fun (x:Nat)=>db c (10*y+(x:Int)) shut).map D.int)))
  (dA (by unfold aa ag;rw[cC 5 ρ _ h5];simp_arith []) (by lia)) (fun d hd=>?_) (by simp[aI];lia)
 ·rw[e]
  congr 2;unfold aI ah aM;rw[List.map_map,List.map_map];refine List.map_congr_left fun y _=>?_;simp only[Function.comp_apply,iC,Int.zero_add]
 ·obtain ⟨y,hy,rfl⟩:=eI hd
  refine ⟨?_,ntb rfl⟩;have hcap:[3,4,6].map (aL ρ)=[some (.int shut),some (.int ((cols:Int)+1)),some (.int c)]:=by
   simp only[List.map_cons,List.map_nil,aL,h3,h4,h6,iz,if_true]
  rw[hcap,o6 a c shut cols y hs hc (by lia),kb cols fun x=>db c (10*(y:Int)+x) shut,iC]
abbrev feU(a:Ads):ac->Res D:=aT 1 [0,1,3] (b4 (aa (ad 2) ag)) (aB 0) aO (cz 3 (bb a) (aa (ad 3) (aa (f2 aX (f2 aX (fC (.int 200)) (f2 ci (fC (.int 10)) (ad 1))) (ad 0)) (aa (ad 2) ag))))
theorem um(a:Ads)(c shut:Int)(cols y:Nat)(hs:0<shut)(hc:cols<100)(hy:y<100) :
    feU a [some (.int y),some (.int shut),some (.int (cols:Int)),some (.int c)]=.ok (.lst .o ((aI 0 cols).map (onI fun (x:Int)=>D.int (db c (200+10*(y:Int)+x) shut)))):=by
 refine fT (items:=aI 0 cols) _ (dA ?_ (by lia)) (fun d hd=>?_) (by simp[aI];lia)
 ·simp_arith []
 ·obtain ⟨x,hx,rfl⟩:=eI hd
  refine ⟨?_,ntb rfl⟩;refine jN (ds:=[.int c,.int (200+10*(y:Int)+(x:Int)),.int shut]) ?_ rfl ?_ rfl
  ·simp_arith [aL,hJ 10 _ (by decide)]
  ·rw[aq,aq,aq,aA,ay,ay,ay]
   exact mz a c _ shut (by lia) (by lia) hs
theorem rW(a:Ads)(c shut:Int)(cols rows:Nat)(hs:0<shut)(hc:cols<100)(hr:rows<100){ρ:ac}(h3:ρ[3]?=some (some (.int shut)))(h4:ρ[4]?=some (some (.int (cols:Int))))(h5:ρ[5]?=some (some (.int ((rows:Int)+1))))(h6:ρ[6]?=some (some (.int c))) :
    aT 1 [3,4,6] (b4 (aa (f2 de (ad 5) (fC (.int 1))) ag)) (aB 0) aO (feU a) ρ=.ok (.lst .o (ah .o (aW c shut cols rows))):=by
 have e:=fT (cap:=[3,4,6]) (fi:=b4 (aa (f2 de (ad 5) (fC (.int 1))) ag)) (fe:=feU a) (ρ:=ρ) (items:=aI 0 rows) ((onI fun (y:Int)=>D.lst .o (((List.range cols).map fun (x:Nat)=>db c (200+10*y+(x:Int)) shut).map D.int)))
  (dA (by
   unfold aa ag f2 fC
   rw[cC 5 ρ _ h5]
   simp_arith []
   congr 3
   lia) (by lia)) (fun d hd=>?_) (by simp[aI];lia)
 ·rw[e]
  congr 2;unfold aI ah aW;rw[List.map_map,List.map_map];refine List.map_congr_left fun y _=>?_;simp only[Function.comp_apply,iC,Int.zero_add]
 ·obtain ⟨y,hy,rfl⟩:=eI hd
  refine ⟨?_,ntb rfl⟩;have hcap:[3,4,6].map (aL ρ)=[some (.int shut),some (.int (cols:Int)),some (.int c)]:=by
   simp only[List.map_cons,List.map_nil,aL,h3,h4,h6,iz,if_true]
  rw[hcap,um a c shut cols y hs hc (by lia)];exact congrArg (fun l=>Res.ok (D.lst Tg.o l)) (kb cols fun x=>db c (200+10*(y:Int)+x) shut)
theorem cG(t:Tg):∀ g:List (List Int),D.fzs (ah t g)=ah .f g
 | []=>aA
 |r::g=>by
  show D.fzs (D.lst t (r.map D.int)::ah t g)=_;rw[aq,bo,b6,cG t g];rfl
structure Parts where
 cols:Nat
 rows:Nat
 right:List (List Int)
 up:List (List Int)
 starts:List Int
 ends:List Int
def Parts.d(p:Parts):D:=.tup [.lst .f (ah .f p.right),.lst .f (ah .f p.up),.lst .f (p.starts.map D.int),.lst .f (p.ends.map D.int)]
structure Good (most walkers:Nat) (p:Parts):Prop where
 c1:1<=p.cols/\p.cols<=most
 r1:1<=p.rows/\p.rows<=most
 rl:p.right.length=p.rows
 rr:∀ r∈p.right,r.length+1=p.cols/\∀ v∈r,0<=v/\v<=1000
 ul:p.up.length+1=p.rows
 ur:∀ r∈p.up,r.length=p.cols/\∀ v∈r,0<=v/\v<=1000
 many:∃ m,1<=m/\m<=walkers/\Rising p.rows m p.starts/\Rising p.rows m p.ends
theorem qm(c shut:Int)(cols rows:Nat)(hs:0<shut):(aM c shut cols rows).length=rows/\∀ r∈aM c shut cols rows,r.length=cols/\∀ v∈r,0<=v/\v<=1000:=by
 refine ⟨by simp[aM],fun r hr=>?_⟩;obtain ⟨y,_,rfl⟩:=List.mem_map.mp hr;refine ⟨by simp,fun v hv=>?_⟩;obtain ⟨x,_,rfl⟩:=List.mem_map.mp hv;exact lL _ _ _ hs
theorem qo(c shut:Int)(cols rows:Nat)(hs:0<shut):(aW c shut cols rows).length=rows/\∀ r∈aW c shut cols rows,r.length=cols/\∀ v∈r,0<=v/\v<=1000:=by
 refine ⟨by simp[aW],fun r hr=>?_⟩;obtain ⟨y,_,rfl⟩:=List.mem_map.mp hr;refine ⟨by simp,fun v hv=>?_⟩;obtain ⟨x,_,rfl⟩:=List.mem_map.mp hv;exact lL _ _ _ hs
theorem cW(ns:List Int):(D.scr ns).fz=.scr ns:=rfl
theorem o7{i:Nat}{f:ac->Res D}{ρ:ac}{d:D}(h:f ρ=.ok d)(hb:d.tag≠.b)(hi:i<ρ.length):aE i f ρ=.nx (ρ.set i (some d)):=by
 unfold aE;rw[h,aok,if_neg (fun z=>z.elim hb (by lia))]
theorem qF{f:ac->Res D}{ρ:ac}{d:D}(h:f ρ=.ok d)(hb:d.tag≠.b):fFz f ρ=.ok d.fz:=by
 unfold fFz;rw[h,bok,if_neg hb]
theorem di{i:Nat}{f:ac->Res D}{ρ:ac}{d:D}(h:f ρ=.ok d)(hb:d.tag≠.b)(hi:i<ρ.length):aE i (fFz f) ρ=.nx (ρ.set i (some d.fz)):=o7 (qF h hb) (by rw[d.fz_tag];decide) hi
theorem bI{f:ac->Res D}{g:ac->Res (List D)}{ρ:ac}{d:D}{ds:List D}(h1:f ρ=.ok d)(h2:g ρ=.ok ds):aa f g ρ=.ok (d::ds):=by unfold aa;rw[h1,bok,h2,bok]
theorem fE{g:D->D->Res D}{f1 f2':ac->Res D}{ρ:ac}{x y:D}(h1:f1 ρ=.ok x)(h2:f2' ρ=.ok y):f2 g f1 f2' ρ=g x y:=by unfold f2;rw[h1,bok,h2,bok]
theorem qp{n:Nat}{F:List D->Res D}{fa:ac->Res (List D)}{ρ:ac}{ds:List D}{d:D}(h:fa ρ=.ok ds)(hn:ds.length=n)(hF:F (D.fzs ds)=.ok d)(hb:nb ds=true)(ht:d.tag≠.b):al n F fa ρ=.ok d:=by
 unfold al;rw[h,bok,if_pos hn];unfold cZ;rw[hF];show (if _ then _ else _)=_;rw[if_pos (.inl ⟨hb,ht⟩)]
theorem dB(a:Ads)(ns:List Int)(k:Nat){ρ:ac}(h:ρ[0]?=some (some (.scr ns))):al 2 (av a) (aa (ad 0) (aa (fC (.int (k:Int))) ag)) ρ=.ok (.int (cell ns k)):=by
 refine bH (ds:=[.scr ns,.int k]) ?_ rfl ?_ rfl
 ·unfold aa ag fC
  rw[cC 0 ρ _ h];rfl
 ·rw[aq,aq,aA,cW,ay]
  exact my a ns k
theorem lM(a:Ads)(ns:List Int)(k:Nat){ρ:ac}(j:Nat)(m:Int)(h:ρ[0]?=some (some (.scr ns)))(hj:ρ[j]?=some (some (.int m)))(hm:0<m) :
    f2 aX (fC (.int 1)) (f2 b7 (al 2 (av a) (aa (ad 0) (aa (fC (.int (k:Int))) ag))) (ad j)) ρ=.ok (.int (1+cell ns k % m)):=by
 rw[fE (x:=.int 1) rfl ((fE (dB a ns k h) (cC j ρ _ hj)).trans (em _ _ hm)),jK]
theorem kL(a:Ads)(ns:List Int)(k:Nat)(many rows:Nat){ρ:ac}(h:ρ[0]?=some (some (.scr ns)))(h9:ρ[9]?=some (some (.int many)))(h5:ρ[5]?=some (some (.int rows)))(h1:many<=rows)(h2:rows<=8) :
    ∃ L,al 3 (bt a) (aa (al 2 (av a) (aa (ad 0) (aa (fC (.int (k:Int))) ag))) (aa (ad 9) (aa (ad 5) ag))) ρ=.ok (.lst .o (L.map D.int))/\Rising rows many L:=by
 obtain ⟨L,e,r⟩:=rV a (cell ns k) many rows h1 h2;refine ⟨L,?_,r⟩;refine qp (ds:=[.int (cell ns k),.int many,.int rows]) (bI (dB a ns k h) (bI (cC 9 ρ _ h9) (bI (cC 5 ρ _ h5) rfl))) rfl ?_ rfl (ntb rfl);rw[aq,aq,aq,aA,ay,ay,ay,e]
theorem lN(rows many:Nat)(h:many<=rows):Rising rows many ((List.range many).map fun (i:Nat)=>(0+(i:Int))):=by
 refine ⟨by simp,List.Pairwise.map _ (fun a b h=>by lia) (List.pairwise_lt_range (n:=many)),fun x hx=>?_⟩;obtain ⟨i,hi,rfl⟩:=List.mem_map.mp hx;have:=List.mem_range.mp hi;lia
theorem nD(rows many:Nat)(h:many<=rows):Rising rows many ((List.range many).map fun (i:Nat)=>((rows:Int) - many+(i:Int))):=by
 refine ⟨by simp,List.Pairwise.map _ (fun a b h=>by lia) (List.pairwise_lt_range (n:=many)),fun x hx=>?_⟩;obtain ⟨i,hi,rfl⟩:=List.mem_map.mp hx;have:=List.mem_range.mp hi;lia
def E0(ns:List Int)(most walkers:Nat)(shut:Int)(v4 v5 v6 v7 v8 v9:Option D):ac:=[some (.scr ns),some (.int most),some (.int walkers),some (.int shut),v4,v5,v6,v7,v8,v9,none,none]
def E1(ns:List Int)(most walkers:Nat)(shut:Int)(C R:Nat)(c:Int)(r u:D)(M:Nat)(st en:Option D):ac:=
 [some (.scr ns),some (.int most),some (.int walkers),some (.int shut),some (.int ((C:Int)+1)),some (.int ((R+1:Nat):Int)),some (.int c),some r,some u,some (.int M),st,en]
theorem qr(a:Ads)(ns:List Int)(most walkers:Nat)(shut:Int)(hm:1<=most)(hm8:most<=8)(hw:1<=walkers)(hs:0<shut):∃ p:Parts,Good most walkers p/\∃ d,bZ a [.scr ns,.int most,.int walkers,.int shut]=.ok d/\d=p.d:=by
 obtain ⟨C,hC,hC2⟩:∃ C:Nat,1+cell ns 0 % (most:Int)=(C:Int)+1/\C<most:=⟨(cell ns 0 % (most:Int)).toNat,by have:=Int.emod_nonneg (cell ns 0) (b:=(most:Int)) (by lia);lia,by have:=Int.emod_lt_of_pos (cell ns 0) (b:=(most:Int)) (by lia);have:=Int.emod_nonneg (cell ns 0) (b:=(most:Int)) (by lia);lia⟩
 obtain ⟨R,hR,hR2⟩:∃ R:Nat,1+cell ns 1 % (most:Int)=(R:Int)+1/\R<most:=⟨(cell ns 1 % (most:Int)).toNat,by have:=Int.emod_nonneg (cell ns 1) (b:=(most:Int)) (by lia);lia,by have:=Int.emod_lt_of_pos (cell ns 1) (b:=(most:Int)) (by lia);have:=Int.emod_nonneg (cell ns 1) (b:=(most:Int)) (by lia);lia⟩
 have hmn:0<(if ((R:Int)+1)<(walkers:Int) then ((R:Int)+1) else (walkers:Int)):=by split<;>lia
 obtain ⟨M,hM,hM2,hM3⟩:∃ M:Nat,1+cell ns 4 % (if ((R:Int)+1)<(walkers:Int) then ((R:Int)+1) else (walkers:Int))=(M:Int)/\1<=M/\M<=R+1/\M<=walkers:=by
  have h1:=Int.emod_nonneg (cell ns 4) (b:=(if ((R:Int)+1)<(walkers:Int) then ((R:Int)+1) else (walkers:Int))) (by lia);have h2:=Int.emod_lt_of_pos (cell ns 4) hmn;refine ⟨(1+cell ns 4 % (if ((R:Int)+1)<(walkers:Int) then ((R:Int)+1) else (walkers:Int))).toNat,by lia,by lia,?_,?_⟩ <;> split at h2<;>split<;>lia
 obtain ⟨L1,s1,r1⟩:=kL a ns 5 M (R+1) (ρ:=E1 ns most walkers shut C R (cell ns 3) (.lst .f (ah .f (aM (cell ns 2) shut C (R+1)))) (.lst .f (ah .f (aW (cell ns 3) shut (C+1) R))) M none none) rfl rfl rfl (by lia) (by lia)
 obtain ⟨L2,s2,r2⟩:=kL a ns 6 M (R+1) (ρ:=E1 ns most walkers shut C R (cell ns 3) (.lst .f (ah .f (aM (cell ns 2) shut C (R+1)))) (.lst .f (ah .f (aW (cell ns 3) shut (C+1) R))) M (some (.lst .f (L1.map D.int))) none) rfl rfl rfl (by lia) (by lia)
 have h4:aE 4 (fFz (f2 aX (fC (.int 1)) (f2 b7 (al 2 (av a) (aa (ad 0) (aa (fC (.int 0)) ag))) (ad 1)))) (E0 ns most walkers shut none none none none none none)=.nx (E0 ns most walkers shut (some (.int ((C:Int)+1))) none none none none none):=by
  have:=di (i:=4) (ρ:=E0 ns most walkers shut none none none none none none) (lM a ns 0 1 most rfl rfl (by lia)) (ntb rfl) (by show 4<12;decide);rw[hC,ay] at this;exact this
 have h5:aE 5 (fFz (f2 aX (fC (.int 1)) (f2 b7 (al 2 (av a) (aa (ad 0) (aa (fC (.int 1)) ag))) (ad 1)))) (E0 ns most walkers shut (some (.int ((C:Int)+1))) none none none none none)=.nx (E0 ns most walkers shut (some (.int ((C:Int)+1))) (some (.int ((R+1:Nat):Int))) none none none none):=by
  have:=di (i:=5) (ρ:=E0 ns most walkers shut (some (.int ((C:Int)+1))) none none none none none) (lM a ns 1 1 most rfl rfl (by lia)) (ntb rfl) (by show 5<12;decide);rw[hR,ay] at this;exact this
 have h6:aE 6 (fFz (al 2 (av a) (aa (ad 0) (aa (fC (.int 2)) ag)))) (E0 ns most walkers shut (some (.int ((C:Int)+1))) (some (.int ((R+1:Nat):Int))) none none none none)=.nx (E0 ns most walkers shut (some (.int ((C:Int)+1))) (some (.int ((R+1:Nat):Int))) (some (.int (cell ns 2))) none none none):=by
  have:=di (i:=6) (ρ:=E0 ns most walkers shut (some (.int ((C:Int)+1))) (some (.int ((R+1:Nat):Int))) none none none none) (dB a ns 2 rfl) (ntb rfl) (by show 6<12;decide);rw[ay] at this;exact this
 have h7:aE 7 (fFz (aT 1 [3,4,6] (b4 (aa (ad 5) ag)) (aB 0) aO (feR a))) (E0 ns most walkers shut (some (.int ((C:Int)+1))) (some (.int ((R+1:Nat):Int))) (some (.int (cell ns 2))) none none none)=.nx (E0 ns most walkers shut (some (.int ((C:Int)+1))) (some (.int ((R+1:Nat):Int))) (some (.int (cell ns 2))) (some (.lst .f (ah .f (aM (cell ns 2) shut C (R+1))))) none none):=by
  have:=di (i:=7) (ρ:=E0 ns most walkers shut (some (.int ((C:Int)+1))) (some (.int ((R+1:Nat):Int))) (some (.int (cell ns 2))) none none none) (nA a (cell ns 2) shut C (R+1) hs (by lia) (by lia) rfl rfl rfl rfl) (ntb rfl) (by show 7<12;decide);rw[bo,cG] at this;exact this
 have h6b:aE 6 (fFz (al 2 (av a) (aa (ad 0) (aa (fC (.int 3)) ag)))) (E0 ns most walkers shut (some (.int ((C:Int)+1))) (some (.int ((R+1:Nat):Int))) (some (.int (cell ns 2))) (some (.lst .f (ah .f (aM (cell ns 2) shut C (R+1))))) none none)=.nx (E0 ns most walkers shut (some (.int ((C:Int)+1))) (some (.int ((R+1:Nat):Int))) (some (.int (cell ns 3))) (some (.lst .f (ah .f (aM (cell ns 2) shut C (R+1))))) none none):=by
  have:=di (i:=6) (ρ:=(E0 ns most walkers shut (some (.int ((C:Int)+1))) (some (.int ((R+1:Nat):Int))) (some (.int (cell ns 2))) (some (.lst .f (ah .f (aM (cell ns 2) shut C (R+1))))) none none)) (dB a ns 3 rfl) (ntb rfl) (by show 6<12;decide);rw[ay] at this;exact this
 have h8:aE 8 (fFz (aT 1 [3,4,6] (b4 (aa (f2 de (ad 5) (fC (.int 1))) ag)) (aB 0) aO (feU a))) (E0 ns most walkers shut (some (.int ((C:Int)+1))) (some (.int ((R+1:Nat):Int))) (some (.int (cell ns 3))) (some (.lst .f (ah .f (aM (cell ns 2) shut C (R+1))))) none none)=.nx (E0 ns most walkers shut (some (.int ((C:Int)+1))) (some (.int ((R+1:Nat):Int))) (some (.int (cell ns 3))) (some (.lst .f (ah .f (aM (cell ns 2) shut C (R+1))))) (some (.lst .f (ah .f (aW (cell ns 3) shut (C+1) R)))) none):=by
  have:=di (i:=8) (ρ:=(E0 ns most walkers shut (some (.int ((C:Int)+1))) (some (.int ((R+1:Nat):Int))) (some (.int (cell ns 3))) (some (.lst .f (ah .f (aM (cell ns 2) shut C (R+1))))) none none)) (rW a (cell ns 3) shut (C+1) R hs (by lia) (by lia) rfl rfl rfl rfl) (ntb rfl) (by show 8<12;decide);rw[bo,cG] at this;exact this
 have h9:aE 9 (fFz (f2 aX (fC (.int 1)) (f2 b7 (al 2 (av a) (aa (ad 0) (aa (fC (.int 4)) ag))) (fCB gv (aa (ad 2) (aa (ad 5) ag)))))) (E0 ns most walkers shut (some (.int ((C:Int)+1))) (some (.int ((R+1:Nat):Int))) (some (.int (cell ns 3))) (some (.lst .f (ah .f (aM (cell ns 2) shut C (R+1))))) (some (.lst .f (ah .f (aW (cell ns 3) shut (C+1) R)))) none)=.nx (E1 ns most walkers shut C R (cell ns 3) (.lst .f (ah .f (aM (cell ns 2) shut C (R+1)))) (.lst .f (ah .f (aW (cell ns 3) shut (C+1) R))) M none none):=by
  have e:=(fE (g:=aX) (f1:=fC (.int 1)) (x:=.int 1) (ρ:=(E0 ns most walkers shut (some (.int ((C:Int)+1))) (some (.int ((R+1:Nat):Int))) (some (.int (cell ns 3))) (some (.lst .f (ah .f (aM (cell ns 2) shut C (R+1))))) (some (.lst .f (ah .f (aW (cell ns 3) shut (C+1) R)))) none)) rfl ((fE (g:=b7) (dB a ns 4 rfl) (show fCB gv (aa (ad 2) (aa (ad 5) ag)) (E0 ns most walkers shut (some (.int ((C:Int)+1))) (some (.int ((R+1:Nat):Int))) (some (.int (cell ns 3))) (some (.lst .f (ah .f (aM (cell ns 2) shut C (R+1))))) (some (.lst .f (ah .f (aW (cell ns 3) shut (C+1) R)))) none)=.ok (.int (if ((R:Int)+1)<(walkers:Int) then ((R:Int)+1) else (walkers:Int))) from rfl)).trans (em _ _ hmn))).trans (jK _ _)
  have:=di (i:=9) e (ntb rfl) (by show 9<12;decide);rw[hM,ay] at this;exact this
 have h10:aE 10 (fFz (al 3 (bt a) (aa (al 2 (av a) (aa (ad 0) (aa (fC (.int 5)) ag))) (aa (ad 9) (aa (ad 5) ag))))) (E1 ns most walkers shut C R (cell ns 3) (.lst .f (ah .f (aM (cell ns 2) shut C (R+1)))) (.lst .f (ah .f (aW (cell ns 3) shut (C+1) R))) M none none)=.nx (E1 ns most walkers shut C R (cell ns 3) (.lst .f (ah .f (aM (cell ns 2) shut C (R+1)))) (.lst .f (ah .f (aW (cell ns 3) shut (C+1) R))) M (some (.lst .f (L1.map D.int))) none):=by
  have:=di (i:=10) s1 (ntb rfl) (by show 10<12;decide);rw[bo,b6] at this;exact this
 have h11:aE 11 (fFz (al 3 (bt a) (aa (al 2 (av a) (aa (ad 0) (aa (fC (.int 6)) ag))) (aa (ad 9) (aa (ad 5) ag))))) (E1 ns most walkers shut C R (cell ns 3) (.lst .f (ah .f (aM (cell ns 2) shut C (R+1)))) (.lst .f (ah .f (aW (cell ns 3) shut (C+1) R))) M (some (.lst .f (L1.map D.int))) none)=.nx (E1 ns most walkers shut C R (cell ns 3) (.lst .f (ah .f (aM (cell ns 2) shut C (R+1)))) (.lst .f (ah .f (aW (cell ns 3) shut (C+1) R))) M (some (.lst .f (L1.map D.int))) (some (.lst .f (L2.map D.int)))):=by
  have:=di (i:=11) s2 (ntb rfl) (by show 11<12;decide);rw[bo,b6] at this;exact this
 have hret:∀ S T:List Int,bj (eJ (aa (ad 7) (aa (ad 8) (aa (ad 10) (aa (ad 11) ag))))) (E1 ns most walkers shut C R (cell ns 3) (.lst .f (ah .f (aM (cell ns 2) shut C (R+1)))) (.lst .f (ah .f (aW (cell ns 3) shut (C+1) R))) M (some (.lst .f ((S).map D.int))) (some (.lst .f ((T).map D.int))))=.rt (Parts.d ⟨C+1,R+1,aM (cell ns 2) shut C (R+1),aW (cell ns 3) shut (C+1) R,S,T⟩):=fun S T=>by
  have hz:(4:Nat)<=sizeLine:=by decide
  simp_arith [E1,hz,cG,b6,Parts.d]
 have htest:ft2 dGt (f2 b7 (al 2 (av a) (aa (ad 0) (aa (fC (.int 7)) ag))) (fC (.int 3))) (fC (.int 0)) (E1 ns most walkers shut C R (cell ns 3) (.lst .f (ah .f (aM (cell ns 2) shut C (R+1)))) (.lst .f (ah .f (aW (cell ns 3) shut (C+1) R))) M (some (.lst .f ((L1).map D.int))) (some (.lst .f ((L2).map D.int))))=.ok (decide (0<cell ns 7 % 3)):=by
  have hc7:(al 2 (av a) (aa (ad 0) (aa (fC (.int 7)) ag))) (E1 ns most walkers shut C R (cell ns 3) (.lst .f (ah .f (aM (cell ns 2) shut C (R+1)))) (.lst .f (ah .f (aW (cell ns 3) shut (C+1) R))) M (some (.lst .f ((L1).map D.int))) (some (.lst .f ((L2).map D.int))))=.ok (.int (cell ns 7)):=dB a ns 7 rfl
  have hx:f2 dGt (f2 b7 (al 2 (av a) (aa (ad 0) (aa (fC (.int 7)) ag))) (fC (.int 3))) (fC (.int 0)) (E1 ns most walkers shut C R (cell ns 3) (.lst .f (ah .f (aM (cell ns 2) shut C (R+1)))) (.lst .f (ah .f (aW (cell ns 3) shut (C+1) R))) M (some (.lst .f ((L1).map D.int))) (some (.lst .f ((L2).map D.int))))=.ok (.bl (decide (0<cell ns 7 % 3))):=
   (fE (g:=dGt) (y:=.int 0) ((fE (g:=b7) (y:=.int 3) hc7 rfl).trans (em _ _ (by decide))) rfl).trans (qj _ _)
  unfold ft2;rw[hx,bok,gF]
 have hgood:∀ S T:List Int,Rising ((R+1:Nat):Int) M S->Rising ((R+1:Nat):Int) M T->Good most walkers ⟨C+1,R+1,aM (cell ns 2) shut C (R+1),aW (cell ns 3) shut (C+1) R,S,T⟩:=fun S T q1 q2=>by
  have g1:=qm (cell ns 2) shut C (R+1) hs;have g2:=qo (cell ns 3) shut (C+1) R hs;exact ⟨⟨by show 1<=C+1;lia,by show C+1<=most;lia⟩,⟨by show 1<=R+1;lia,by show R+1<=most;lia⟩,g1.1,fun r hr=>⟨by rw[(g1.2 r hr).1],(g1.2 r hr).2⟩,by rw[g2.1],fun r hr=>g2.2 r hr,M,hM2,hM3.2,q1,q2⟩
 have go:∀ S T:List Int,gIf (ft2 dGt (f2 b7 (al 2 (av a) (aa (ad 0) (aa (fC (.int 7)) ag))) (fC (.int 3))) (fC (.int 0))) (az (aE 10 (fFz (cL (aa (ad 9) ag)))) (aE 11 (fFz (aT 1 [5,9] (b4 (aa (ad 9) ag)) (aB 0) aO (f2 aX (f2 de (ad 1) (ad 2)) (ad 0)))))) aV (E1 ns most walkers shut C R (cell ns 3) (.lst .f (ah .f (aM (cell ns 2) shut C (R+1)))) (.lst .f (ah .f (aW (cell ns 3) shut (C+1) R))) M (some (.lst .f ((L1).map D.int))) (some (.lst .f ((L2).map D.int))))=.nx (E1 ns most walkers shut C R (cell ns 3) (.lst .f (ah .f (aM (cell ns 2) shut C (R+1)))) (.lst .f (ah .f (aW (cell ns 3) shut (C+1) R))) M (some (.lst .f ((S).map D.int))) (some (.lst .f ((T).map D.int)))) →
     bZ a [.scr ns,.int most,.int walkers,.int shut]=.ok (Parts.d ⟨C+1,R+1,aM (cell ns 2) shut C (R+1),aW (cell ns 3) shut (C+1) R,S,T⟩):=fun S T hif=>by
  refine j9 ?_;show dO a (E0 ns most walkers shut none none none none none none)=_;unfold dO;rw[aK h4,aK h5,aK h6,aK h7,aK h6b,aK h8,aK h9,aK h10,aK h11,aK hif];exact hret S T
 by_cases ht:0<cell ns 7 % 3
 ·have k10:aE 10 (fFz (cL (aa (ad 9) ag))) (E1 ns most walkers shut C R (cell ns 3) (.lst .f (ah .f (aM (cell ns 2) shut C (R+1)))) (.lst .f (ah .f (aW (cell ns 3) shut (C+1) R))) M (some (.lst .f ((L1).map D.int))) (some (.lst .f ((L2).map D.int))))=.nx (E1 ns most walkers shut C R (cell ns 3) (.lst .f (ah .f (aM (cell ns 2) shut C (R+1)))) (.lst .f (ah .f (aW (cell ns 3) shut (C+1) R))) M (some (.lst .f (((List.range M).map fun (i:Nat)=>(0+(i:Int))).map D.int))) (some (.lst .f ((L2).map D.int)))):=by
     have:=di (i:=10) (ρ:=(E1 ns most walkers shut C R (cell ns 3) (.lst .f (ah .f (aM (cell ns 2) shut C (R+1)))) (.lst .f (ah .f (aW (cell ns 3) shut (C+1) R))) M (some (.lst .f ((L1).map D.int))) (some (.lst .f ((L2).map D.int))))) (kI (n:=M) (fa:=aa (ad 9) ag) rfl (by lia)) (ntb rfl) (by show 10<12;decide);rw[kJ,bo,b6] at this;exact this
  have k11:aE 11 (fFz (aT 1 [5,9] (b4 (aa (ad 9) ag)) (aB 0) aO (f2 aX (f2 de (ad 1) (ad 2)) (ad 0)))) (E1 ns most walkers shut C R (cell ns 3) (.lst .f (ah .f (aM (cell ns 2) shut C (R+1)))) (.lst .f (ah .f (aW (cell ns 3) shut (C+1) R))) M (some (.lst .f (((List.range M).map fun (i:Nat)=>(0+(i:Int))).map D.int))) (some (.lst .f ((L2).map D.int))))=.nx (E1 ns most walkers shut C R (cell ns 3) (.lst .f (ah .f (aM (cell ns 2) shut C (R+1)))) (.lst .f (ah .f (aW (cell ns 3) shut (C+1) R))) M (some (.lst .f (((List.range M).map fun (i:Nat)=>(0+(i:Int))).map D.int))) (some (.lst .f (((List.range M).map fun (i:Nat)=>(((R+1:Nat):Int) - (M:Int)+(i:Int))).map D.int)))):=by
   have e:=fT (cap:=[5,9]) (fi:=b4 (aa (ad 9) ag)) (fe:=f2 aX (f2 de (ad 1) (ad 2)) (ad 0)) (ρ:=(E1 ns most walkers shut C R (cell ns 3) (.lst .f (ah .f (aM (cell ns 2) shut C (R+1)))) (.lst .f (ah .f (aW (cell ns 3) shut (C+1) R))) M (some (.lst .f (((List.range M).map fun (i:Nat)=>(0+(i:Int))).map D.int))) (some (.lst .f ((L2).map D.int))))) (items:=aI 0 M) ((onI fun (x:Int)=>D.int (((R+1:Nat):Int) - (M:Int)+x))) (dA rfl (by lia)) (fun d hd=>by
    obtain ⟨x,hx,rfl⟩:=eI hd
    exact ⟨rfl,ntb rfl⟩) (by simp[aI];lia)
   have:=di (i:=11) e (ntb rfl) (by show 11<12;decide);rw[bo] at this;have hm2:((aI 0 M).map (onI fun (x:Int)=>D.int (((R+1:Nat):Int) - (M:Int)+x)))=((List.range M).map fun (i:Nat)=>(((R+1:Nat):Int) - (M:Int)+(i:Int))).map D.int:=kb M fun x=>((R+1:Nat):Int) - (M:Int)+x;have hm3:=congrArg (fun l=>D.fzs l) hm2;refine this.trans ?_
   refine (congrArg (fun l=>FOut.nx (List.set (E1 ns most walkers shut C R (cell ns 3) (.lst .f (ah .f (aM (cell ns 2) shut C (R+1)))) (.lst .f (ah .f (aW (cell ns 3) shut (C+1) R))) M (some (.lst .f (((List.range M).map fun (i:Nat)=>(0+(i:Int))).map D.int))) (some (.lst .f ((L2).map D.int)))) 11 (some (.lst .f l)))) (hm3.trans (b6 _))).trans rfl
  refine ⟨_,hgood _ _ (lN (R+1) M (by lia)) (nD (R+1) M (by lia)),_,go _ _ ?_,rfl⟩;unfold gIf;rw[htest,aok,decide_eq_true ht,if_pos rfl,aK k10];exact k11
 ·refine ⟨_,hgood _ _ r1 r2,_,go _ _ ?_,rfl⟩
  unfold gIf;rw[htest,aok,decide_eq_false ht,if_neg (by decide)];rfl
theorem fF{p p':Int->Int->Bool}{fa fb fc:ac->Res D}{ρ:ac}{i j k:Int}(h1:fa ρ=.ok (.int i))(h2:fb ρ=.ok (.int j))(h3:fc ρ=.ok (.int k)):bw p p' fa fb fc ρ=.ok (.bl (p i j&&p' j k)):=by
 unfold bw;rw[h1,bok,h2,bok];show (if p i j=true then fc ρ >>= _ else _)=_;by_cases h:p i j=true
 ·rw[if_pos h,h3,bok,h,Bool.true_and]
 ·rw[if_neg h]
  have:p i j=false:=by simpa using h
  rw[this,Bool.false_and]
theorem iD{f:ac->Res D}{g:ac->FOut}{ρ:ac}(h:f ρ=.ok (.bl true)):gIf (b8 (ftB f)) g aV ρ=.nx ρ:=by
 unfold gIf b8 ftB;rw[h,bok,gF,bok,aok];rfl
theorem kc{fa fb:ac->Res D}{g:ac->FOut}{ρ:ac}{i:Int}(h1:fa ρ=.ok (.int i))(h2:fb ρ=.ok (.int i)):gIf (ft2 (cU true) fa fb) g aV ρ=.nx ρ:=by
 unfold gIf ft2;rw[fE h1 h2,ny,bok,gF,aok];simp[aV]
theorem kd{N:Nat}{g:ac->FOut}{ds:List D}{r:ac}(h:g (ds.map some++List.replicate (N - ds.length) none)=.nx r):aJ N g ds=.ok .non:=by unfold aJ;rw[h]
theorem jO(a:Ads)(n:Int)(h1:1<=n)(h2:n<=8):bV a [.int n]=.ok .non:=by
 refine kd (r:=[some (.int n)]) ?_;show dL a [some (.int n)]=_;unfold dL;refine iD ?_;rw[fF (i:=1) (j:=n) (k:=8) rfl rfl rfl,decide_eq_true h1,decide_eq_true h2];rfl
theorem ei{j:Nat}{ρ:ac}{t:Tg}{xs:List D}(h:ρ[j]?=some (some (.lst t xs)))(ht:t=.f):fCB bq (aa (ad j) ag) ρ=.ok (.int xs.length):=by
 subst ht;unfold fCB;rw[bI (cC j ρ _ h) rfl,bok];rfl
theorem hV(g:List (List Int)):(ah .f g).map D.asF=ah .f g:=by
 unfold ah;rw[List.map_map];exact List.map_congr_left fun r _=>rfl
theorem cX(L:List Int):(L.map D.int).map D.asF=L.map D.int:=by
 rw[List.map_map];exact List.map_congr_left fun r _=>rfl
theorem lO{j:Nat}{ρ:ac}{g:List (List Int)}(h:ρ[j]?=some (some (.lst .f (ah .f g)))):bA (ad j) ρ=.ok (ah .f g):=by
 unfold bA;rw[cC j ρ _ h,bok];show (if (Tg.f=Tg.b) then Res.bad else be (some ((ah .f g).map D.asF)))=_;rw[if_neg (by decide),hV];rfl
theorem lP{j:Nat}{ρ:ac}{L:List Int}(h:ρ[j]?=some (some (.lst .f (L.map D.int)))):bA (ad j) ρ=.ok (L.map D.int):=by
 unfold bA;rw[cC j ρ _ h,bok];show (if (Tg.f=Tg.b) then Res.bad else be (some ((L.map D.int).map D.asF)))=_;rw[if_neg (by decide),cX];rfl
def inW:D->D
 | .int v=>.bl (decide (0<=v)&&decide (v<=1000))
 |d=>d
theorem mB(f:Int->Bool):∀ r:List Int,dq (r.map fun v=>D.bl (f v))=some (r.map f)
 | []=>rfl
 |v::r=>by
  show (dq (r.map fun v=>D.bl (f v))).map (f v::·)=_;rw[mB f r];rfl
theorem uo(r:List Int)(h:∀ v∈r,0<=v/\v<=1000):gX [.lst .o ((r.map D.int).map inW)]=.ok (.bl true):=by
 have e:(r.map D.int).map inW=r.map fun v=>D.bl (decide (0<=v)&&decide (v<=1000)):=by
  rw[List.map_map];exact List.map_congr_left fun v _=>rfl
 rw[e];unfold gX;simp only[mB];congr 2;rw[List.all_eq_true];intro b hb;obtain ⟨v,hv,rfl⟩:=List.mem_map.mp hb;have:=h v hv;simp[this.1,this.2]
abbrev gbS(a:Ads):ac->FOut:=(az (gIf (ft2 (cU true) (fCB bq (aa (ad 3) ag)) (ad 2)) (fun _=>.exc (.ref a.BadNet)) aV)
 (gIf (b8 (ftB (fCB gX (aa (aT 1 [] (bA (ad 3)) (aB 0) aO (bw (fun i j=>decide (i<=j)) (fun i j=>decide (i<=j)) (fC (.int 0)) (ad 0) (fC (.int 1000)))) ag)))) (fun _=>.exc (.ref a.BadNet)) aV))
theorem nE(a:Ads)(v0 v1:Option D)(r:List Int)(hr:∀ v∈r,0<=v/\v<=1000)(hl:r.length<=1000):gbS a [v0,v1,some (.int r.length),some (.lst .f (r.map D.int))]=.nx [v0,v1,some (.int r.length),some (.lst .f (r.map D.int))]:=by
 have hlen:=ei (j:=3) (ρ:=[v0,v1,some (.int r.length),some (.lst .f (r.map D.int))]) rfl rfl;rw[List.length_map] at hlen;refine (aK (kc hlen rfl)).trans (iD ?_)
 have hc:=fT (cap:=[]) (fi:=bA (ad 3)) (fe:=bw (fun i j=>decide (i<=j)) (fun i j=>decide (i<=j)) (fC (.int 0)) (ad 0) (fC (.int 1000))) (ρ:=[v0,v1,some (.int r.length),some (.lst .f (r.map D.int))]) (items:=r.map D.int) inW (lP rfl) (fun x hx=>by
  obtain ⟨v,_,rfl⟩:=List.mem_map.mp hx
  exact ⟨fF (i:=0) (j:=v) (k:=1000) rfl rfl rfl,ntb rfl⟩) (by rw[List.length_map];exact hl)
 unfold fCB;rw[bI hc rfl,bok];exact uo r hr
theorem jP(a:Ads)(v0 v1:Option D)(len:Nat)(hl:len<=1000):∀ (g:List (List Int)) (e:Option D),(∀ r∈g,r.length=len/\∀ v∈r,0<=v/\v<=1000)->∃ e',bM (aB 3) (gbS a) (ah .f g) [v0,v1,some (.int len),e]=.nx [v0,v1,some (.int len),e']
 | [],e,_=>⟨e,rfl⟩
 |r::g,e,h=>by
  obtain ⟨h1,h2⟩:=h r List.mem_cons_self;obtain ⟨e',k⟩:=jP a v0 v1 len hl g (some (.lst .f (r.map D.int))) fun q hq=>h q (List.mem_cons_of_mem _ hq);refine ⟨e',?_⟩;have st:=nE a v0 v1 r h2 (by lia);rw[h1] at st;exact dt (xs:=ah .f g) rfl st k
theorem gj{fi:ac->Res (List D)}{gt:D->ac->Res ac}{gb:ac->FOut}{ρ:ac}{items:List D}{o:FOut}(h1:fi ρ=.ok items)(h2:bM gt gb items ρ=o):dW fi gt gb ρ=o:=by unfold dW;rw[h1,aok,h2]
theorem iU(a:Ads)(g:List (List Int))(len:Nat)(hl:len<=1000)(h:∀ r∈g,r.length=len/\∀ v∈r,0<=v/\v<=1000):b5 a [.lst .f (ah .f g),.int g.length,.int len]=.ok .non:=by
 obtain ⟨e',k⟩:=jP a (some (.lst .f (ah .f g))) (some (.int g.length)) len hl g none h;refine kd (r:=[some (.lst .f (ah .f g)),some (.int g.length),some (.int len),e']) ?_;show eK a [some (.lst .f (ah .f g)),some (.int g.length),some (.int len),none]=_;unfold eK;have hlen:=ei (j:=0) (ρ:=[some (.lst .f (ah .f g)),some (.int g.length),some (.int len),none]) rfl rfl
 have:(ah .f g).length=g.length:=by simp[ah]
 rw[this] at hlen;exact (aK (kc hlen rfl)).trans (gj (lO rfl) k)
abbrev gbB(a:Ads):ac->FOut:=(az (gIf (b8 (ftB (bw (fun i j=>decide (i<j)) (fun i j=>decide (i<j)) (ad 2) (ad 3) (ad 1)))) (fun _=>.exc (.ref a.BadNet)) aV)
 (aE 2 (fFz (ad 3))))
theorem iV(a:Ads)(v0:Option D)(rows:Int):∀ (L:List Int) (last:Int) (e:Option D),L.Pairwise (· < ·)->(∀ x∈L,last<x/\x<rows)->∃ l' e',bM (aB 3) (gbB a) (L.map D.int) [v0,some (.int rows),some (.int last),e]=.nx [v0,some (.int rows),some (.int l'),e']
 | [],last,e,_,_=>⟨last,e,rfl⟩
 |x::L,last,e,hp,h=>by
  obtain ⟨h1,h2⟩:=h x List.mem_cons_self;obtain ⟨q1,q2⟩:=List.pairwise_cons.mp hp;obtain ⟨l',e',k⟩:=iV a v0 rows L x (some (.int x)) q2 fun y hy=>⟨q1 y hy,(h y (List.mem_cons_of_mem _ hy)).2⟩
  refine ⟨l',e',?_⟩;have st:gbB a [v0,some (.int rows),some (.int last),some (.int x)]=.nx [v0,some (.int rows),some (.int x),some (.int x)]:=by
   refine (aK (iD ?_)).trans ?_
   ·rw[fF (i:=last) (j:=x) (k:=rows) rfl rfl rfl,decide_eq_true h1,decide_eq_true h2]
    rfl
   ·have:=di (i:=2) (f:=ad 3) (ρ:=[v0,some (.int rows),some (.int last),some (.int x)]) (d:=.int x) rfl (ntb rfl) (by show 2<4;decide)
    rw[ay] at this;exact this
  exact dt (xs:=L.map D.int) rfl st k
theorem hZ(a:Ads)(L:List Int)(rows:Int)(m:Nat)(h1:1<=m)(h2:m<=4)(r:Rising rows m L):bP a [.lst .f (L.map D.int),.int rows]=.ok .non:=by
 obtain ⟨l',e',k⟩:=iV a (some (.lst .f (L.map D.int))) rows L (-1) none r.asc fun x hx=>by have:=r.inn x hx;lia
 refine kd (r:=[some (.lst .f (L.map D.int)),some (.int rows),some (.int l'),e']) ?_;show dZ a [some (.lst .f (L.map D.int)),some (.int rows),none,none]=_;unfold dZ;have hlen:=ei (j:=0) (ρ:=[some (.lst .f (L.map D.int)),some (.int rows),none,none]) rfl rfl;rw[List.length_map,r.len] at hlen
 refine (aK (iD ?_)).trans ((aK (r':=[some (.lst .f (L.map D.int)),some (.int rows),some (.int (-1)),none]) ?_).trans (gj (lP rfl) k))
 ·rw[fF (i:=1) (j:=m) (k:=4) rfl hlen rfl,decide_eq_true (show (1:Int)<=m by lia),decide_eq_true (show (m:Int)<=4 by lia)]
  rfl
 ·have:=di (i:=2) (f:=f1 gu (fC (.int 1))) (ρ:=[some (.lst .f (L.map D.int)),some (.int rows),none,none]) (d:=.int (-1)) rfl (ntb rfl) (by show 2<4;decide)
  rw[ay] at this;exact this
theorem eV{f:ac->Res D}{ρ:ac}{d:D}(h:f ρ=.ok d):bx f ρ=.nx ρ:=by unfold bx;rw[h,aok]
theorem gk{C p:Addr}{fld:Str}{fv:ac->Res D}{ρ:ac}{fs:List (Str × D)}{d:D}(h:ρ[0]?=some (some (.slf p C fs)))(hv:fv ρ=.ok d)(hb:d.tag≠.b)(hl:fs.length<1000):dg 0 C fld fv ρ=.nx (ρ.set 0 (some (.slf p C (gy fld d.fz fs)))):=by
 unfold dg;rw[h];simp only[hv,aok];rw[if_neg (fun z=>z.elim (fun z=>z rfl) fun z=>z.elim hb fun z=>absurd z (by lia))]
def cpL:D->D
 | .lst _ xs=>.lst .o (xs.map D.asF)
 |d=>d
theorem kM{j:Nat}{ρ:ac}{g:List (List Int)}(h:ρ[j]?=some (some (.lst .f (ah .f g))))(hl:g.length<=1000):aT 1 [] (bA (ad j)) (aB 0) aO (fCB bF (aa (ad 0) ag)) ρ=.ok (.lst .o (ah .o g)):=by
 have e:=fT (cap:=[]) (fi:=bA (ad j)) (fe:=fCB bF (aa (ad 0) ag)) (ρ:=ρ) (items:=ah .f g) cpL (lO h) (fun x hx=>by
  obtain ⟨r,_,rfl⟩:=List.mem_map.mp hx
  exact ⟨rfl,ntb rfl⟩) (by simp[ah];exact hl)
 rw[e];congr 2;unfold ah;rw[List.map_map];refine List.map_congr_left fun r _=>?_;show D.lst .o ((r.map D.int).map D.asF)=_;rw[cX]
theorem kN{j:Nat}{ρ:ac}{L:List Int}(h:ρ[j]?=some (some (.lst .f (L.map D.int)))):fCB bF (aa (ad j) ag) ρ=.ok (.lst .o (L.map D.int)):=by
 unfold fCB;rw[bI (cC j ρ _ h) rfl,bok];show Res.ok (D.lst .o ((L.map D.int).map D.asF))=_;rw[cX]
def lQ(p:Parts):List (Str × D):=[("right", .lst .f (ah .f p.right)),("up", .lst .f (ah .f p.up)),("starts", .lst .f (p.starts.map D.int)),("ends", .lst .f (p.ends.map D.int)),("columns", .int p.cols),("rows", .int p.rows)]
def EN(x C:Addr)(p:Parts)(fs:List (Str × D))(r c:Option D):ac:=[some (.slf x C fs),some (.lst .f (ah .f p.right)),some (.lst .f (ah .f p.up)),some (.lst .f (p.starts.map D.int)),some (.lst .f (p.ends.map D.int)),r,c]
theorem uq(a:Ads)(x:Addr)(p:Parts)(most walkers:Nat)(h8:most<=8)(h4:walkers<=4)(G:Good most walkers p):eO a x [.lst .f (ah .f p.right),.lst .f (ah .f p.up),.lst .f (p.starts.map D.int),.lst .f (p.ends.map D.int)]=.ok (lQ p):=by
 obtain ⟨m,m1,m2,rs,re⟩:=G.many;have hrl:(ah .f p.right).length=p.rows:=by simp[ah,G.rl]
 obtain ⟨r0,rest,hr0⟩:∃ r0 rest,p.right=r0::rest:=by
  cases e:p.right with
  |nil=>have:=G.rl;have:=G.r1;rw[e] at *;simp at *;lia
  |cons r0 rest=>exact ⟨r0,rest,rfl⟩
 have hc0:r0.length+1=p.cols:=(G.rr r0 (by rw[hr0];exact List.mem_cons_self)).1;have l1:∀ fs r c,fCB bq (aa (ad 1) ag) (EN x a.Net p fs r c)=.ok (.int p.rows):=fun fs r c=>by
  have:=ei (j:=1) (ρ:=EN x a.Net p fs r c) rfl rfl;rw[hrl] at this;exact this
 have s1:∀ fs r c,bx (al 1 (bV a) (aa (fCB bq (aa (ad 1) ag)) ag)) (EN x a.Net p fs r c)=.nx (EN x a.Net p fs r c):=fun fs r c=>
  eV (bH (d:=.non) (ds:=[.int p.rows]) (bI (l1 fs r c) rfl) rfl (by rw[aq,aA,ay];exact jO a _ (by have:=G.r1;lia) (by have:=G.r1;lia)) rfl)
 have s2:aE 5 (fFz (fCB bq (aa (ad 1) ag))) (EN x a.Net p [] none none)=.nx (EN x a.Net p [] (some (.int p.rows)) none):=by
  have:=di (i:=5) (l1 [] none none) (ntb rfl) (by show 5<7;decide);rw[ay] at this;exact this
 have s3:aE 6 (fFz (f2 aX (fCB bq (aa (f2 dIx (ad 1) (fC (.int 0))) ag)) (fC (.int 1)))) (EN x a.Net p [] (some (.int p.rows)) none)=.nx (EN x a.Net p [] (some (.int p.rows)) (some (.int p.cols))):=by
  have ix:f2 dIx (ad 1) (fC (.int 0)) (EN x a.Net p [] (some (.int p.rows)) none)=.ok (.lst .f (r0.map D.int)):=by
   refine (fE (g:=dIx) (x:=.lst .f (ah .f p.right)) (y:=.int 0) rfl rfl).trans ?_;rw[hr0];show (match L2.ixN ((ah .f (r0::rest)).length) 0 with
    |some j=>be (D.el (.lst .f (ah .f (r0::rest))) j)
    |none=>Res.bad)=_
   have:L2.ixN ((ah .f (r0::rest)).length) 0=some 0:=by unfold L2.ixN;rw[if_pos (by lia),if_pos (by show (0:Int)<((ah .f (r0::rest)).length:Int);rw[show (ah .f (r0::rest)).length=rest.length+1 by simp[ah]];lia)];try rfl
   rw[this];rfl
  have ln:fCB bq (aa (f2 dIx (ad 1) (fC (.int 0))) ag) (EN x a.Net p [] (some (.int p.rows)) none)=.ok (.int r0.length):=by
   unfold fCB;rw[bI ix rfl,bok];show Res.ok (D.int ((r0.map D.int).length:Nat))=_;rw[List.length_map]
  have:=di (i:=6) ((fE (g:=aX) (f2':=fC (.int 1)) (y:=.int 1) ln rfl).trans (jK _ _)) (ntb rfl) (by show 6<7;decide);rw[ay,show ((r0.length:Int)+1)=(p.cols:Int) by lia] at this;exact this
 have s4:bx (al 1 (bV a) (aa (ad 6) ag)) (EN x a.Net p [] (some (.int p.rows)) (some (.int p.cols)))=.nx (EN x a.Net p [] (some (.int p.rows)) (some (.int p.cols))):=
  eV (bH (d:=.non) (ds:=[.int p.cols]) rfl rfl (by rw[aq,aA,ay];exact jO a _ (by have:=G.c1;lia) (by have:=G.c1;lia)) rfl)
 have s5:bx (al 3 (b5 a) (aa (ad 1) (aa (ad 5) (aa (f2 de (ad 6) (fC (.int 1))) ag)))) (EN x a.Net p [] (some (.int p.rows)) (some (.int p.cols)))=.nx (EN x a.Net p [] (some (.int p.rows)) (some (.int p.cols))):=by
  refine eV (bH (d:=.non) (ds:=[.lst .f (ah .f p.right),.int p.rows,.int ((p.cols:Int) - 1)]) rfl rfl ?_ rfl);rw[aq,aq,aq,aA,bo,cG,ay,ay,<- G.rl,show (p.cols:Int) - 1=((p.cols - 1:Nat):Int) by have:=G.c1;lia];exact iU a p.right _ (by have:=G.c1;lia) fun r hr=>⟨by have:=(G.rr r hr).1;lia,(G.rr r hr).2⟩
 have s6:bx (al 3 (b5 a) (aa (ad 2) (aa (f2 de (ad 5) (fC (.int 1))) (aa (ad 6) ag)))) (EN x a.Net p [] (some (.int p.rows)) (some (.int p.cols)))=.nx (EN x a.Net p [] (some (.int p.rows)) (some (.int p.cols))):=by
  refine eV (bH (d:=.non) (ds:=[.lst .f (ah .f p.up),.int ((p.rows:Int) - 1),.int p.cols]) rfl rfl ?_ rfl);rw[aq,aq,aq,aA,bo,cG,ay,ay,show (p.rows:Int) - 1=((p.up.length:Nat):Int) by have:=G.ul;lia];exact iU a p.up _ (by have:=G.c1;lia) fun r hr=>G.ur r hr
 have s7:bx (al 2 (bP a) (aa (ad 3) (aa (ad 5) ag))) (EN x a.Net p [] (some (.int p.rows)) (some (.int p.cols)))=.nx (EN x a.Net p [] (some (.int p.rows)) (some (.int p.cols))):=by
  refine eV (bH (d:=.non) (ds:=[.lst .f (p.starts.map D.int),.int p.rows]) rfl rfl ?_ rfl);rw[aq,aq,aA,bo,b6,ay];exact hZ a p.starts _ m m1 (by lia) rs
 have s8:bx (al 2 (bP a) (aa (ad 4) (aa (ad 5) ag))) (EN x a.Net p [] (some (.int p.rows)) (some (.int p.cols)))=.nx (EN x a.Net p [] (some (.int p.rows)) (some (.int p.cols))):=by
  refine eV (bH (d:=.non) (ds:=[.lst .f (p.ends.map D.int),.int p.rows]) rfl rfl ?_ rfl);rw[aq,aq,aA,bo,b6,ay];exact hZ a p.ends _ m m1 (by lia) re
 have s9:gIf (ft2 (cU true) (fCB bq (aa (ad 3) ag)) (fCB bq (aa (ad 4) ag))) (fun _=>.exc (.ref a.BadNet)) aV (EN x a.Net p [] (some (.int p.rows)) (some (.int p.cols)))=.nx (EN x a.Net p [] (some (.int p.rows)) (some (.int p.cols))):=by
  have e3:=ei (j:=3) (ρ:=(EN x a.Net p [] (some (.int p.rows)) (some (.int p.cols)))) rfl rfl;have e4:=ei (j:=4) (ρ:=(EN x a.Net p [] (some (.int p.rows)) (some (.int p.cols)))) rfl rfl;rw[List.length_map,rs.len] at e3;rw[List.length_map,re.len] at e4;exact kc e3 e4
 have t1:dg 0 a.Net "right" (aT 1 [] (bA (ad 1)) (aB 0) aO (fCB bF (aa (ad 0) ag))) (EN x a.Net p [] (some (.int p.rows)) (some (.int p.cols)))=.nx (EN x a.Net p [("right", .lst .f (ah .f p.right))] (some (.int p.rows)) (some (.int p.cols))):=by
  have:=gk (C:=a.Net) (p:=x) (fld := "right") (fs:=[]) (ρ:=(EN x a.Net p [] (some (.int p.rows)) (some (.int p.cols)))) rfl (kM (j:=1) (g:=p.right) rfl (by have:=G.rl;have:=G.r1;lia)) (ntb rfl) (by decide);rw[bo,cG] at this;exact this
 have t2:dg 0 a.Net "up" (aT 1 [] (bA (ad 2)) (aB 0) aO (fCB bF (aa (ad 0) ag))) (EN x a.Net p [("right", .lst .f (ah .f p.right))] (some (.int p.rows)) (some (.int p.cols)))=.nx (EN x a.Net p [("right", .lst .f (ah .f p.right)),("up", .lst .f (ah .f p.up))] (some (.int p.rows)) (some (.int p.cols))):=by
  have:=gk (C:=a.Net) (p:=x) (fld := "up") (fs:=[("right", .lst .f (ah .f p.right))]) (ρ:=(EN x a.Net p [("right", .lst .f (ah .f p.right))] (some (.int p.rows)) (some (.int p.cols)))) rfl (kM (j:=2) (g:=p.up) rfl (by have:=G.ul;have:=G.r1;lia)) (ntb rfl) (by show 1<1000;decide);rw[bo,cG] at this;exact this
 have t3:dg 0 a.Net "starts" (fCB bF (aa (ad 3) ag)) (EN x a.Net p [("right", .lst .f (ah .f p.right)),("up", .lst .f (ah .f p.up))] (some (.int p.rows)) (some (.int p.cols)))=.nx (EN x a.Net p [("right", .lst .f (ah .f p.right)),("up", .lst .f (ah .f p.up)),("starts", .lst .f (p.starts.map D.int))] (some (.int p.rows)) (some (.int p.cols))):=by
  have:=gk (C:=a.Net) (p:=x) (fld := "starts") (fs:=[("right", .lst .f (ah .f p.right)),("up", .lst .f (ah .f p.up))]) (ρ:=(EN x a.Net p [("right", .lst .f (ah .f p.right)),("up", .lst .f (ah .f p.up))] (some (.int p.rows)) (some (.int p.cols)))) rfl (kN (j:=3) (L:=p.starts) rfl) (ntb rfl) (by show 2<1000;decide);rw[bo,b6] at this;exact this
 have t4:dg 0 a.Net "ends" (fCB bF (aa (ad 4) ag)) (EN x a.Net p [("right", .lst .f (ah .f p.right)),("up", .lst .f (ah .f p.up)),("starts", .lst .f (p.starts.map D.int))] (some (.int p.rows)) (some (.int p.cols)))=.nx (EN x a.Net p [("right", .lst .f (ah .f p.right)),("up", .lst .f (ah .f p.up)),("starts", .lst .f (p.starts.map D.int)),("ends", .lst .f (p.ends.map D.int))] (some (.int p.rows)) (some (.int p.cols))):=by
  have:=gk (C:=a.Net) (p:=x) (fld := "ends") (fs:=[("right", .lst .f (ah .f p.right)),("up", .lst .f (ah .f p.up)),("starts", .lst .f (p.starts.map D.int))]) (ρ:=(EN x a.Net p [("right", .lst .f (ah .f p.right)),("up", .lst .f (ah .f p.up)),("starts", .lst .f (p.starts.map D.int))] (some (.int p.rows)) (some (.int p.cols)))) rfl (kN (j:=4) (L:=p.ends) rfl) (ntb rfl) (by show 3<1000;decide)
  rw[bo,b6] at this;exact this
 have t5:dg 0 a.Net "columns" (ad 6) (EN x a.Net p [("right", .lst .f (ah .f p.right)),("up", .lst .f (ah .f p.up)),("starts", .lst .f (p.starts.map D.int)),("ends", .lst .f (p.ends.map D.int))] (some (.int p.rows)) (some (.int p.cols)))=.nx (EN x a.Net p [("right", .lst .f (ah .f p.right)),("up", .lst .f (ah .f p.up)),("starts", .lst .f (p.starts.map D.int)),("ends", .lst .f (p.ends.map D.int)),("columns", .int p.cols)] (some (.int p.rows)) (some (.int p.cols))):=by
  have:=gk (C:=a.Net) (p:=x) (fld := "columns") (fs:=[("right", .lst .f (ah .f p.right)),("up", .lst .f (ah .f p.up)),("starts", .lst .f (p.starts.map D.int)),("ends", .lst .f (p.ends.map D.int))]) (ρ:=(EN x a.Net p [("right", .lst .f (ah .f p.right)),("up", .lst .f (ah .f p.up)),("starts", .lst .f (p.starts.map D.int)),("ends", .lst .f (p.ends.map D.int))] (some (.int p.rows)) (some (.int p.cols)))) (fv:=ad 6) (d:=.int p.cols) rfl rfl (ntb rfl) (by show 4<1000;decide)
  rw[ay] at this;exact this
 have t6:dg 0 a.Net "rows" (ad 5) (EN x a.Net p [("right", .lst .f (ah .f p.right)),("up", .lst .f (ah .f p.up)),("starts", .lst .f (p.starts.map D.int)),("ends", .lst .f (p.ends.map D.int)),("columns", .int p.cols)] (some (.int p.rows)) (some (.int p.cols)))=.nx (EN x a.Net p (lQ p) (some (.int p.rows)) (some (.int p.cols))):=by
  have:=gk (C:=a.Net) (p:=x) (fld := "rows") (fs:=[("right", .lst .f (ah .f p.right)),("up", .lst .f (ah .f p.up)),("starts", .lst .f (p.starts.map D.int)),("ends", .lst .f (p.ends.map D.int)),("columns", .int p.cols)]) (ρ:=(EN x a.Net p [("right", .lst .f (ah .f p.right)),("up", .lst .f (ah .f p.up)),("starts", .lst .f (p.starts.map D.int)),("ends", .lst .f (p.ends.map D.int)),("columns", .int p.cols)] (some (.int p.rows)) (some (.int p.cols)))) (fv:=ad 5) (d:=.int p.rows) rfl rfl (ntb rfl) (by show 5<1000;decide)
  rw[ay] at this;exact this
 have all:jB a (EN x a.Net p [] none none)=.nx (EN x a.Net p (lQ p) (some (.int p.rows)) (some (.int p.cols))):=by
  unfold jB;rw[aK (s1 [] none none),aK s2,aK s3,aK s4,aK s5,aK s6,aK s7,aK s8,aK s9,aK t1,aK t2,aK t3,aK t4,aK t5];exact t6
 unfold eO cj;rw[show (some (D.slf x a.Net [])::(List.map some [D.lst .f (ah .f p.right),D.lst .f (ah .f p.up),D.lst .f (p.starts.map D.int),D.lst .f (p.ends.map D.int)]++List.replicate (7 - ([D.lst .f (ah .f p.right),D.lst .f (ah .f p.up),D.lst .f (p.starts.map D.int),D.lst .f (p.ends.map D.int)].length+1)) none))=(EN x a.Net p [] none none) from rfl,all]
 show (if x=x/\a.Net=a.Net then Res.ok (lQ p) else .bad)=_;rw[if_pos ⟨rfl,rfl⟩]
theorem vl{i:Nat}{ρ:ac}{d d':D}(h:ρ[i]?=some (some d))(hd:d.rd=d'):ad i ρ=.ok d':=by rw[cC i ρ d h,hd]
theorem v_C{d:D}{ρ:ac}:fC d ρ=.ok d:=rfl
theorem qt{g:D->D->Res D}{fa fb:ac->Res D}{ρ:ac}{x y z:D}(h1:fa ρ=.ok x)(h2:fb ρ=.ok y)(h3:g x y=.ok z):f2 g fa fb ρ=.ok z:=by rw[fE h1 h2,h3]
theorem je{g:D->Res D}{fa:ac->Res D}{ρ:ac}{x z:D}(h1:fa ρ=.ok x)(h3:g x=.ok z):f1 g fa ρ=.ok z:=by unfold f1;rw[h1,bok,h3]
theorem wg{g:List D->Res D}{fa:ac->Res (List D)}{ρ:ac}{x:List D}{z:D}(h1:fa ρ=.ok x)(h3:g x=.ok z):fCB g fa ρ=.ok z:=by unfold fCB;rw[h1,bok,h3]
theorem jQ{ρ:ac}:ag ρ=.ok []:=rfl
theorem jR{n:Nat}(h:n<=1000):n<=sizeLine:=Nat.le_trans h (by decide)
theorem vm{fa:ac->Res (List D)}{ρ:ac}{es es':List D}(h1:fa ρ=.ok es)(h2:nb es=true)(h3:es.length<=1000)(h4:D.fzs es=es'):eJ fa ρ=.ok (.tup es'):=by
 unfold eJ;rw[h1,bok,if_pos (by rw[h2,decide_eq_true (jR h3)];rfl),h4]
theorem qG{fa:ac->Res (List D)}{ρ:ac}{es:List D}(h1:fa ρ=.ok es)(h2:nb es=true)(h3:es.length<=1000):bT fa ρ=.ok (.lst .o es):=by
 unfold bT;rw[h1,bok,if_pos (by rw[h2,decide_eq_true (jR h3)];rfl)]
theorem o8{n:Nat}{F:List D->Res D}{fa:ac->Res (List D)}{ρ:ac}{ds ds':List D}{d:D}(h:fa ρ=.ok ds)(hn:ds.length=n)(hz:D.fzs ds=ds')(hF:F ds'=.ok d)(ha:(nb ds=true/\d.tag≠.b)\/d.atom=true):al n F fa ρ=.ok d:=by
 unfold al;rw[h,bok,if_pos hn];unfold cZ;rw[hz,hF];show (if _ then _ else _)=_;rw[if_pos ha]
theorem bQ{n:Nat}{F:List D->Res D}{fa:ac->Res (List D)}{ρ:ac}{ds ds':List D}{C:Value}(h:fa ρ=.ok ds)(hn:ds.length=n)(hz:D.fzs ds=ds')(hF:F ds'=.exc C):al n F fa ρ=.exc C:=by
 unfold al;rw[h,bok,if_pos hn];unfold cZ;rw[hz,hF]
theorem wj{f:ac->Res D}{ρ:ac}{d d':D}(h:f ρ=.ok d)(hb:d.tag≠.b)(hz:d.fz=d'):fFz f ρ=.ok d':=by rw[qF h hb,hz]
theorem ke{p p':Int->Int->Bool}{fa fb fc:ac->Res D}{ρ:ac}{i j k:Int}(h1:fa ρ=.ok (.int i))(h2:fb ρ=.ok (.int j))(h3:fc ρ=.ok (.int k)):bw p p' fa fb fc ρ=.ok (.bl (p i j&&p' j k)):=fF h1 h2 h3
theorem vn{s t:ac->Res D}{ρ:ac}{b c:Bool}(h1:s ρ=.ok (.bl b))(h2:t ρ=.ok (.bl c)):mX s t ρ=.ok (.bl (b&&c)):=by
 unfold mX;rw[h1,bok,gF,bok];cases b<;>simp[h2]
theorem t_2{g:D->D->Res D}{fa fb:ac->Res D}{ρ:ac}{x y:D}{b:Bool}(h1:fa ρ=.ok x)(h2:fb ρ=.ok y)(h3:g x y=.ok (.bl b)):ft2 g fa fb ρ=.ok b:=by
 unfold ft2;rw[fE h1 h2,h3,bok,gF]
theorem t_B{f:ac->Res D}{ρ:ac}{b:Bool}(h1:f ρ=.ok (.bl b)):ftB f ρ=.ok b:=by unfold ftB;rw[h1,bok,gF]
theorem iF{t:ac->Res Bool}{ρ:ac}{b:Bool}(h1:t ρ=.ok b):b8 t ρ=.ok (!b):=by unfold b8;rw[h1,bok]
theorem vo{s t:ac->Res Bool}{ρ:ac}{b c:Bool}(h1:s ρ=.ok b)(h2:t ρ=.ok c):jr s t ρ=.ok (b&&c):=by unfold jr;rw[h1,bok];cases b<;>simp[h2]
theorem nF{s t:ac->Res Bool}{ρ:ac}{b c:Bool}(h1:s ρ=.ok b)(h2:t ρ=.ok c):j0 s t ρ=.ok (b||c):=by unfold j0;rw[h1,bok];cases b<;>simp[h2]
theorem ut{t:ac->Res Bool}{f g:ac->Res D}{ρ:ac}{b:Bool}{d e:D}(h1:t ρ=.ok b)(h2:f ρ=.ok d)(h3:g ρ=.ok e):fIf t f g ρ=.ok (if b=true then d else e):=by
 unfold fIf;rw[h1,bok];cases b<;>simp[h2,h3]
theorem ix_tup{xs:List D}{k:Nat}{x x':D}(h:xs[k]?=some x)(hx:x.asF=x'):dIx (.tup xs) (.int (k:Int))=.ok x':=by
 have hk:k<xs.length:=(List.getElem?_eq_some_iff.mp h).1;have e:L2.ixN xs.length (k:Int)=some k:=by unfold L2.ixN;rw[if_pos (by lia),if_pos (by lia)];simp
 show (match L2.ixN xs.length (k:Int) with
  |some j=>be (D.el (.tup xs) j)
  |none=>Res.bad)=_
 rw[e];show be (xs[k]?.map D.asF)=_;rw[h,<- hx];rfl
theorem o9{xs:List D}{k:Nat}{x x':D}(h:xs[k]?=some x)(hx:x.asF=x'):dIx (.lst .f xs) (.int (k:Int))=.ok x':=by
 have hk:k<xs.length:=(List.getElem?_eq_some_iff.mp h).1;have e:L2.ixN xs.length (k:Int)=some k:=by unfold L2.ixN;rw[if_pos (by lia),if_pos (by lia)];simp
 show (match L2.ixN xs.length (k:Int) with
  |some j=>be (D.el (.lst .f xs) j)
  |none=>Res.bad)=_
 rw[e];show be (xs[k]?.map D.asF)=_;rw[h,<- hx];rfl
theorem uu{xs:List D}{k:Nat}{x:D}(h:xs[k]?=some x):dIx (.lst .o xs) (.int (k:Int))=.ok x:=by
 have hk:k<xs.length:=(List.getElem?_eq_some_iff.mp h).1;have e:L2.ixN xs.length (k:Int)=some k:=by unfold L2.ixN;rw[if_pos (by lia),if_pos (by lia)];simp
 show (match L2.ixN xs.length (k:Int) with
  |some j=>be (D.el (.lst .o xs) j)
  |none=>Res.bad)=_
 rw[e];show be (xs[k]?)=_;rw[h];rfl
theorem ix0{x x':D}{r:List D}(h:x.asF=x'):dIx (.tup (x::r)) (.int 0)=.ok x':=ix_tup (k:=0) rfl h
theorem ix1{x x' y:D}{r:List D}(h:x.asF=x'):dIx (.tup (y::x::r)) (.int 1)=.ok x':=ix_tup (k:=1) rfl h
theorem ix2{x x' y z:D}{r:List D}(h:x.asF=x'):dIx (.tup (y::z::x::r)) (.int 2)=.ok x':=ix_tup (k:=2) rfl h
theorem ix3{x x' y z w:D}{r:List D}(h:x.asF=x'):dIx (.tup (y::z::w::x::r)) (.int 3)=.ok x':=ix_tup (k:=3) rfl h
theorem wk:nb []=true:=rfl
theorem wl{x:D}{xs:List D}(h:x.tag≠.b)(h2:nb xs=true):nb (x::xs)=true:=by
 unfold nb at *;rw[List.all_cons,h2];cases e:x.tag<;>simp_all
theorem jS(i:Int):(D.int i).asF=.int i:=rfl
theorem vp(i:Int):gu (.int i)=.ok (.int (-i)):=rfl
theorem uw(t:Tg)(xs:List D):bq [.lst t xs]=.ok (.int xs.length):=rfl
theorem vq{i:Nat}{f:ac->Res D}{ρ ρ':ac}{d:D}(h:f ρ=.ok d)(hb:d.tag≠.b)(hi:i<ρ.length)(he:ρ.set i (some d)=ρ'):aE i f ρ=.nx ρ':=by rw[o7 h hb hi,he]
theorem iH{f:ac->Res D}{ρ:ac}{d:D}(h:f ρ=.ok d)(hb:d.tag≠.b):bj f ρ=.rt d:=by unfold bj;rw[h,aok,if_neg hb]
theorem ux{t:ac->Res Bool}{g1 g2:ac->FOut}{ρ:ac}{b:Bool}(h:t ρ=.ok b):gIf t g1 g2 ρ=if b=true then g1 ρ else g2 ρ:=by unfold gIf;rw[h,aok]
theorem cH{t:ac->Res Bool}{g1 g2:ac->FOut}{ρ:ac}{b:Bool}{o:FOut}(h:t ρ=.ok b)(hb:b=true)(h1:g1 ρ=o):gIf t g1 g2 ρ=o:=by rw[ux h,hb,if_pos rfl,h1]
theorem aR{t:ac->Res Bool}{g1 g2:ac->FOut}{ρ:ac}{b:Bool}{o:FOut}(h:t ρ=.ok b)(hb:b=false)(h1:g2 ρ=o):gIf t g1 g2 ρ=o:=by rw[ux h,hb,if_neg (by decide),h1]
theorem bK{g1 g2:ac->FOut}{ρ ρ':ac}{o:FOut}(h:g1 ρ=.nx ρ')(h2:g2 ρ'=o):az g1 g2 ρ=o:=by rw[aK h,h2]
theorem dm{g1 g2:ac->FOut}{ρ:ac}{d:D}(h:g1 ρ=.rt d):az g1 g2 ρ=.rt d:=by unfold az;rw[h]
theorem cJ{g1 g2:ac->FOut}{ρ:ac}{C:Value}(h:g1 ρ=.exc C):az g1 g2 ρ=.exc C:=by unfold az;rw[h]
theorem gG{N:Nat}{g:ac->FOut}{ds:List D}{d:D}{ρ:ac}(hρ:ds.map some++List.replicate (N - ds.length) none=ρ)(h:g ρ=.rt d):aJ N g ds=.ok d:=by subst hρ;exact j9 h
theorem dc{N:Nat}{g:ac->FOut}{ds:List D}{C:Value}{ρ:ac}(hρ:ds.map some++List.replicate (N - ds.length) none=ρ)(h:g ρ=.exc C):aJ N g ds=.exc C:=by subst hρ;unfold aJ;rw[h]
theorem vt{i:Nat}{f:ac->Res D}{ρ ρ':ac}{xs:List D}{d:D}(h0:ρ[i]?=some (some (.lst .o xs)))(h:f ρ=.ok d)(hb:d.tag≠.b)(hl:xs.length<1000)(he:ρ.set i (some (.lst .o (xs++[d])))=ρ'):eU i f ρ=.nx ρ':=by
 have:¬ sizeLine<=xs.length:=by have:1000<sizeLine:=(by decide);lia
 unfold eU;rw[h0];simp only[h,aok];rw[if_neg (fun z=>z.elim hb this),he]
theorem rX{gt:D->ac->Res ac}{gb:ac->FOut}{x:D}{xs:List D}{ρ ρ1:ac}{C:Value}(h1:gt x ρ=.ok ρ1)(h2:gb ρ1=.exc C):bM gt gb (x::xs) ρ=.exc C:=by
 show (match gt x ρ with
  | .ok ρ1=>match gb ρ1 with
   | .nx ρ2=>bM gt gb xs ρ2
   | .ct ρ2=>bM gt gb xs ρ2
   | .bk ρ2=>.nx ρ2
   |r=>r
  |_=>.bad)=_
 rw[h1];simp only[h2]
theorem mC{i:Nat}{d:D}{ρ ρ':ac}(hi:i<ρ.length)(he:ρ.set i (some d)=ρ'):aB i d ρ=.ok ρ':=by unfold aB;rw[if_neg (by lia),he]
theorem cm(t:Tg)(L:List Int):(D.lst t (L.map D.int)).fz=.lst .f (L.map D.int):=by rw[bo,b6]
theorem bJ(t t':Tg)(g:List (List Int)):(D.lst t (ah t' g)).fz=.lst .f (ah .f g):=by rw[bo,cG]
theorem eo(p:Parts):p.d.fz=p.d:=by
 unfold Parts.d;rw[lK,aq,aq,aq,aq,aA,bJ,bJ,cm,cm]
theorem vu(p:Parts):p.d.rd=p.d:=rfl
theorem pd0(p:Parts):dIx p.d (.int 0)=.ok (.lst .f (ah .f p.right)):=ix0 rfl
theorem pd1(p:Parts):dIx p.d (.int 1)=.ok (.lst .f (ah .f p.up)):=ix1 rfl
theorem pd2(p:Parts):dIx p.d (.int 2)=.ok (.lst .f (p.starts.map D.int)):=ix2 rfl
theorem pd3(p:Parts):dIx p.d (.int 3)=.ok (.lst .f (p.ends.map D.int)):=ix3 rfl
theorem er{x y:D}{xs ys:List D}(h:x.fz=y)(h2:D.fzs xs=ys):D.fzs (x::xs)=y::ys:=by rw[aq,h,h2]
end Lw
local macro_rules | `(tactic| sizeOf_list_dec)=>`(tactic| first
 | (((with_reducible apply Lw.vl);(exact rfl);(with_reducible first | exact Lw.oR _ | exact Lw.oS _ | exact Lw.oU _ | exact Lw.oV _ | exact Lw.oW _ | exact Lw.oX _ | exact Lw.mx _ _ | exact Lw.vu _)))
 | (with_reducible exact Lw.v_C)
 | (with_reducible exact Lw.jQ)
 | (with_reducible apply Lw.qt)
 | (with_reducible apply Lw.je)
 | (with_reducible apply Lw.wg)
 | (with_reducible apply Lw.bI)
 | (with_reducible apply Lw.vm)
 | (with_reducible exact Lw.jK _ _)
 | (with_reducible exact Lw.ui _ _)
 | (with_reducible exact Lw.qj _ _)
 | (with_reducible exact Lw.nw _ _)
 | (with_reducible exact Lw.qE _ _)
 | (with_reducible exact Lw.ny _ _)
 | (with_reducible exact Lw.vp _)
 | (with_reducible exact Lw.uw _ _)
 | (with_reducible exact Lw.pd0 _)
 | (with_reducible exact Lw.pd1 _)
 | (with_reducible exact Lw.pd2 _)
 | (with_reducible exact Lw.pd3 _)
 | ((with_reducible apply Lw.ix0;(with_reducible first | exact Lw.jS _)))
 | ((with_reducible apply Lw.ix1;(with_reducible first | exact Lw.jS _)))
 | ((with_reducible apply Lw.ix2;(with_reducible first | exact Lw.jS _)))
 | ((with_reducible apply Lw.ix3;(with_reducible first | exact Lw.jS _)))
 | (with_reducible apply Lw.ke)
 | (with_reducible apply Lw.vn)
 | (with_reducible apply Lw.t_2)
 | (with_reducible apply Lw.t_B)
 | (with_reducible apply Lw.iF)
 | (with_reducible apply Lw.vo)
 | (with_reducible apply Lw.nF)
 | (with_reducible apply Lw.qG)
 | (with_reducible apply Lw.o8)
 | (with_reducible apply Lw.wj)
 | (with_reducible apply Lw.vq)
 | (with_reducible apply Lw.iH)
 | (with_reducible exact Lw.wk)
 | (with_reducible apply Lw.wl)
 | (with_reducible exact Lw.aA)
 | (with_reducible apply Lw.er)
 | ((with_reducible first | exact Lw.ay _ | exact Lw.cB _ | exact Lw.cW _ | exact Lw.cV _ _ _ | exact Lw.eo _ | exact Lw.cm _ _ | exact Lw.bJ _ _ _))
 | ((show Mi.D.tag _≠_;exact Lw.ntb rfl))
 | ((show List.length _<=_;exact Nat.le_of_ble_eq_true rfl))
 | ((show _<List.length _;exact Nat.le_of_ble_eq_true rfl))
 | ((show List.length _=_;exact rfl))
 | ((show List.set _ _ _=_;(first | ((simp only[List.set_cons_zero,List.set_cons_succ]);with_reducible rfl) | exact rfl)))
 | ((show (_/\_)\/Mi.D.atom _=true;exact .inr rfl))
 | ((show (_/\_)\/Mi.D.atom _=true;exact .inl ⟨rfl,Lw.ntb rfl⟩))
 | (with_reducible apply Lw.ut))
namespace Lw
open Mi PySem
def bh(p:Parts)(x y:Int)(l:Str):Int:=if l = "r" /\ x+1<p.cols then (p.right.getD y.toNat []).getD x.toNat 0 else if l = "u" /\ y+1<p.rows then (p.up.getD y.toNat []).getD x.toNat 0 else 0
abbrev aw(a:Ads)(p:Parts):D:=.ins .f a.Net (lQ p)
theorem lR(a:Ads)(p:Parts):bO a.Net "right" (aw a p)=.ok (.lst .f (ah .f p.right)):=by
 show (if a.Net=a.Net then _ else _)=_;rw[if_pos rfl];rfl
theorem qH(a:Ads)(p:Parts):bO a.Net "up" (aw a p)=.ok (.lst .f (ah .f p.up)):=by
 show (if a.Net=a.Net then _ else _)=_;rw[if_pos rfl];rfl
theorem gH(a:Ads)(p:Parts):bO a.Net "columns" (aw a p)=.ok (.int p.cols):=by
 show (if a.Net=a.Net then _ else _)=_;rw[if_pos rfl];rfl
theorem kf(a:Ads)(p:Parts):bO a.Net "rows" (aw a p)=.ok (.int p.rows):=by
 show (if a.Net=a.Net then _ else _)=_;rw[if_pos rfl];rfl
theorem rY(a:Ads)(p:Parts)(x y:Int):eG a [aw a p,.int x,.int y]=.ok (.bl ((decide (0<=x)&&decide (x<p.cols))&&(decide (0<=y)&&decide (y<p.rows)))):=by
 refine gG (ρ:=[some (aw a p),some (.int x),some (.int y)]) rfl ?_;unfold kD;(repeat' first|(with_reducible first|apply gH|apply kf)|sizeOf_list_dec)
theorem mD(g:List (List Int))(y:Int)(h0:0<=y)(h1:y<g.length):dIx (.lst .f (ah .f g)) (.int y)=.ok (.lst .f ((g.getD y.toNat []).map D.int)):=by
 obtain ⟨k,rfl⟩:∃ k:Nat,y=(k:Int):=⟨y.toNat,by lia⟩
 have hk:k<g.length:=by lia
 refine o9 (x:=.lst .f ((g.getD k []).map D.int)) ?_ rfl;unfold ah;rw[List.getElem?_map,List.getElem?_eq_getElem hk];simp[List.getD,List.getElem?_eq_getElem hk]
theorem kO{m w:Nat}{p:Parts}(G:Good m w p)(y:Int)(h0:0<=y)(h1:y<p.rows):(p.right.getD y.toNat []).length+1=p.cols/\∀ v∈p.right.getD y.toNat [],0<=v/\v<=1000:=by
 have hk:y.toNat<p.right.length:=by have:=G.rl;lia
 have:p.right.getD y.toNat []∈p.right:=by simp[List.getD,List.getElem?_eq_getElem hk]
 exact G.rr _ this
theorem pd{m w:Nat}{p:Parts}(G:Good m w p)(y:Int)(h0:0<=y)(h1:y+1<p.rows):(p.up.getD y.toNat []).length=p.cols/\∀ v∈p.up.getD y.toNat [],0<=v/\v<=1000:=by
 have hk:y.toNat<p.up.length:=by have:=G.ul;lia
 have:p.up.getD y.toNat []∈p.up:=by simp[List.getD,List.getElem?_eq_getElem hk]
 exact G.ur _ this
theorem mE{r:List Int}(h:∀ v∈r,0<=v/\v<=1000)(k:Nat):0<=r.getD k 0/\r.getD k 0<=1000:=by
 by_cases hk:k<r.length
 ·have:r.getD k 0∈r:=by simp[List.getD,List.getElem?_eq_getElem hk]
  exact h _ this
 ·simp[List.getD,List.getElem?_eq_none (Nat.le_of_not_lt hk)]
def On(p:Parts)(x y:Int):Prop:=(0<=x/\x<p.cols)/\(0<=y/\y<p.rows)
theorem qu{m w:Nat}{p:Parts}(G:Good m w p){x y:Int}(o:On p x y)(l:Str):0<=bh p x y l/\bh p x y l<=1000:=by
 unfold bh;split
 ·exact mE (kO G y o.2.1 o.2.2).2 _
 ·split
  ·rename_i h;exact mE (pd G y o.2.1 h.2).2 _
  ·lia
theorem iW(a:Ads){m w:Nat}{p:Parts}(G:Good m w p){x y:Int}(o:On p x y)(l:Str):bB a [aw a p,.int x,.int y,.str l]=.ok (.int (bh p x y l)):=by
 refine gG (ρ:=[some (aw a p),some (.int x),some (.int y),some (.str l)]) rfl ?_;unfold gK bh;by_cases h1:l = "r" /\ x+1<p.cols
 ·rw[if_pos h1]
  refine dm (cH (b:=decide (l = "r")&&decide (x+1<(p.cols:Int))) ?_ (by simp[h1.1,h1.2]) ?_)
  ·(repeat' first|(with_reducible first|apply gH)|sizeOf_list_dec)
  ·have e1:=mD p.right y o.2.1 (by have:=G.rl;have:=o.2.2;lia)
   have e2:=iA (t:=.f) (p.right.getD y.toNat []) x o.1.1 (by have:=(kO G y o.2.1 o.2.2).1;lia);(repeat' first|(with_reducible first|apply lR|apply e1|apply e2)|sizeOf_list_dec)
 ·rw[if_neg h1]
  refine bK (aR (b:=decide (l = "r")&&decide (x+1<(p.cols:Int))) ?_ (by by_cases q:l = "r" <;> simp[q] at h1 ⊢;lia) rfl) ?_
  ·(repeat' first|(with_reducible first|apply gH)|sizeOf_list_dec)
  ·by_cases h2:l = "u" /\ y+1<p.rows
   ·rw[if_pos h2]
    refine dm (cH (b:=decide (l = "u")&&decide (y+1<(p.rows:Int))) ?_ (by simp[h2.1,h2.2]) ?_)
    ·(repeat' first|(with_reducible first|apply kf)|sizeOf_list_dec)
    ·have e1:=mD p.up y o.2.1 (by have:=G.ul;have:=h2.2;lia)
     have e2:=iA (t:=.f) (p.up.getD y.toNat []) x o.1.1 (by have:=(pd G y o.2.1 h2.2).1;have:=o.1.2;lia);(repeat' first|(with_reducible first|apply qH|apply e1|apply e2)|sizeOf_list_dec)
   ·rw[if_neg h2]
    refine bK (aR (b:=decide (l = "u")&&decide (y+1<(p.rows:Int))) ?_ (by by_cases q:l = "u" <;> simp[q] at h2 ⊢;lia) rfl) ?_
    ·(repeat' first|(with_reducible first|apply kf)|sizeOf_list_dec)
    ·(repeat' sizeOf_list_dec)
def nX(x:Int)(l:Str):Int:=if l = "r" then x+1 else x
def nY(y:Int)(l:Str):Int:=if l = "r" then y else y+1
theorem lS(a:Ads)(x y:Int)(l:Str):cA a [.int x,.int y,.str l]=.ok (.tup [.int (nX x l),.int (nY y l)]):=by
 have e:(D.tup [.int (nX x l),.int (nY y l)])=if decide (l = "r")=true then .tup [.int (x+1),.int y] else .tup [.int x,.int (y+1)]:=by
  unfold nX nY;by_cases h:l = "r" <;> simp[h]
 refine gG (ρ:=[some (.int x),some (.int y),some (.str l)]) rfl ?_;unfold gi;rw[e];refine iH (ut ?_ ?_ ?_) ?_
 ·(repeat' sizeOf_list_dec)
 ·(repeat' sizeOf_list_dec)
 ·(repeat' sizeOf_list_dec)
 ·split<;>exact ntb rfl
theorem mF{m w:Nat}{p:Parts}(G:Good m w p){x y:Int}(o:On p x y)(l:Str)(h:bh p x y l≠0):On p (nX x l) (nY y l):=by
 have o':=o;unfold On at o' ⊢;unfold bh at h;unfold nX nY;split at h
 ·rename_i q;rw[if_pos q.1,if_pos q.1];lia
 ·split at h
  ·rename_i q1 q
   have:¬ l = "r" := by intro e;rw[e] at q;exact absurd q.1 (by decide)
   rw[if_neg this,if_neg this];lia
  ·exact absurd rfl h
theorem jT{f:ac->Res D}{ρ:ac}{g:List (List Int)}(h:f ρ=.ok (.lst .f (ah .f g)))(hl:g.length<=1000):aT 1 [] (bA f) (aB 0) aO (fCB bF (aa (ad 0) ag)) ρ=.ok (.lst .o (ah .o g)):=by
 have hi:bA f ρ=.ok (ah .f g):=by
  unfold bA;rw[h,bok];show (if _ then _ else be (some ((ah .f g).map D.asF)))=_;rw[if_neg (ntb rfl),hV];rfl
 have e:=fT (cap:=[]) (fi:=bA f) (fe:=fCB bF (aa (ad 0) ag)) (ρ:=ρ) (items:=ah .f g) cpL hi (fun x hx=>by
  obtain ⟨r,_,rfl⟩:=List.mem_map.mp hx
  exact ⟨rfl,ntb rfl⟩) (by simp[ah];exact hl)
 rw[e];congr 2;unfold ah;rw[List.map_map];refine List.map_congr_left fun r _=>?_;show D.lst .o ((r.map D.int).map D.asF)=_;rw[cX]
theorem rZ(L:List Int):bF [.lst .f (L.map D.int)]=.ok (.lst .o (L.map D.int)):=by
 show Res.ok (D.lst .o ((L.map D.int).map D.asF))=_;rw[cX]
theorem r9(a:Ads){m w:Nat}{p:Parts}(h8:m<=8)(h4:w<=4)(G:Good m w p):eP a [p.d]=.ok (aw a p):=by
 have r1:=G.r1;refine gG (ρ:=[some p.d,none,none]) rfl ?_;unfold jI;refine bK (ρ':=[some p.d,some (.lst .f (ah .f p.right)),some (.lst .f (ah .f p.up))]) ?_ ?_
 ·unfold pU
  have e0:f2 dIx (ad 0) (fC (.int 0)) [some p.d,none,none]=.ok (.lst .f (ah .f p.right)):=by (repeat' sizeOf_list_dec)
  have e1:f2 dIx (ad 0) (fC (.int 1)) [some p.d,none,none]=.ok (.lst .f (ah .f p.up)):=by (repeat' sizeOf_list_dec)
  rw[bI (jT e0 (by have:=G.rl;lia)) (bI (jT e1 (by have:=G.ul;lia)) jQ),aok];show (if _ then FOut.bad else FOut.nx _)=_;rw[if_neg (by rintro (z | z | z | z)<;>first | exact nomatch z | exact absurd z (by show ¬ 3<=_;decide))];rw[bJ,bJ];rfl
 ·refine iH ?_ (ntb rfl)
  have ha:aa (ad 1) (aa (ad 2) (aa (fCB bF (aa (f2 dIx (ad 0) (fC (.int 2))) ag)) (aa (fCB bF (aa (f2 dIx (ad 0) (fC (.int 3))) ag)) ag))) [some p.d,some (.lst .f (ah .f p.right)),some (.lst .f (ah .f p.up))]=.ok [.lst .f (ah .f p.right),.lst .f (ah .f p.up),.lst .o (p.starts.map D.int),.lst .o (p.ends.map D.int)]:=by (repeat' first|(with_reducible first|apply rZ)|sizeOf_list_dec)
  have hz:D.fzs [.lst .f (ah .f p.right),.lst .f (ah .f p.up),.lst .o (p.starts.map D.int),.lst .o (p.ends.map D.int)]=[.lst .f (ah .f p.right),.lst .f (ah .f p.up),.lst .f (p.starts.map D.int),.lst .f (p.ends.map D.int)]:=by (repeat' first | (with_reducible exact Lw.aA) | (with_reducible apply Lw.er) | (with_reducible first | exact Lw.ay _ | exact Lw.cB _ | exact Lw.dQ _ | exact Lw.dl | exact Lw.cW _ | exact Lw.cV _ _ _ | exact Lw.eo _ | exact Lw.cm _ _ | exact Lw.bJ _ _ _))
  unfold ju;rw[ha,bok,if_pos ⟨rfl,rfl⟩,hz,kz fun x=>uq a x p m w h8 h4 G];rfl
def go(p:Parts):List Str->Int->Int->Option (List (Int × Int) × Int)
 | [],_,_=>some ([],1)
 |l::ls,x,y=>if bh p x y l=0 then none else match go p ls (nX x l) (nY y l) with
  |some (ps,w)=>some ((nX x l,nY y l)::ps,bh p x y l*w)
  |none=>none
def plD(q:Int × Int):D:=.tup [.int q.1,.int q.2]
def ins(p:Parts)(x y:Int):Bool:=(decide (0<=x)&&decide (x<p.cols))&&(decide (0<=y)&&decide (y<p.rows))
theorem ins_on{p:Parts}{x y:Int}:ins p x y=true ↔ On p x y:=by unfold ins On;simp
def eL(x:Str):List Str:=x.cps.toList.map fun c=>⟨#[c]⟩
theorem mG(x:Str):fj x=(eL x).map D.str:=by unfold fj eL;rw[List.map_map];rfl
theorem qv(x:Str):(eL x).length=x.length:=by unfold eL;simp[Str.length]
theorem uy{f:ac->Res D}{ρ:ac}{x:Str}(h:f ρ=.ok (.str x))(ha:asc x=true):bA f ρ=.ok ((eL x).map D.str):=by
 unfold bA;rw[h,bok,<- mG];show (if _ then _ else _)=_;rw[if_pos ha]
def due(p:Parts)(x y:Int)(s:Str):Option (List (Int × Int) × Int):=if ins p x y=true then go p (eL s) x y else none
abbrev lT(a:Ads):ac->FOut:=(az (aE 6 (fFz (f2 dIx (ad 4) (f1 gu (fC (.int 1))))))
 (az (gIf (ft2 dEq (al 4 (bB a) (aa (ad 0) (aa (f2 dIx (ad 6) (fC (.int 0))) (aa (f2 dIx (ad 6) (fC (.int 1))) (aa (ad 5) ag))))) (fC (.int 0))) (fun _=>.exc (.ref a.BadWalk)) aV)
 (eU 4 (al 3 (cA a) (aa (f2 dIx (ad 6) (fC (.int 0))) (aa (f2 dIx (ad 6) (fC (.int 1))) (aa (ad 5) ag)))))))
def stP(a:Ads)(p:Parts)(x0 y0:Option D)(w0:Option D)(Fd:List (Int × Int))(l s:Option D):ac:=[some (aw a p),x0,y0,w0,some (.lst .o (Fd.map plD)),l,s]
theorem uz(xs:List D)(x x':D)(h:x.rd=x'):dIx (.lst .b (xs++[x])) (.int (-1))=.ok x':=by
 have e:L2.ixN (xs++[x]).length (-1)=some xs.length:=by
  unfold L2.ixN;rw[List.length_append,if_neg (by decide),if_pos (by simp;lia)];congr 1;simp;lia
 show (match L2.ixN (xs++[x]).length (-1) with
  |some j=>be (D.el (.lst .b (xs++[x])) j)
  |none=>Res.bad)=_
 rw[e];show be ((xs++[x])[xs.length]?.map D.rd)=_;rw[<- h];simp[be]
theorem qI(q:Int × Int):(plD q).fz=plD q:=by unfold plD;rw[lK,aq,aq,aA,ay,ay]
theorem iX(a:Ads){m w:Nat}{p:Parts}(G:Good m w p)(x0 y0 w0:Option D):∀ (ls:List Str) (x y:Int) (Fd:List (Int × Int)) (e1 e2:Option D),On p x y->Fd.length+ls.length<999 →
    match go p ls x y with
    |none=>bM (aB 5) (lT a) (ls.map D.str) (stP a p x0 y0 w0 (Fd++[(x,y)]) e1 e2)=.exc (.ref a.BadWalk)
    |some (ps,_)=>∃ e1' e2',bM (aB 5) (lT a) (ls.map D.str) (stP a p x0 y0 w0 (Fd++[(x,y)]) e1 e2)=.nx (stP a p x0 y0 w0 (Fd++(x,y)::ps) e1' e2')
 | [],x,y,Fd,e1,e2,_,_=>⟨e1,e2,rfl⟩
 |l::ls,x,y,Fd,e1,e2,o,hl=>by
  have st:=iW a G o l;have pb:=lS a x y l;have lb:dIx (.lst .b ((Fd++[(x,y)]).map plD)) (.int (-1))=.ok (plD (x,y)):=by rw[List.map_append];exact uz _ _ _ rfl
  have t1:aB 5 (.str l) (stP a p x0 y0 w0 (Fd++[(x,y)]) e1 e2)=.ok (stP a p x0 y0 w0 (Fd++[(x,y)]) (some (.str l)) e2):=mC (by show 5<7;decide) rfl;have fq:=qI (x,y);have s1:aE 6 (fFz (f2 dIx (ad 4) (f1 gu (fC (.int 1))))) (stP a p x0 y0 w0 (Fd++[(x,y)]) (some (.str l)) e2)=.nx (stP a p x0 y0 w0 (Fd++[(x,y)]) (some (.str l)) (some (plD (x,y)))):=by
   unfold stP;(repeat' first|(with_reducible first|apply lb|apply fq)|sizeOf_list_dec)
  show match (if bh p x y l=0 then none else match go p ls (nX x l) (nY y l) with
      |some (ps,w)=>some ((nX x l,nY y l)::ps,bh p x y l*w)
      |none=>none) with
   |none=>bM (aB 5) (lT a) (.str l::ls.map D.str) (stP a p x0 y0 w0 (Fd++[(x,y)]) e1 e2)=.exc (.ref a.BadWalk)
   |some (ps,_)=>∃ e1' e2',bM (aB 5) (lT a) (.str l::ls.map D.str) (stP a p x0 y0 w0 (Fd++[(x,y)]) e1 e2)=.nx (stP a p x0 y0 w0 (Fd++(x,y)::ps) e1' e2')
  have tt:ft2 dEq (al 4 (bB a) (aa (ad 0) (aa (f2 dIx (ad 6) (fC (.int 0))) (aa (f2 dIx (ad 6) (fC (.int 1))) (aa (ad 5) ag))))) (fC (.int 0)) (stP a p x0 y0 w0 (Fd++[(x,y)]) (some (.str l)) (some (plD (x,y))))=.ok (decide (bh p x y l=0)):=by
   unfold stP plD;(repeat' first|(with_reducible first|apply st)|sizeOf_list_dec)
  by_cases h0:bh p x y l=0
  ·rw[if_pos h0]
   exact rX t1 (bK s1 (cJ (cH tt (by rw[h0];rfl) rfl)))
  ·rw[if_neg h0]
   have o':=mF G o l h0;have b:lT a (stP a p x0 y0 w0 (Fd++[(x,y)]) (some (.str l)) e2)=.nx (stP a p x0 y0 w0 ((Fd++[(x,y)])++[(nX x l,nY y l)]) (some (.str l)) (some (plD (x,y)))):=by
    refine bK s1 (bK (aR tt (by simpa using h0) rfl) (vt (xs:=(Fd++[(x,y)]).map plD) (d:=plD (nX x l,nY y l)) rfl ?_ (ntb rfl) (by simp at hl ⊢;lia) ?_))
    ·unfold stP plD;(repeat' first|(with_reducible first|apply pb)|sizeOf_list_dec)
    ·show _=stP _ _ _ _ _ _ _ _
     unfold stP;rw[List.map_append (l₁:=Fd++[(x,y)])];rfl
   have ih:=iX a G x0 y0 w0 ls (nX x l) (nY y l) (Fd++[(x,y)]) (some (.str l)) (some (plD (x,y))) o' (by simp at hl ⊢;lia);revert ih
   cases hg:go p ls (nX x l) (nY y l) with
   |none=>intro ih;exact dt t1 b ih
   |some q=>
    obtain ⟨ps,v⟩:=q;rintro ⟨e1',e2',ih⟩;refine ⟨e1',e2',dt t1 b (ih.trans ?_)⟩;rw[List.append_assoc];rfl
theorem pe{f:ac->Res D}{g:ac->Res (List D)}{ρ:ac}{C:Value}(h1:f ρ=.exc C):aa f g ρ=.exc C:=by unfold aa;rw[h1,fV]
theorem vv{fa:ac->Res (List D)}{ρ:ac}{C:Value}(h1:fa ρ=.exc C):ip fa ρ=.exc C:=by unfold ip;rw[h1,fV]
theorem vz{fi:ac->Res (List D)}{gt:D->ac->Res ac}{gb:ac->FOut}{ρ:ac}{C:Value}(h1:fi ρ=.exc C):dW fi gt gb ρ=.exc C:=by unfold dW;rw[h1,j7]
theorem qJ{f:ac->Res D}{ρ:ac}{C:Value}(h:f ρ=.exc C):bj f ρ=.exc C:=by unfold bj;rw[h,j7]
def plR(a:Ads)(x y:Int):Option (List (Int × Int) × Int)->Res D
 |none=>.exc (.ref a.BadWalk)
 |some (ps,_)=>.ok (.lst .o (((x,y)::ps).map plD))
theorem lU(a:Ads){m w:Nat}{p:Parts}(G:Good m w p)(x y:Int)(s:Str)(ha:asc s=true)(hl:s.length<900):cf a [aw a p,.int x,.int y,.str s]=plR a x y (due p x y s):=by
 have lo:=rY a p x y;have ht:b8 (ftB (al 3 (eG a) (aa (ad 0) (aa (ad 1) (aa (ad 2) ag))))) [some (aw a p),some (.int x),some (.int y),some (.str s),none,none,none]=.ok (!ins p x y):=by
  unfold ins;(repeat' first|(with_reducible first|apply lo)|sizeOf_list_dec)
 unfold due;by_cases hi:ins p x y=true
 ·rw[if_pos hi]
  have o:=ins_on.mp hi;have lp:=iX a G (some (.int x)) (some (.int y)) (some (.str s)) (eL s) x y [] none none o (by rw[qv];simp;omega);have ff:=uy (f:=ad 3) (ρ:=stP a p (some (.int x)) (some (.int y)) (some (.str s)) ([]++[(x,y)]) none none) (x:=s) rfl ha
  have s4:aE 4 (bT (aa (eJ (aa (ad 1) (aa (ad 2) ag))) ag)) [some (aw a p),some (.int x),some (.int y),some (.str s),none,none,none]=.nx (stP a p (some (.int x)) (some (.int y)) (some (.str s)) ([]++[(x,y)]) none none):=by
   show _=FOut.nx [some (aw a p),some (.int x),some (.int y),some (.str s),some (.lst .o [.tup [.int x,.int y]]),none,none];(repeat' sizeOf_list_dec)
  revert lp
  cases hg:go p (eL s) x y with
  |none=>
   intro lp;refine dc (ρ:=[some (aw a p),some (.int x),some (.int y),some (.str s),none,none,none]) rfl ?_;unfold gD;exact bK (aR ht (by rw[hi];rfl) rfl) (bK s4 (cJ (gj ff lp)))
  |some q=>
   obtain ⟨ps,v⟩:=q;rintro ⟨e1,e2,lp⟩;refine gG (ρ:=[some (aw a p),some (.int x),some (.int y),some (.str s),none,none,none]) rfl ?_;unfold gD;exact bK (aR ht (by rw[hi];rfl) rfl) (bK s4 (bK (gj ff lp) rfl))
 ·rw[if_neg hi]
  have hi':ins p x y=false:=by simpa using hi
  refine dc (ρ:=[some (aw a p),some (.int x),some (.int y),some (.str s),none,none,none]) rfl ?_;unfold gD;exact cJ (cH ht (by rw[hi'];rfl) rfl)
theorem sd(L:List (Int × Int)):D.its (.lst .o (L.map plD))=some (L.map plD):=by
 show some (D.fzs (L.map plD))=_;congr 1;induction L with
 |nil=>exact aA
 |cons q L ih=>rw[List.map_cons,aq,ih,qI]
abbrev uA(a:Ads):ac->FOut:=aE 4 (fFz (f2 ci (ad 4) (al 4 (bB a) (aa (ad 0) (aa (f2 dIx (ad 5) (fC (.int 0))) (aa (f2 dIx (ad 5) (fC (.int 1))) (aa (ad 6) ag)))))))
def stQ(a:Ads)(p:Parts)(x0 y0 w0:Option D)(t:Int)(l s:Option D):ac:=[some (aw a p),x0,y0,w0,some (.int t),l,s]
def prs(L:List (Int × Int))(ls:List Str):List D:=((L.map plD).zip (ls.map D.str)).map fun q=>.tup [q.1,q.2]
theorem iY(a:Ads){m w:Nat}{p:Parts}(G:Good m w p)(x0 y0 w0:Option D):∀ (ls:List Str) (x y t:Int) (ps:List (Int × Int)) (v:Int) (e1 e2:Option D),On p x y->go p ls x y=some (ps,v) →
    ∃ e1' e2',bM (gp [5,6]) (uA a) (prs ((x,y)::ps) ls) (stQ a p x0 y0 w0 t e1 e2)=.nx (stQ a p x0 y0 w0 (t*v) e1' e2')
 | [],x,y,t,ps,v,e1,e2,_,h=>by
  have:([],1)=(ps,v):=Option.some.inj h;obtain ⟨rfl,rfl⟩:=Prod.mk.inj this;exact ⟨e1,e2,by rw[Int.mul_one];rfl⟩
 |l::ls,x,y,t,ps,v,e1,e2,o,h=>by
  have h':(if bh p x y l=0 then none else match go p ls (nX x l) (nY y l) with
      |some (ps,w)=>some ((nX x l,nY y l)::ps,bh p x y l*w)
      |none=>none)=some (ps,v):=h
  by_cases h0:bh p x y l=0
  ·rw[if_pos h0] at h';cases h'
  ·rw[if_neg h0] at h'
   have o':=mF G o l h0;have hin:=qu G o l;have st:=iW a G o l;have hm:ci (.int t) (.int (bh p x y l))=.ok (.int (t*bh p x y l)):=nv _ _ (by omega);revert h'
   cases hg:go p ls (nX x l) (nY y l) with
   |none=>intro h';cases h'
   |some q=>
    obtain ⟨qs,u⟩:=q;intro h';have h2:((nX x l,nY y l)::qs,bh p x y l*u)=(ps,v):=Option.some.inj h';obtain ⟨rfl,rfl⟩:=Prod.mk.inj h2;obtain ⟨e1',e2',ih⟩:=iY a G x0 y0 w0 ls (nX x l) (nY y l) (t*bh p x y l) qs u (some (plD (x,y))) (some (.str l)) o' hg;refine ⟨e1',e2',?_⟩;show bM (gp [5,6]) (uA a) (.tup [plD (x,y),.str l]::prs ((nX x l,nY y l)::qs) ls) _=_
    refine dt (ρ1:=stQ a p x0 y0 w0 t (some (plD (x,y))) (some (.str l))) rfl (ρ2:=stQ a p x0 y0 w0 (t*bh p x y l) (some (plD (x,y))) (some (.str l))) ?_ (ih.trans (by rw[Int.mul_assoc]));unfold stQ plD;(repeat' first|(with_reducible first|apply st|apply hm)|sizeOf_list_dec)
def wtR(a:Ads):Option (List (Int × Int) × Int)->Res D
 |none=>.exc (.ref a.BadWalk)
 |some (_,v)=>.ok (.int v)
theorem uB{p:Parts}{x y:Int}{s:Str}{q:List (Int × Int) × Int}(h:due p x y s=some q):On p x y/\go p (eL s) x y=some q:=by
 unfold due at h;split at h
 ·rename_i hi;exact ⟨ins_on.mp hi,h⟩
 ·cases h
theorem weight(a:Ads){m w:Nat}{p:Parts}(G:Good m w p)(x y:Int)(s:Str)(ha:asc s=true)(hl:s.length<900):fu a [aw a p,.int x,.int y,.str s]=wtR a (due p x y s):=by
 have pl:=lU a G x y s ha hl;have hf:aa (ad 0) (aa (ad 1) (aa (ad 2) (aa (ad 3) ag))) [some (aw a p),some (.int x),some (.int y),some (.str s),some (.int 1),none,none]=.ok [aw a p,.int x,.int y,.str s]:=by (repeat' sizeOf_list_dec)
 have hz:D.fzs [aw a p,.int x,.int y,.str s]=[aw a p,.int x,.int y,.str s]:=by (repeat' first | (with_reducible exact Lw.aA) | (with_reducible apply Lw.er) | (with_reducible first | exact Lw.ay _ | exact Lw.cB _ | exact Lw.dQ _ | exact Lw.dl | exact Lw.cW _ | exact Lw.cV _ _ _ | exact Lw.eo _ | exact Lw.cm _ _ | exact Lw.bJ _ _ _))
 have s4:aE 4 (fFz (fC (.int 1))) [some (aw a p),some (.int x),some (.int y),some (.str s),none,none,none]=.nx [some (aw a p),some (.int x),some (.int y),some (.str s),some (.int 1),none,none]:=by (repeat' sizeOf_list_dec)
 cases hd:due p x y s with
 |none=>
  rw[hd] at pl;refine dc (ρ:=[some (aw a p),some (.int x),some (.int y),some (.str s),none,none,none]) rfl ?_;unfold ja;exact bK s4 (cJ (vz (vv (pe (bQ hf rfl hz pl)))))
 |some q=>
  obtain ⟨ps,v⟩:=q;rw[hd] at pl;obtain ⟨o,hg⟩:=uB hd;obtain ⟨e1,e2,lp⟩:=iY a G (some (.int x)) (some (.int y)) (some (.str s)) (eL s) x y 1 ps v none none o hg;have fz:ip (aa (al 4 (cf a) (aa (ad 0) (aa (ad 1) (aa (ad 2) (aa (ad 3) ag))))) (aa (ad 3) ag)) [some (aw a p),some (.int x),some (.int y),some (.str s),some (.int 1),none,none]=.ok (prs ((x,y)::ps) (eL s)):=by
   have hc:=bI (o8 (n:=4) hf rfl hz pl (.inl ⟨rfl,fun z=>nomatch z⟩)) (bI (f:=ad 3) (ρ:=[some (aw a p),some (.int x),some (.int y),some (.str s),some (.int 1),none,none]) (d:=.str s) rfl jQ);unfold ip;rw[hc,bok];show (if asc s=false\/Tg.o=Tg.b\/true=false then Res.bad else be ((D.its (.lst .o (((x,y)::ps).map plD))).map fun ys=>gz ys s))=_;rw[if_neg (by rw[ha];rintro (z | z | z)<;>cases z),sd]
   show Res.ok (gz (((x,y)::ps).map plD) s)=_;unfold gz prs;rw[mG]
  refine gG (ρ:=[some (aw a p),some (.int x),some (.int y),some (.str s),none,none,none]) rfl ?_;unfold ja;refine bK s4 (bK (gj fz lp) ?_);rw[Int.one_mul];show _=FOut.rt (.int v);unfold stQ;(repeat' sizeOf_list_dec)
theorem dC(a:Ads)(p:Parts):bO a.Net "starts" (aw a p)=.ok (.lst .f (p.starts.map D.int)):=by
 show (if a.Net=a.Net then _ else _)=_;rw[if_pos rfl];rfl
theorem mH(a:Ads)(p:Parts):bO a.Net "ends" (aw a p)=.ok (.lst .f (p.ends.map D.int)):=by
 show (if a.Net=a.Net then _ else _)=_;rw[if_pos rfl];rfl
theorem mI{m w:Nat}{p:Parts}(G:Good m w p):p.ends.length<=w/\p.starts.length=p.ends.length/\(∀ e∈p.ends,0<=e/\e<p.rows)/\(∀ e∈p.starts,0<=e/\e<p.rows)/\1<=p.starts.length:=by
 obtain ⟨k,k1,k2,rs,re⟩:=G.many;exact ⟨by rw[re.len];exact k2,by rw[rs.len,re.len],re.inn,rs.inn,by rw[rs.len];exact k1⟩
abbrev Pt:=(Int × Int) × Str
def thX(x:Int)(l:Str):Int:=x+(if decide (l = "r") then 1 else 0)
def thY(y:Int)(l:Str):Int:=y+(if decide (l = "u") then 1 else 0)
def uC(p:Parts)(ex ey:Int)(q:Pt)(l:Str):List Pt:=if (decide (thX q.1.1 l<=ex)&&decide (thY q.1.2 l<=ey))=true/\0<bh p q.1.1 q.1.2 l then [((thX q.1.1 l,thY q.1.2 l),q.2++l)] else []
def ext(p:Parts)(ex ey:Int)(q:Pt):List Pt:=uC p ex ey q "r" ++ uC p ex ey q "u"
theorem lV{i:Nat}{f:ac->Res D}{ρ:ac}{C:Value}(h:f ρ=.exc C):aE i f ρ=.exc C:=by unfold aE;rw[h,j7]
theorem qw{f:ac->Res D}{ρ:ac}{C:Value}(h:f ρ=.exc C):fFz f ρ=.exc C:=by unfold fFz;rw[h,fV]
theorem se{f:ac->Res D}{g:ac->Res (List D)}{ρ:ac}{d:D}{C:Value}(h1:f ρ=.ok d)(h2:g ρ=.exc C):aa f g ρ=.exc C:=by unfold aa;rw[h1,bok,h2,fV]
theorem uD{n:Nat}{F:List D->Res D}{fa:ac->Res (List D)}{ρ:ac}{C:Value}(h:fa ρ=.exc C):al n F fa ρ=.exc C:=by unfold al;rw[h,fV]
theorem dR{f:ac->Res D}{ρ:ac}{C:Value}(h:f ρ=.exc C):bx f ρ=.exc C:=by unfold bx;rw[h,j7]
theorem wm{t:ac->Res Bool}{g1 g2:ac->FOut}{ρ:ac}{C:Value}(h:t ρ=.exc C):gIf t g1 g2 ρ=.exc C:=by unfold gIf;rw[h,j7]
theorem wn{g:D->D->Res D}{fa fb:ac->Res D}{ρ:ac}{C:Value}(h:fa ρ=.exc C):ft2 g fa fb ρ=.exc C:=by unfold ft2 f2;rw[h,fV,fV]
theorem vA{C Dc:Addr}{g:ac->FOut}{ρ:ac}(h:g ρ=.exc (.ref C)):jx C Dc g ρ=.exc (.int (Dc:Int) 0):=by unfold jx;rw[h];exact if_pos rfl
theorem vB{cs:List Addr}{i n:Nat}{gh g:ac->FOut}{ρ:ac}{c:Addr}{d:D}(h:g ρ=.exc (.ref c)\/g ρ=.exc (.int (c:Int) 0))(hc:c∈cs)(hh:gh ((List.replicate n none).set i (some (.exc (.ref c))))=.rt d):iv cs i n gh g ρ=.rt d:=by
 unfold iv;rcases h with h | h
 ·rw[h]
  simp only[if_pos hc,hh]
 ·rw[h]
  have e:((c:Int)).toNat=c:=Int.toNat_natCast c;simp only[e];rw[if_pos (by simp[hc])];simp only[hh]
theorem vC(b0 b1 b2 b3:Bool):dq [.bl b0,.bl b1,.bl b2,.bl b3]=some [b0,b1,b2,b3]:=rfl
def wh(a:Ads)(c:Addr):List Bool:=[decide (c=a.BadNet),decide (c=a.BadWalk),decide (c=a.BadCompany),decide (c=a.NoNumber)]
theorem nG{c x:Addr}{l:List Addr}(h:c=x\/c∈l):dh [x] l (.exc (.ref c))=.ok (.bl (decide (c=x))):=by
 unfold dh;by_cases z:c=x
 ·simp[z]
 ·rcases h with h | h
  ·exact absurd h z
  ·simp[z,h]
theorem k6(a:Ads)(c:Addr)(j:Nat)(hc:c∈[a.BadCompany,a.BadNet,a.BadWalk,a.NoNumber])(hw:(wh a c).countP (· == true)=1)(hm:true∈wh a c)(hj:(wh a c).idxOf true=j):a9 a [.exc (.ref c)]=.ok (.int (j:Int)):=by
 have hc':c=a.BadCompany\/c=a.BadNet\/c=a.BadWalk\/c=a.NoNumber:=by simpa using hc
 have i0:=nG (c:=c) (x:=a.BadNet) (l:=[a.BadCompany,a.BadWalk,a.NoNumber]) (by simp only[List.mem_cons,List.not_mem_nil,or_false];rcases hc' with h | h | h | h<;>simp[h]);have i1:=nG (c:=c) (x:=a.BadWalk) (l:=[a.BadCompany,a.BadNet,a.NoNumber]) (by simp only[List.mem_cons,List.not_mem_nil,or_false];rcases hc' with h | h | h | h<;>simp[h])
 have i2:=nG (c:=c) (x:=a.BadCompany) (l:=[a.BadNet,a.BadWalk,a.NoNumber]) (by simp only[List.mem_cons,List.not_mem_nil,or_false];rcases hc' with h | h | h | h<;>simp[h]);have i3:=nG (c:=c) (x:=a.NoNumber) (l:=[a.BadCompany,a.BadNet,a.BadWalk]) (by simp only[List.mem_cons,List.not_mem_nil,or_false];rcases hc' with h | h | h | h<;>simp[h])
 have i4:dh [a.BadCompany,a.BadNet,a.BadWalk,a.NoNumber] [] (.exc (.ref c))=.ok (.bl true):=by unfold dh;simp only[if_pos hc]
 have hv:∀ e:Option D,ad 0 [some (.exc (.ref c)),e]=.ok (.exc (.ref c)):=fun e=>rfl
 have hl:bT (aa (f1 (dh [a.BadNet] [a.BadCompany,a.BadWalk,a.NoNumber]) (ad 0)) (aa (f1 (dh [a.BadWalk] [a.BadCompany,a.BadNet,a.NoNumber]) (ad 0)) (aa (f1 (dh [a.BadCompany] [a.BadNet,a.BadWalk,a.NoNumber]) (ad 0)) (aa (f1 (dh [a.NoNumber] [a.BadCompany,a.BadNet,a.BadWalk]) (ad 0)) ag)))) [some (.exc (.ref c)),none]=.ok (.lst .o ((wh a c).map D.bl)):=
  qG (bI (je (hv _) i0) (bI (je (hv _) i1) (bI (je (hv _) i2) (bI (je (hv _) i3) jQ)))) rfl (by simp[wh])
 have hz:(D.lst .o ((wh a c).map D.bl)).fz=.lst .f ((wh a c).map D.bl):=by
  unfold wh;rw[bo];simp only[List.map_cons,List.map_nil,aq,aA,dQ]
 have hb:dq ((wh a c).map D.bl)=some (wh a c):=vC _ _ _ _;have v1:ad 1 [some (.exc (.ref c)),some (.lst .f ((wh a c).map D.bl))]=.ok (.lst .f ((wh a c).map D.bl)):=rfl;have hcount:iq (ad 1) [some (.exc (.ref c)),some (.lst .f ((wh a c).map D.bl))]=.ok (.int 1):=by
  unfold iq;rw[v1,bok];simp only[hb];rw[if_pos (by simp[wh]),hw];rfl
 have hindex:ir (ad 1) [some (.exc (.ref c)),some (.lst .f ((wh a c).map D.bl))]=.ok (.int (j:Int)):=by
  unfold ir;rw[v1,bok];simp only[hb];rw[if_pos ⟨by simp[wh],hm⟩,hj]
 refine gG (ρ:=[some (.exc (.ref c)),none]) rfl ?_;unfold hG;refine bK (ρ':=[some (.exc (.ref c)),some (.lst .f ((wh a c).map D.bl))]) ?_ (bK (aR (b:=!true||(!true||false)) ?_ rfl rfl) ?_)
 ·have:=di (i:=1) hl (ntb rfl) (by show 1<2;decide)
  rw[this,hz];rfl
 ·exact nF (iF (t_B (je (hv _) i4))) (nF (iF (t_B (je (hv _) i4))) (t_2 hcount v_C rfl))
 ·exact iH hindex (ntb rfl)
theorem uE(p:Parts)(x y:Int):bh p x y "x" = 0:=by
 unfold bh;rw[if_neg (fun z=>absurd z.1 (by decide)),if_neg (fun z=>absurd z.1 (by decide))]
theorem wo(p:Parts)(x y:Int)(ls:List Str):go p ("x" :: ls) x y=none:=by
 show (if bh p x y "x" = 0 then none else _)=none;rw[if_pos (uE p x y)]
theorem uF(p:Parts):∀ (n:Nat) (x y:Int),0<n->(p.cols:Int)<=x+n->go p (List.replicate n "r") x y=none
 | 0,x,y,h,_=>by omega
 |n+1,x,y,_,h=>by
  rw[List.replicate_succ];show (if bh p x y "r" = 0 then none else match go p (List.replicate n "r") (nX x "r") (nY y "r") with
      |some (ps,w)=>some ((nX x "r", nY y "r")::ps,bh p x y "r" * w)
      |none=>none)=none
  by_cases h0:x+1<p.cols
  ·have hn:0<n:=by omega
   rw[show nX x "r" = x+1 by simp[nX],uF p n (x+1) (nY y "r") hn (by omega)];split<;>rfl
  ·have:bh p x y "r" = 0:=by
      unfold bh;rw[if_neg (fun z=>h0 z.2),if_neg (fun z=>absurd z.1 (by decide))]
   rw[if_pos this]
theorem qK{m w:Nat}{p:Parts}(G:Good m w p)(y:Int):due p 0 y "x" = none:=by
 unfold due;split
 ·exact wo p 0 y []
 ·rfl
theorem vD{p:Parts}(G:Good 5 4 p):due p 0 0 (dJ "r" 9)=none:=by
 unfold due;split
 ·have e:eL (dJ "r" 9)=List.replicate 9 ("r" : Str):=by decide +kernel
  rw[e];have:=G.c1;exact uF p 9 0 0 (by decide) (by omega)
 ·rfl
theorem sg(a:Ads)(x:Addr):eO a x [.lst .f [],.lst .f [],.lst .f [.int 0],.lst .f [.int 0]]=.exc (.ref a.BadNet):=by
 have e:jB a (some (D.slf x a.Net [])::([D.lst .f [],.lst .f [],.lst .f [.int 0],.lst .f [.int 0]].map some++List.replicate (7 - (4+1)) none))=.exc (.ref a.BadNet):=by
  unfold jB;have c0:bV a [.int 0]=.exc (.ref a.BadNet):=by
   refine dc (ρ:=[some (.int 0)]) rfl ?_;unfold dL;exact cH (b:=true) (by rfl) rfl rfl
  refine cJ (dR (bQ (ds:=[.int 0]) (ds':=[.int 0]) (by rfl) rfl (by (repeat' first | (with_reducible exact Lw.aA) | (with_reducible apply Lw.er) | (with_reducible first | exact Lw.ay _ | exact Lw.cB _ | exact Lw.dQ _ | exact Lw.dl | exact Lw.cW _ | exact Lw.cV _ _ _ | exact Lw.eo _ | exact Lw.cm _ _ | exact Lw.bJ _ _ _))) c0))
 unfold eO cj;simp only[List.length_cons,List.length_nil];rw[e]
theorem qx{gt:D->ac->Res ac}{ft:ac->Res Bool}{fe:ac->Res D}{x:D}{xs acc:List D}{ρ ρ1:ac}{C:Value}(h1:gt x ρ=.ok ρ1)(h2:ft ρ1=.ok true)(h3:fe ρ1=.exc C):cb gt ft fe (x::xs) ρ acc=.exc C:=by
 unfold cb;simp only[h1,h2,h3,if_true,fV]
section
variable {p:Parts}(G:Good 5 4 p)(a:Ads)
include G
theorem st1:1<=p.starts.length/\p.starts.length<=4/\p.ends.length=p.starts.length:=by
 obtain ⟨h1,h2,_,_,h3⟩:=mI G;omega
theorem pf:aU a [aw a p,.lst .f []]=.exc (.ref a.BadCompany):=by
 have s1:=st1 G;refine dc (ρ:=[some (aw a p),some (.lst .f []),none,none]) rfl ?_;unfold dM;refine cJ (cH (b:=true) (t_2 (x:=.int 0) (y:=.int ((p.starts.map D.int).length:Nat)) (by rfl) ?_ ?_) rfl rfl)
 ·(repeat' first|(with_reducible first|apply dC)|sizeOf_list_dec)
 ·show Res.ok (D.bl (true != decide _))=_
  rw[decide_eq_false (by simp only[List.length_map];omega)];rfl
theorem wq(y:Int)(hy:0<=y/\y<p.rows)(k:Nat)(hk:dIx (.lst .f (p.starts.map D.int)) (.int (k:Int))=.ok (.int y)):bE a [aw a p,.int (k:Int),.str "x"]=.exc (.int (a.BadCompany:Int) 0):=by
 have pl:=lU a G 0 y "x" (by decide +kernel) (by decide +kernel);rw[qK G] at pl;have pl:cf a [aw a p,.int 0,.int y,.str "x"]=.exc (.ref a.BadWalk):=pl;refine dc (ρ:=[some (aw a p),some (.int (k:Int)),some (.str "x")]) rfl ?_;unfold eH
 refine vA (qJ (bQ (ds:=[aw a p,.int 0,.int y,.str "x"]) (ds':=[aw a p,.int 0,.int y,.str "x"]) ?_ rfl (by (repeat' first | (with_reducible exact Lw.aA) | (with_reducible apply Lw.er) | (with_reducible first | exact Lw.ay _ | exact Lw.cB _ | exact Lw.dQ _ | exact Lw.dl | exact Lw.cW _ | exact Lw.cV _ _ _ | exact Lw.eo _ | exact Lw.cm _ _ | exact Lw.bJ _ _ _))) pl))
 (repeat' first|(with_reducible first|apply dC|apply hk)|sizeOf_list_dec)
theorem sj:aU a [aw a p,.lst .f (List.replicate p.starts.length (.str "x"))]=.exc (.int (a.BadCompany:Int) 0):=by
 have s1:=st1 G;obtain ⟨_,_,_,si,_⟩:=mI G;obtain ⟨s,ss,hs⟩:∃ s ss,p.starts=s::ss:=by
  cases h:p.starts with
  |nil=>rw[h] at s1;simp at s1
  |cons s ss=>exact ⟨s,ss,rfl⟩
 have pw:=wq G a s (si s (by rw[hs];exact List.mem_cons_self)) 0 (by rw[hs];exact o9 rfl rfl);refine dc (ρ:=[some (aw a p),some (.lst .f (List.replicate p.starts.length (.str "x"))),none,none]) rfl ?_;unfold dM;have hn:(List.replicate p.starts.length (D.str "x")).length=p.starts.length:=by simp
 refine bK (aR (b:=false) (t_2 (x:=.int (p.starts.length:Nat)) (y:=.int ((p.starts.map D.int).length:Nat)) ?_ ?_ ?_) rfl rfl) (cJ (lV (qw ?_)))
 ·have:fCB bq (aa (ad 1) ag) [some (aw a p),some (.lst .f (List.replicate p.starts.length (.str "x"))),none,none]=.ok (.int ((List.replicate p.starts.length (D.str "x")).length:Nat)):=rfl
  rw[this,hn]
 ·(repeat' first|(with_reducible first|apply dC)|sizeOf_list_dec)
 ·show Res.ok (D.bl (true != decide _))=_
  rw[decide_eq_true (by simp only[List.length_map])];rfl
 ·have hr:List.replicate p.starts.length (D.str "x")=.str "x" :: List.replicate ss.length (.str "x"):=by rw[hs];rfl
  have hi:jw (aa (ad 1) ag) [some (aw a p),some (.lst .f (List.replicate p.starts.length (.str "x"))),none,none]=.ok (gA (List.replicate p.starts.length (.str "x"))):=by
   have hv:aa (ad 1) ag [some (aw a p),some (.lst .f (List.replicate p.starts.length (.str "x"))),none,none]=.ok [.lst .f (List.replicate p.starts.length (.str "x"))]:=by (repeat' sizeOf_list_dec)
   unfold jw;rw[hv,bok];show (if _ then _ else _)=_;rw[if_neg (by rintro (z | z)<;>cases z)];show be (some (gA ((List.replicate p.starts.length (D.str "x")).map D.asF)))=_;rw[List.map_replicate];rfl
  unfold jz;rw[hi,bok,hr];have ec:cb (gp [0,1]) aO (al 3 (bE a) (aa (ad 2) (aa (ad 0) (aa (ad 1) ag)))) (gA (.str "x" :: List.replicate ss.length (.str "x"))) [none,none,some (aw a p)] []=.exc (.int (a.BadCompany:Int) 0):=by
   have ef:al 3 (bE a) (aa (ad 2) (aa (ad 0) (aa (ad 1) ag))) [some (.int 0),some (.str "x"),some (aw a p)]=.exc (.int (a.BadCompany:Int) 0):=
    bQ (ds:=[aw a p,.int 0,.str "x"]) (ds':=[aw a p,.int 0,.str "x"]) (by (repeat' sizeOf_list_dec)) rfl (by (repeat' first | (with_reducible exact Lw.aA) | (with_reducible apply Lw.er) | (with_reducible first | exact Lw.ay _ | exact Lw.cB _ | exact Lw.dQ _ | exact Lw.dl | exact Lw.cW _ | exact Lw.cV _ _ _ | exact Lw.eo _ | exact Lw.cm _ _ | exact Lw.bJ _ _ _))) pw
   exact qx rfl rfl ef
  have cp:List.replicate 2 none++[0].map (aL [some (aw a p),some (.lst .f (.str "x" :: List.replicate ss.length (.str "x"))),none,none])=[none,none,some (aw a p)]:=rfl;rw[cp,ec,fV]
end
section
variable {p:Parts}(a:Ads){ds:List D}{C:Value}
theorem uG(h:aU a [aw a p,.lst .f ds]=.exc C)(hz:(D.lst .f ds).fz=.lst .f ds):bY a [aw a p,.lst .f ds]=.exc C:=by
 refine dc (ρ:=[some (aw a p),some (.lst .f ds),none,none,none,none,none]) rfl ?_;unfold fP;exact cJ (lV (qw (bQ (ds:=[aw a p,.lst .f ds]) (ds':=[aw a p,.lst .f ds]) (by (repeat' sizeOf_list_dec)) rfl (by rw[aq,aq,aA,hz];rfl) h)))
theorem wr(h:aU a [aw a p,.lst .f ds]=.exc C)(hz:(D.lst .f ds).fz=.lst .f ds):ej a [aw a p,.lst .f ds]=.exc C:=by
 refine dc (ρ:=[some (aw a p),some (.lst .f ds),none,none,none,none,none,none]) rfl ?_;unfold iN;exact cJ (lV (qw (bQ (ds:=[aw a p,.lst .f ds]) (ds':=[aw a p,.lst .f ds]) (by (repeat' sizeOf_list_dec)) rfl (by rw[aq,aq,aA,hz];rfl) (uG a h hz))))
theorem wt(h:aU a [aw a p,.lst .f ds]=.exc C)(hz:(D.lst .f ds).fz=.lst .f ds):iy a [aw a p,.lst .f ds]=.exc C:=by
 refine dc (ρ:=[some (aw a p),some (.lst .f ds)]) rfl ?_;unfold mw;refine qJ (uD (se (d:=aw a p) (by (repeat' sizeOf_list_dec)) (pe (bQ (ds:=[aw a p,.lst .f ds]) (ds':=[aw a p,.lst .f ds]) (by (repeat' sizeOf_list_dec)) rfl (by rw[aq,aq,aA,hz];rfl) h))))
theorem wu(h:aU a [aw a p,.lst .f ds]=.exc C)(hz:(D.lst .f ds).fz=.lst .f ds):ek a [aw a p,.lst .f ds]=.exc C:=by
 refine dc (ρ:=[some (aw a p),some (.lst .f ds),none,none,none,none,none,none]) rfl ?_;unfold iP;exact cJ (wm (wn (bQ (ds:=[aw a p,.lst .f ds]) (ds':=[aw a p,.lst .f ds]) (by (repeat' sizeOf_list_dec)) rfl (by rw[aq,aq,aA,hz];rfl) (uG a h hz))))
theorem wv:dN a [aw a p,.int (-1)]=.exc (.ref a.NoNumber):=by
 refine dc (ρ:=[some (aw a p),some (.int (-1)),none,none,none,none]) rfl ?_;unfold g6;refine cJ (cH (b:=!false) (iF (t_B ?_)) rfl rfl);rfl
theorem qy(one other:Int)(h:0<=one/\one<p.starts.length/\¬ (0<=other/\other<p.ends.length)):iw a [aw a p,.int one,.int other]=.exc (.ref a.BadWalk):=by
 have l1:(p.starts.map D.int).length=p.starts.length:=List.length_map ..;have l2:(p.ends.map D.int).length=p.ends.length:=List.length_map ..;refine dc (ρ:=[some (aw a p),some (.int one),some (.int other),none,none,none,none,none]) rfl ?_;unfold ms
 refine cJ (cH (b:=!(decide ((0:Int)<=one)&&decide (one<((p.starts.map D.int).length:Nat))) || !(decide ((0:Int)<=other)&&decide (other<((p.ends.map D.int).length:Nat)))) ?_ (by rw[l1,l2];simp;omega) rfl);refine nF (iF (t_B (ke ?_ ?_ ?_))) (iF (t_B (ke ?_ ?_ ?_)))
 all_goals (repeat' first|(with_reducible first|apply dC|apply mH)|sizeOf_list_dec)
end
def ia(k:Nat):Int:=[0,1,1,1,2,2,2,3].getD k 0
theorem ww(a:Ads)(c:Addr)(j:Int)(h:a9 a [.exc (.ref c)]=.ok (.int j)):bj (cz 1 (a9 a) (aa (ad 2) ag)) ((List.replicate 3 none).set 2 (some (.exc (.ref c))))=.rt (.int j):=by
 refine iH (d:=.int j) ?_ (ntb rfl);have hf:aa (ad 2) ag ((List.replicate 3 none).set 2 (some (.exc (.ref c))))=.ok [.exc (.ref c)]:=rfl;have hz:D.fzs [.exc (.ref c)]=[.exc (.ref c)]:=by rw[aq,aA];rfl
 unfold cz;rw[hf,bok,if_pos (show [D.exc (Value.ref c)].length=1 from rfl)];unfold cZ;rw[hz,h];rfl
theorem eqk(a:Ads)(p:Parts)(k i:Nat):ft2 dEq (ad 1) (fC (.int (i:Int))) [some (aw a p),some (.int (k:Int)),none]=.ok (decide ((k:Int)=(i:Int))):=t_2 (x:=.int (k:Int)) (y:=.int (i:Int)) rfl rfl (nw _ _)
theorem met(a:Ads)(Di:Dis a){p:Parts}(G:Good 5 4 p)(k:Nat)(hk:k<8):dP a [aw a p,.int (k:Int)]=.ok (.int (ia k)):=by
 obtain ⟨d1,d2,d3,d4,d5,d6,d7,d8,d9,d10,d11,d12⟩:=Di;have wN:a9 a [.exc (.ref a.BadNet)]=.ok (.int ((0:Nat):Int)):=k6 a _ 0 (by simp) (by simp[*,wh]) (by simp[*,wh]) (by simp[*,wh]);have wW:a9 a [.exc (.ref a.BadWalk)]=.ok (.int ((1:Nat):Int)):=k6 a _ 1 (by simp) (by simp[*,wh]) (by simp[*,wh]) (by simp[*,wh,List.idxOf_cons])
 have wC:a9 a [.exc (.ref a.BadCompany)]=.ok (.int ((2:Nat):Int)):=k6 a _ 2 (by simp) (by simp[*,wh]) (by simp[*,wh]) (by simp[*,wh,List.idxOf_cons]);have wO:a9 a [.exc (.ref a.NoNumber)]=.ok (.int ((3:Nat):Int)):=k6 a _ 3 (by simp) (by simp[*,wh]) (by simp[*,wh]) (by simp[*,wh,List.idxOf_cons]);have s1:=st1 G
 have t:∀ (i:Nat),(ft2 dEq (ad 1) (fC (.int (i:Int))) [some (aw a p),some (.int (k:Int)),none]=.ok (decide ((k:Int)=(i:Int)))):=eqk a p k;have t0:=t 0;have t1:=t 1;have t2:=t 2;have t3:=t 3;have t4:=t 4;have t5:=t 5;have t6:=t 6;refine gG (ρ:=[some (aw a p),some (.int (k:Int)),none]) rfl ?_;unfold jJ
 have fin:∀ {c:Addr} {j:Nat} {g:ac->FOut},a9 a [.exc (.ref c)]=.ok (.int (j:Int))->c∈[a.BadCompany,a.BadNet,a.BadWalk,a.NoNumber]->(g [some (aw a p),some (.int (k:Int)),none]=.exc (.ref c)\/g [some (aw a p),some (.int (k:Int)),none]=.exc (.int (c:Int) 0))->(j:Int)=ia k →
     iv [a.BadCompany,a.BadNet,a.BadWalk,a.NoNumber] 2 3 (bj (cz 1 (a9 a) (aa (ad 2) ag))) g [some (aw a p),some (.int (k:Int)),none]=.rt (.int (ia k)):=fun h1 h2 h3 h4=>h4 ▸ vB h3 h2 (ww a _ _ h1)
 have zE:(D.lst .f []).fz=.lst .f []:=by rw[bo,aA]
 have ze:(D.lst .o []).fz=.lst .f []:=by rw[bo,aA]
 have hcases:k=0\/k=1\/k=2\/k=3\/k=4\/k=5\/k=6\/k=7:=by omega
 rcases hcases with rfl | rfl | rfl | rfl | rfl | rfl | rfl | rfl
 ·refine dm (fin wN (by simp) (.inl (cH t0 (by decide) (dR ?_))) rfl)
  have ha:aa (bT ag) (aa (bT ag) (aa (bT (aa (fC (.int 0)) ag)) (aa (bT (aa (fC (.int 0)) ag)) ag))) [some (aw a p),some (.int ((0:Nat):Int)),none]=.ok [.lst .o [],.lst .o [],.lst .o [.int 0],.lst .o [.int 0]]:=by rfl
  have hz:D.fzs [.lst .o [],.lst .o [],.lst .o [.int 0],.lst .o [.int 0]]=[.lst .f [],.lst .f [],.lst .f [.int 0],.lst .f [.int 0]]:=by
   simp only[aq,aA,bo,ay]
  unfold ju;rw[ha,bok,if_pos ⟨rfl,rfl⟩,hz,kz fun x=>sg a x];rfl
 ·refine dm (fin wW (by simp) (.inl (aR t0 (by decide) (cH t1 (by decide) (dR ?_)))) rfl)
  have pl:=lU a G 0 0 (dJ "r" 9) (by decide +kernel) (by decide +kernel);rw[vD G] at pl;have pl:cf a [aw a p,.int 0,.int 0,.str (dJ "r" 9)]=.exc (.ref a.BadWalk):=pl;have m9:gB (.str "r") (.int 9)=.ok (.str (dJ "r" 9)):=by
   unfold gB;simp only[];rw[if_pos (by decide +kernel)]
  exact bQ (ds:=[aw a p,.int 0,.int 0,.str (dJ "r" 9)]) (ds':=[aw a p,.int 0,.int 0,.str (dJ "r" 9)]) (by (repeat' first|(with_reducible first|apply m9)|sizeOf_list_dec)) rfl (by (repeat' first | (with_reducible exact Lw.aA) | (with_reducible apply Lw.er) | (with_reducible first | exact Lw.ay _ | exact Lw.cB _ | exact Lw.dQ _ | exact Lw.dl | exact Lw.cW _ | exact Lw.cV _ _ _ | exact Lw.eo _ | exact Lw.cm _ _ | exact Lw.bJ _ _ _))) pl
 ·refine dm (fin wW (by simp) (.inl (aR t0 (by decide) (aR t1 (by decide) (cH t2 (by decide) (dR ?_))))) rfl)
  have pl:=weight a G 0 0 "x" (by decide +kernel) (by decide +kernel);rw[qK G] at pl;have pl:fu a [aw a p,.int 0,.int 0,.str "x"]=.exc (.ref a.BadWalk):=pl
  exact bQ (ds:=[aw a p,.int 0,.int 0,.str "x"]) (ds':=[aw a p,.int 0,.int 0,.str "x"]) (by (repeat' sizeOf_list_dec)) rfl (by (repeat' first | (with_reducible exact Lw.aA) | (with_reducible apply Lw.er) | (with_reducible first | exact Lw.ay _ | exact Lw.cB _ | exact Lw.dQ _ | exact Lw.dl | exact Lw.cW _ | exact Lw.cV _ _ _ | exact Lw.eo _ | exact Lw.cm _ _ | exact Lw.bJ _ _ _))) pl
 ·refine dm (fin wW (by simp) (.inl (aR t0 (by decide) (aR t1 (by decide) (aR t2 (by decide) (cH t3 (by decide) (dR ?_)))))) rfl)
  have pl:=qy (p:=p) a 0 4 (by omega)
  exact bQ (ds:=[aw a p,.int 0,.int 4]) (ds':=[aw a p,.int 0,.int 4]) (by (repeat' sizeOf_list_dec)) rfl (by (repeat' first | (with_reducible exact Lw.aA) | (with_reducible apply Lw.er) | (with_reducible first | exact Lw.ay _ | exact Lw.cB _ | exact Lw.dQ _ | exact Lw.dl | exact Lw.cW _ | exact Lw.cV _ _ _ | exact Lw.eo _ | exact Lw.cm _ _ | exact Lw.bJ _ _ _))) pl
 ·refine dm (fin wC (by simp) (.inl (aR t0 (by decide) (aR t1 (by decide) (aR t2 (by decide) (aR t3 (by decide) (cH t4 (by decide) (dR ?_))))))) rfl)
  exact bQ (ds:=[aw a p,.lst .o []]) (ds':=[aw a p,.lst .f []]) (by rfl) rfl (by rw[aq,aq,aA,ze];rfl) (wt a (pf G a) zE)
 ·refine dm (fin wC (by simp) (.inr (aR t0 (by decide) (aR t1 (by decide) (aR t2 (by decide) (aR t3 (by decide) (aR t4 (by decide) (cH t5 (by decide) (dR ?_)))))))) rfl)
  have rz:∀ (n:Nat) (t:Tg),(D.lst t (List.replicate n (.str "x"))).fz=.lst .f (List.replicate n (.str "x")):=fun n t=>by
   rw[bo];congr 1;induction n with
   |zero=>rw[List.replicate_zero,aA]
   |succ n ih=>rw[List.replicate_succ,aq,ih,cB]
  have e1:i9 (.lst .o [.str "x"]) (.int ((p.starts.map D.int).length:Nat))=.ok (.lst .o (List.replicate p.starts.length (.str "x"))):=by
   have hi:D.its (.lst .o [.str "x"])=some [.str "x"]:=by
    show some (D.fzs [.str "x"])=_;rw[aq,aA,cB]
   unfold i9;simp only[hi];rw[List.length_map,if_pos (by simp;omega)];simp
  have hl:bT (aa (fC (.str "x")) ag) [some (aw a p),some (.int ((5:Nat):Int)),none]=.ok (.lst .o [.str "x"]):=rfl;have hlen:fCB bq (aa (f1 (bO a.Net "starts") (ad 0)) ag) [some (aw a p),some (.int ((5:Nat):Int)),none]=.ok (.int ((p.starts.map D.int).length:Nat)):=by (repeat' first|(with_reducible first|apply dC)|sizeOf_list_dec)
  refine bQ (ds:=[aw a p,.lst .o (List.replicate p.starts.length (.str "x"))]) (ds':=[aw a p,.lst .f (List.replicate p.starts.length (.str "x"))]) ?_ rfl (by rw[aq,aq,aA,rz];rfl) (wr a (sj G a) (rz _ _));exact bI rfl (bI (qt hl hlen e1) jQ)
 ·refine dm (fin wC (by simp) (.inl (aR t0 (by decide) (aR t1 (by decide) (aR t2 (by decide) (aR t3 (by decide) (aR t4 (by decide) (aR t5 (by decide) (cH t6 (by decide) (dR ?_))))))))) rfl)
  exact bQ (ds:=[aw a p,.lst .o []]) (ds':=[aw a p,.lst .f []]) (by rfl) rfl (by rw[aq,aq,aA,ze];rfl) (wu a (pf G a) zE)
 ·refine dm (fin wO (by simp) (.inl (aR t0 (by decide) (aR t1 (by decide) (aR t2 (by decide) (aR t3 (by decide) (aR t4 (by decide) (aR t5 (by decide) (aR t6 (by decide) (dR ?_))))))))) rfl)
  exact bQ (ds:=[aw a p,.int (-1)]) (ds':=[aw a p,.int (-1)]) (by rfl) rfl (by (repeat' first | (with_reducible exact Lw.aA) | (with_reducible apply Lw.er) | (with_reducible first | exact Lw.ay _ | exact Lw.cB _ | exact Lw.dQ _ | exact Lw.dl | exact Lw.cW _ | exact Lw.cV _ _ _ | exact Lw.eo _ | exact Lw.cm _ _ | exact Lw.bJ _ _ _))) (wv a)
theorem jf{n:Nat}(hn:1<=n):∀ r:List Int,aG n (.lst .f (r.map D.int)) (.lst .f (r.map D.int))=some true:=by
 intro r;obtain ⟨m,rfl⟩:∃ m,n=m+1:=⟨n - 1,by omega⟩
 show (if (r.map D.int).length=(r.map D.int).length then cu (((r.map D.int).zip (r.map D.int)).map fun p=>aG m p.1 p.2) else some false)=_;rw[if_pos rfl];induction r with
 |nil=>rfl
 |cons x r ih=>
  show cu (aG m (.int x) (.int x)::((r.map D.int).zip (r.map D.int)).map fun p=>aG m p.1 p.2)=_;rw[show aG m (.int x) (.int x)=some true by cases m<;>simp[aG]];show (match cu (((r.map D.int).zip (r.map D.int)).map fun p=>aG m p.1 p.2) with
   |some c=>some (true&&c)
   |none=>none)=_
  rw[ih];rfl
theorem ph(g:List (List Int)):aG 3 (.lst .f (ah .f g)) (.lst .f (ah .f g))=some true:=by
 show (if (ah .f g).length=(ah .f g).length then cu (((ah .f g).zip (ah .f g)).map fun p=>aG 2 p.1 p.2) else some false)=_;rw[if_pos rfl];induction g with
 |nil=>rfl
 |cons r g ih=>
  show cu (aG 2 (.lst .f (r.map D.int)) (.lst .f (r.map D.int))::((ah .f g).zip (ah .f g)).map fun p=>aG 2 p.1 p.2)=_;rw[jf (by decide) r];show (match cu (((ah .f g).zip (ah .f g)).map fun p=>aG 2 p.1 p.2) with
   |some c=>some (true&&c)
   |none=>none)=_
  rw[ih];rfl
theorem uH(p:Parts):dEq p.d p.d=.ok (.bl true):=by
 have e:aG 4 p.d p.d=some true:=by
  show (if 4=4 then cu [aG 3 (.lst .f (ah .f p.right)) (.lst .f (ah .f p.right)),aG 3 (.lst .f (ah .f p.up)) (.lst .f (ah .f p.up)),aG 3 (.lst .f (p.starts.map D.int)) (.lst .f (p.starts.map D.int)),aG 3 (.lst .f (p.ends.map D.int)) (.lst .f (p.ends.map D.int))] else none)=_;rw[if_pos rfl,ph,ph,jf (by decide),jf (by decide)];rfl
 unfold dEq;rw[if_pos ⟨rfl,rfl⟩,e]
def stL(ns:List Int)(a:Ads)(p:Parts)(f:Int)(e4 e5:Option D):ac:=[some (.scr ns),some p.d,some (aw a p),some (.int f),e4,e5]
abbrev gbT(a:Ads):ac->FOut:=(az (aE 5 (fFz (f2 b7 (f2 aX (ad 3) (ad 4)) (fC (.int 8)))))
 (gIf (ft2 dNe (al 2 (dP a) (aa (ad 2) (aa (ad 5) ag))) (f2 dIx (bT (aa (fC (.int 0)) (aa (fC (.int 1)) (aa (fC (.int 1)) (aa (fC (.int 1)) (aa (fC (.int 2)) (aa (fC (.int 2)) (aa (fC (.int 2)) (aa (fC (.int 3)) ag))))))))) (ad 5))) (bj (fC (.bl false))) aV))
theorem turn(ns:List Int)(a:Ads)(Di:Dis a){p:Parts}(G:Good 5 4 p)(f k:Int)(e5:Option D):∃ e5',gbT a (stL ns a p f (some (.int k)) e5)=.nx (stL ns a p f (some (.int k)) e5'):=by
 obtain ⟨w,hw,hw8⟩:∃ w:Nat,(f+k) % 8=(w:Int)/\w<8:=⟨((f+k) % 8).toNat,by omega,by omega⟩
 have m8:=em (f+k) 8 (by decide);rw[hw] at m8;have mt:=met a Di G w hw8;have hix:dIx (.lst .o [.int 0,.int 1,.int 1,.int 1,.int 2,.int 2,.int 2,.int 3]) (.int (w:Int))=.ok (.int (ia w)):=by
  refine uu ?_;have:w=0\/w=1\/w=2\/w=3\/w=4\/w=5\/w=6\/w=7:=by omega
  rcases this with rfl | rfl | rfl | rfl | rfl | rfl | rfl | rfl<;>rfl
 have ne:dNe (.int (ia w)) (.int (ia w))=.ok (.bl false):=by
  show Res.ok (D.bl (true != decide (ia w=ia w)))=_;rw[decide_eq_true rfl];rfl
 refine ⟨some (.int (w:Int)),bK (ρ':=stL ns a p f (some (.int k)) (some (.int (w:Int)))) ?_ (aR (b:=false) ?_ rfl rfl)⟩
 ·unfold stL;(repeat' first|(with_reducible first|apply m8)|sizeOf_list_dec)
 ·unfold stL;(repeat' first|(with_reducible first|apply mt|apply hix|apply ne)|sizeOf_list_dec)
theorem qL(ns:List Int)(a:Ads)(Di:Dis a){p:Parts}(G:Good 5 4 p)(f:Int):∀ (L:List D) (e4 e5:Option D),(∀ d∈L,∃ k:Int,d=.int k)->∃ e4' e5',bM (aB 4) (gbT a) L (stL ns a p f e4 e5)=.nx (stL ns a p f e4' e5')
 | [],e4,e5,_=>⟨e4,e5,rfl⟩
 |d::L,e4,e5,h=>by
  obtain ⟨k,rfl⟩:=h d List.mem_cons_self;obtain ⟨e5',t⟩:=turn ns a Di G f k e5;obtain ⟨e4'',e5'',ih⟩:=qL ns a Di G f L (some (.int k)) e5' fun d m=>h d (List.mem_cons_of_mem _ m);exact ⟨e4'',e5'',dt (mC (by show 4<6;decide) rfl) t ih⟩
theorem main(a:Ads)(Di:Dis a)(ns:List Int)(h:ns.length<=63):kZ a [.scr ns]=.ok (.bl true):=by
 obtain ⟨p,G,d,hp,rfl⟩:=qr a ns 5 4 6 (by decide) (by decide) (by decide) (by decide);have hp:bZ a [.scr ns,.int 5,.int 4,.int 6]=.ok p.d:=hp;have nt:=r9 a (by decide) (by decide) G;have c8:av a [.scr ns,.int 8]=.ok (.int (cell ns 8)):=my a ns 8;have m8:=em (cell ns 8) 8 (by decide);refine gG (ρ:=[some (.scr ns),none,none,none,none,none]) rfl ?_;unfold g_law
 refine bK (ρ':=[some (.scr ns),some p.d,none,none,none,none]) (by (repeat' first|(with_reducible first|apply hp)|sizeOf_list_dec)) (bK (ρ':=[some (.scr ns),some p.d,some (aw a p),none,none,none]) (by (repeat' first|(with_reducible first|apply nt)|sizeOf_list_dec)) (bK (ρ':=stL ns a p (cell ns 8 % 8) none none) (by unfold stL;(repeat' first|(with_reducible first|apply c8|apply m8)|sizeOf_list_dec)) ?_))
 obtain ⟨e4,e5,lp⟩:=qL ns a Di G (cell ns 8 % 8) (aI 0 8) none none (by
  intro d m
  unfold aI at m
  obtain ⟨j,_,rfl⟩:=List.mem_map.mp m
  exact ⟨_,rfl⟩)
 refine bK (gj (items:=aI 0 8) (dA (n:=8) rfl (by decide)) lp) ?_;refine iH (d:=.bl true) ?_ (ntb rfl);have e:eJ (aa (f1 (bO a.Net "right") (ad 2)) (aa (f1 (bO a.Net "up") (ad 2)) (aa (f1 (bO a.Net "starts") (ad 2)) (aa (f1 (bO a.Net "ends") (ad 2)) ag)))) (stL ns a p (cell ns 8 % 8) e4 e5)=.ok p.d:=by
  unfold stL Parts.d;(repeat' first|(with_reducible first|apply lR|apply qH|apply dC|apply mH)|sizeOf_list_dec)
 exact qt e rfl (uH p)
end Lw
open PySem PySem.W PyProof.Rows
set_option maxRecDepth 100000 in
set_option maxHeartbeats 0 in
theorem PySem.Challenge.cw_lonewalks_k17_refusals_apart_holds : PySem.Challenge.rw_lonewalks_k17_refusals_apart.Holds := by
 w_on;o_law
 refine holds_open (q:=Lw.vw) (loose:=[]) (Xt:=Lw.khX) (XP:=XL Lw.vw []) (Yf:=Hook.obs (kHook Lw.khK Lw.nu (fun _=>by kernel_rfl))) (Ya:=Hook.val (kHook Lw.khK Lw.nu (fun _=>by kernel_rfl))) (YP:=Hook.says (kHook Lw.khK Lw.nu (fun _=>by kernel_rfl))) (N:=Lw.khN) Lw.left (Hook.of _) (Hook.keeps _) (fun s e=>xl_of s (Bool.and_eq_true_iff.mp e).1) XL.keeps (by rfl) (by rfl) (by rfl) (fun s e=>recFacts_of (Bool.and_eq_true_iff.mp e).2) (by rfl) (by assumption) (by decide +kernel) ⟨rfl,rfl,rfl,rfl,rfl,by decide +kernel⟩ ?hw ?hc
 case hw=>w_witness2
 k_fill;refine Mi.vb (l:=PySem.Challenge.rw_lonewalks_k17_refusals_apart) (n:=63) (k:=8) (x := "script") rfl (by decide) rfl ⟨rfl,by decide,by decide⟩ (fun w h Y=>PySem.W.kIn_of Y) ?F
 case F=>
  intro w mg fa h KX G hmg
  refine' Lw.ud Lw.main KX G hmg ?g_0 ?e_0 ?g_1 ?e_1 ?g_2 ?e_2 ?g_4 ?e_4 ?g_5 ?e_5 ?q_BadCompany ?q_BadNet ?q_BadWalk ?q_NoNumber ?kx_BadCompany_BadCompany ?kx_BadCompany_BadNet ?kx_BadCompany_BadWalk ?kx_BadCompany_NoNumber ?kx_BadCompany_ValueError ?kx_BadCompany_WalkError ?kx_BadNet_BadCompany ?kx_BadNet_BadNet ?kx_BadNet_BadWalk ?kx_BadNet_NoNumber ?kx_BadNet_ValueError ?kx_BadNet_WalkError ?kx_BadWalk_BadCompany ?kx_BadWalk_BadNet ?kx_BadWalk_BadWalk ?kx_BadWalk_NoNumber ?kx_BadWalk_ValueError ?kx_BadWalk_WalkError ?kx_NoNumber_BadCompany ?kx_NoNumber_BadNet ?kx_NoNumber_BadWalk ?kx_NoNumber_NoNumber ?kx_NoNumber_ValueError ?kx_NoNumber_WalkError ?m_BadCompany_WalkError ?m_BadNet_WalkError ?m_BadWalk_WalkError ?m_NoNumber_WalkError ?g_3 ?i_3 ?n_3 ?l_3 ?c_3 ?k_3 ?pg_3 ?hd_3 ?po_3 ?sa_3 ?mk_3 ?kc_3 ?na_Net_columns ?na_Net_ends ?na_Net_right ?na_Net_rows ?na_Net_starts ?na_Net_up ?U_15 ?U_16 ?U_14 ?U_23 ?U_30 ?U_26 ?U_27 ?U_32 ?U_31 ?U_29 ?U_18 ?U_28 ?U_25 ?U_20 ?U_19 ?U_21 ?U_17 ?U_24 ?U_6 ?U_8 ?U_11 ?U_12 ?U_10 ?U_9 ?U_13 ?U_7 ?g_law ?l_law ?c_law ?k_law ?b_ValueError ?b_all ?b_enumerate ?b_isinstance ?b_len ?b_list ?b_min ?b_range ?b_sorted ?b_zip ?v_MOST_SIDE ?v_MOST_WALKERS ?v_MOST_WEIGHT ?nl
  (case g_0=>k_is);(case e_0=>k_exc);(case g_1=>k_is);(case e_1=>k_exc);(case g_2=>k_is);(case e_2=>k_exc);(case g_4=>k_is);(case e_4=>k_exc);(case g_5=>k_is);(case e_5=>k_exc);(case q_BadCompany=>exact Mi.gC (by k_is) (by k_is) (by k_is) (by k_is) (by k_is) (by k_is) (by k_is));(case q_BadNet=>exact Mi.gC (by k_is) (by k_is) (by k_is) (by k_is) (by k_is) (by k_is) (by k_is))
  (case q_BadWalk=>exact Mi.gC (by k_is) (by k_is) (by k_is) (by k_is) (by k_is) (by k_is) (by k_is));(case q_NoNumber=>exact Mi.gC (by k_is) (by k_is) (by k_is) (by k_is) (by k_is) (by k_is) (by k_is));(case kx_BadCompany_BadCompany=>kit_is);(case kx_BadCompany_BadNet=>kit_is);(case kx_BadCompany_BadWalk=>kit_is);(case kx_BadCompany_NoNumber=>kit_is);(case kx_BadCompany_ValueError=>kit_is)
  (case kx_BadCompany_WalkError=>kit_is);(case kx_BadNet_BadCompany=>kit_is);(case kx_BadNet_BadNet=>kit_is);(case kx_BadNet_BadWalk=>kit_is);(case kx_BadNet_NoNumber=>kit_is);(case kx_BadNet_ValueError=>kit_is);(case kx_BadNet_WalkError=>kit_is);(case kx_BadWalk_BadCompany=>kit_is);(case kx_BadWalk_BadNet=>kit_is);(case kx_BadWalk_BadWalk=>kit_is);(case kx_BadWalk_NoNumber=>kit_is)
  (case kx_BadWalk_ValueError=>kit_is);(case kx_BadWalk_WalkError=>kit_is);(case kx_NoNumber_BadCompany=>kit_is);(case kx_NoNumber_BadNet=>kit_is);(case kx_NoNumber_BadWalk=>kit_is);(case kx_NoNumber_NoNumber=>kit_is);(case kx_NoNumber_ValueError=>kit_is);(case kx_NoNumber_WalkError=>kit_is);(case m_BadCompany_WalkError=>kts_exm);(case m_BadNet_WalkError=>kts_exm)
  (case m_BadWalk_WalkError=>kts_exm);(case m_NoNumber_WalkError=>kts_exm);(case g_3=>k_is);(case i_3=>k_is);(case n_3=>k_is);(case l_3=>k_is);(case c_3=>k_is);(case k_3=>k_is);(case pg_3=>k_is);(case hd_3=>k_is);(case po_3=>k_is);(case sa_3=>k_is);(case mk_3=>k_is);(case kc_3=>k_is);(case na_Net_columns=>k_is);(case na_Net_ends=>k_is);(case na_Net_right=>k_is);(case na_Net_rows=>k_is)
  (case na_Net_starts=>k_is);(case na_Net_up=>k_is);(case U_15=>refine' Mi.bv KX G ?_ ?_ ?_ ?_ (fun _ _ _ _ _ _=>Lw.ar1 fun _=>rfl)<;>try k_is);(case U_16=>refine' Mi.bv KX G ?_ ?_ ?_ ?_ (fun _ _ _ _ _ _=>Lw.ar3 fun _ _ _=>rfl)<;>try k_is);(case U_14=>refine' Mi.bv KX G ?_ ?_ ?_ ?_ (fun _ _ _ _ _ _=>Lw.ar2 fun _ _=>rfl)<;>try k_is)
  (case U_23=>refine' Mi.bv KX G ?_ ?_ ?_ ?_ (fun _ _ _ _ _ _=>Lw.ar3 fun _ _ _=>rfl)<;>try k_is);(case U_30=>refine' Mi.bv KX G ?_ ?_ ?_ ?_ (fun _ _ _ _ _ _=>Lw.ar4 fun _ _ _ _=>rfl)<;>try k_is);(case U_26=>refine' Mi.bv KX G ?_ ?_ ?_ ?_ (fun _ _ _ _ _ _=>Lw.ar3 fun _ _ _=>rfl)<;>try k_is);(case U_27=>refine' Mi.bv KX G ?_ ?_ ?_ ?_ (fun _ _ _ _ _ _=>Lw.ar4 fun _ _ _ _=>rfl)<;>try k_is)
  (case U_32=>refine' Mi.bv KX G ?_ ?_ ?_ ?_ (fun _ _ _ _ _ _=>Lw.ar4 fun _ _ _ _=>rfl)<;>try k_is);(case U_31=>refine' Mi.bv KX G ?_ ?_ ?_ ?_ (fun _ _ _ _ _ _=>Lw.ar3 fun _ _ _=>rfl)<;>try k_is);(case U_29=>refine' Mi.bv KX G ?_ ?_ ?_ ?_ (fun _ _ _ _ _ _=>Lw.ar3 fun _ _ _=>rfl)<;>try k_is);(case U_18=>refine' Mi.bv KX G ?_ ?_ ?_ ?_ (fun _ _ _ _ _ _=>Lw.ar2 fun _ _=>rfl)<;>try k_is)
  (case U_28=>refine' Mi.bv KX G ?_ ?_ ?_ ?_ (fun _ _ _ _ _ _=>Lw.ar2 fun _ _=>rfl)<;>try k_is);(case U_25=>refine' Mi.bv KX G ?_ ?_ ?_ ?_ (fun _ _ _ _ _ _=>Lw.ar2 fun _ _=>rfl)<;>try k_is);(case U_20=>refine' Mi.bv KX G ?_ ?_ ?_ ?_ (fun _ _ _ _ _ _=>Lw.ar2 fun _ _=>rfl)<;>try k_is);(case U_19=>refine' Mi.bv KX G ?_ ?_ ?_ ?_ (fun _ _ _ _ _ _=>Lw.ar2 fun _ _=>rfl)<;>try k_is)
  (case U_21=>refine' Mi.bv KX G ?_ ?_ ?_ ?_ (fun _ _ _ _ _ _=>Lw.ar1 fun _=>rfl)<;>try k_is);(case U_17=>refine' Mi.bv KX G ?_ ?_ ?_ ?_ (fun _ _ _ _ _ _=>Lw.ar2 fun _ _=>rfl)<;>try k_is);(case U_24=>refine' Mi.bv KX G ?_ ?_ ?_ ?_ (fun _ _ _ _ _ _=>Lw.ar2 fun _ _=>rfl)<;>try k_is);(case U_6=>refine' Mi.bv KX G ?_ ?_ ?_ ?_ (fun _ _ _ _ _ _=>Lw.ar2 fun _ _=>rfl)<;>try k_is)
  (case U_8=>refine' Mi.bv KX G ?_ ?_ ?_ ?_ (fun _ _ _ _ _ _=>Lw.ar3 fun _ _ _=>rfl)<;>try k_is);(case U_11=>refine' Mi.bv KX G ?_ ?_ ?_ ?_ (fun _ _ _ _ _ _=>Lw.ar3 fun _ _ _=>rfl)<;>try k_is);(case U_12=>refine' Mi.bv KX G ?_ ?_ ?_ ?_ (fun _ _ _ _ _ _=>Lw.ar3 fun _ _ _=>rfl)<;>try k_is);(case U_10=>refine' Mi.bv KX G ?_ ?_ ?_ ?_ (fun _ _ _ _ _ _=>Lw.ar4 fun _ _ _ _=>rfl)<;>try k_is)
  (case U_9=>refine' Mi.bv KX G ?_ ?_ ?_ ?_ (fun _ _ _ _ _ _=>Lw.ar1 fun _=>rfl)<;>try k_is);(case U_13=>refine' Mi.bv KX G ?_ ?_ ?_ ?_ (fun _ _ _ _ _ _=>Lw.ar1 fun _=>rfl)<;>try k_is);(case U_7=>refine' Mi.bv KX G ?_ ?_ ?_ ?_ (fun _ _ _ _ _ _=>Lw.ar2 fun _ _=>rfl)<;>try k_is);(case g_law=>k_is);(case l_law=>k_is);(case c_law=>k_is);(case k_law=>k_is);(case b_ValueError=>k_is);(case b_all=>k_is)
  (case b_enumerate=>k_is);(case b_isinstance=>k_is);(case b_len=>k_is);(case b_list=>k_is);(case b_min=>k_is);(case b_range=>k_is);(case b_sorted=>k_is);(case b_zip=>k_is);(case v_MOST_SIDE=>k_is);(case v_MOST_WALKERS=>k_is);(case v_MOST_WEIGHT=>k_is);(case nl=>(first | rfl | decide | (with_unfolding_all rfl)))
