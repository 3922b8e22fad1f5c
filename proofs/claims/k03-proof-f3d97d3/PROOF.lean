import PyProof.Rows.All
import Wide.All
import OpenK.AllK
import Wide.FinOn
import Lean
import PyProof.EqAt
import PyProof.EqKinds
import PyProof.TupleCall
import PySem.Challenge.RW_lonewalks_k03_all_walks
set_option Elab.async false
set_option linter.all false
set_option maxRecDepth 100000
noncomputable section
namespace L2
open PySem PySem.Spec PyProof.Rows
abbrev Key:=Sum Int Str
def gN:Key->Value->Bool
 | .inl k,v=>Value.isInt k v
 | .inr x,v=>Value.isStrOf x v
def vI(w:World):Key->Int
 | .inl k=>hashInt k
 | .inr x=>hashStr w x
theorem bH:∀ {k:Key} {v:Value},gN k v=true->(∃ i t,k=Sum.inl i/\v=Value.int i t)\/(∃ x t,k=Sum.inr x/\v=Value.str x t)
 | .inl i,v,h=>by
  obtain ⟨t,e⟩:=Value.isInt_shape (k:=i) (v:=v) h;exact .inl ⟨i,t,rfl,e⟩
 | .inr x,v,h=>by
  obtain ⟨t,e⟩:=Value.isStrOf_shape (x:=x) (v:=v) h;exact .inr ⟨x,t,rfl,e⟩
theorem nH(i:Int)(t:Tok):gN (.inl i) (.int i t)=true:=by simp[gN,Value.isInt]
theorem nI(x:Str)(t:Tok):gN (.inr x) (.str x t)=true:=by simp[gN,Value.isStrOf]
theorem su(a b:Int):decide ((Sum.inl a:Key)=Sum.inl b)=(a == b):=by
 by_cases e:a=b
 ·subst e;simp
 ·have h:¬ (Sum.inl a:Key)=Sum.inl b:=fun q=>e (Sum.inl.inj q)
  rw[decide_eq_false h];exact (beq_eq_false_iff_ne.mpr e).symm
theorem sv(a b:Str):decide ((Sum.inr a:Key)=Sum.inr b)=decide (a=b):=by
 by_cases e:a=b
 ·subst e;simp
 ·have h:¬ (Sum.inr a:Key)=Sum.inr b:=fun q=>e (Sum.inr.inj q)
  rw[decide_eq_false h,decide_eq_false e]
theorem sA(a:Int)(b:Str):decide ((Sum.inl a:Key)=Sum.inr b)=false:=decide_eq_false (fun q=>nomatch q)
theorem sC(a:Str)(b:Int):decide ((Sum.inr a:Key)=Sum.inl b)=false:=decide_eq_false (fun q=>nomatch q)
def bB(prog:Program)(w:World):PySem.KeyKind prog w Key where
 is:=gN
 hash:=vI w
 inj:=fun v a b ha hb=>by
  rcases bH ha with ⟨i,t,rfl,rfl⟩ | ⟨x,t,rfl,rfl⟩
  ·rcases bH hb with ⟨j,u,rfl,e⟩ | ⟨y,u,rfl,e⟩
   ·injection e with e1 _;rw[e1]
   ·exact nomatch e
  ·rcases bH hb with ⟨j,u,rfl,e⟩ | ⟨y,u,rfl,e⟩
   ·exact nomatch e
   ·injection e with e1 _;rw[e1]
 byValue:=fun k v h=>by
  rcases bH h with ⟨i,t,rfl,rfl⟩ | ⟨x,t,rfl,rfl⟩ <;> rfl
 pyHash:=fun hv h=>by
  rcases bH hv with ⟨i,t,rfl,rfl⟩ | ⟨x,t,rfl,rfl⟩
  ·exact wpAny_pyHash_int h
  ·exact wpAny_pyHash_str h
 eqBool:=fun hu hv h=>by
  rcases bH hu with ⟨i,t,rfl,rfl⟩ | ⟨x,t,rfl,rfl⟩
  ·rcases bH hv with ⟨j,u,rfl,rfl⟩ | ⟨y,u,rfl,rfl⟩
   ·rw[su] at h;exact wpAny_eqBool_int h
   ·rw[sA] at h;exact SeqAt.EqAt.int_str i t y u _ _ _ _ h
  ·rcases bH hv with ⟨j,u,rfl,rfl⟩ | ⟨y,u,rfl,rfl⟩
   ·rw[sC] at h;exact SeqAt.EqAt.str_int x t j u _ _ _ _ h
   ·rw[sv] at h;exact wpAny_eqBool_str h
 «strs»:=fun k x t v h=>by
  rcases bH h with ⟨i,u,rfl,e⟩ | ⟨y,u,rfl,e⟩
  ·exact nomatch e
  ·injection e with e1 _
   subst e1
   cases v<;>rfl
theorem lR(prog:Program)(w:World)(i:Int)(t:Tok):(bB prog w).is (.inl i) (.int i t)=true:=nH i t
theorem lS(prog:Program)(w:World)(x:Str)(t:Tok):(bB prog w).is (.inr x) (.str x t)=true:=nI x t
inductive V where
 |non | bl (b:Bool) | int (i:Int) | str (x:Str) | byt (b:Array UInt8) | flt (b:UInt64) | ref (a:Addr) | ty (n:String)
 deriving DecidableEq
def RelV:V->Value->Prop
 | .non,u=>u=Value.none
 | .bl b,u=>u=Value.bool b
 | .int i,u=>∃ t,u=Value.int i t
 | .str x,u=>∃ t,u=Value.str x t
 | .byt b,u=>∃ t,u=Value.bytes b t
 | .flt b,u=>∃ t,u=Value.float b t
 | .ref a,u=>u=Value.ref a
 | .ty n,u=>u=Value.type n
abbrev Vals:List V->List Value->Prop:=Paired RelV
theorem Vals.length{xs:List V}{us:List Value}(r:Vals xs us):xs.length=us.length:=Paired.length r
theorem Vals.get:∀ {xs:List V} {us:List Value} {i:Nat} {x:V},Vals xs us->xs[i]?=some x->∃ u,us[i]?=some u/\RelV x u
 |_,_,_,_,.nil,e=>by simp at e
 |_,_,0,_,.cons r _,e=>by simp at e;subst e;exact ⟨_,rfl,r⟩
 |_,_,i+1,x,.cons _ t,e=>by
  obtain ⟨u,h1,h2⟩:=Vals.get (i:=i) (x:=x) t (by simpa using e);exact ⟨u,by simpa using h1,h2⟩
theorem Vals.append:∀ {xs ys:List V} {us ws:List Value},Vals xs us->Vals ys ws->Vals (xs++ys) (us++ws)
 |_,_,_,_,.nil,s=>s
 |_,_,_,_,.cons r t,s=>.cons r (Vals.append t s)
def RelO:Option V->Option Value->Prop
 |some v,some u=>RelV v u
 |none,none=>True
 |_,_=>False
def KV{κ:Type}:List (κ × V)->List (κ × Value)->Prop:=Paired fun (p:κ × V) (q:κ × Value)=>p.1=q.1/\RelV p.2 q.2
def kV:Key->V
 | .inl i=>.int i
 | .inr x=>.str x
inductive HO where
 |lst (xs:List V)
 |tup (xs:List V)
 |dK (kvs:List (Key × V)) | dT (kvs:List (List Key × V))
 |set (S:Int->Bool) (n:Nat)
 |ins (C dx:Addr) (fs:List (Str × V))
 |own (x:Addr)
 |xd (fs:List (Str × V))
 |met (f x:Addr)
 |rng (lo hi:Int)
 |frz (o:Obj) (u:HO)
 |tbl (ps:Array Value)
 |ext (φ:Heap->Prop)
abbrev Hp:=Addr->Option HO
def upd(H:Hp)(a:Addr)(o:HO):Hp:=fun b=>if b=a then some o else H b
theorem bg{H:Hp}{a:Addr}{o:HO}:upd H a o a=some o:=by unfold upd;rw[if_pos rfl]
theorem aH{H:Hp}{a b:Addr}{o:HO}(h:b≠a):upd H a o b=H b:=by unfold upd;rw[if_neg h]
theorem uP{H:Hp}{a b:Addr}{o u:HO}(h:H a=some o)(h':H b=some u)(d:o≠u):a≠b:=by
 intro e;subst e;rw[h] at h';exact d (Option.some.inj h')
theorem aY{H:Hp}{a b:Addr}{o:HO}(h:H a=some o)(h':H b=none):a≠b:=by
 intro e;subst e;rw[h] at h';cases h'
section
variable (P:Program)(w:World)
def ObjOk(H:Hp)(h:Heap)(a:Addr):HO->Prop
 | .lst xs=>xs.length<=sizeLine/\∃ (its:List Value) (n:Nat),Vals xs its/\h.get? a=some { cls:=.type "list", data:=.seq its.toArray n }
 | .tup xs=>xs.length<=sizeLine/\∃ its:List Value,Vals xs its/\IsTup h a its.toArray
 | .dK kvs=>kvs.length<=sizeLine/\(a == sysModules)=false/\∃ vs,KV kvs vs/\h.DictOf (bB P w) a vs
 | .dT kvs=>kvs.length<=sizeLine/\(a == sysModules)=false/\∃ xs:List (List Key × Addr × Value),
     Paired (fun (p:List Key × V) (q:List Key × Addr × Value)=>p.1=q.1/\H q.2.1=some (.tup (p.1.map kV))/\RelV p.2 q.2.2) kvs xs ∧
     ∃ o es ep,h.get? a=some o/\o.ExactDict/\o.data=.dict es ep/\es.toList=xs.map (entryOfKey (tupleKind (bB P w)))/\(xs.map (·.1)).Nodup
 | .set S n=>h.SetOf (intKind P w) a S n
 | .ins C dx fs=>H dx=some (.own a)/\fs.length<=1000/\dx≠a/\h.get? a=some (PySem.W.instObj C dx) ∧
     ∃ mA,h.Ns1 dx mA/\(∀ f,RelO (fs.lookup f) (mA f))/\PySem.Within mA (fs.map (·.1))
 | .own _=>∃ o,h.get? a=some o
 | .xd fs=>∃ mA,h.Ns1 a mA/\∀ f,RelO (fs.lookup f) (mA f)
 | .rng lo hi=>∃ t u v,h.get? a=some { cls:=.type "range", data:=.fields #[.int lo t,.int hi u,.int 1 v] }
 | .frz o u=>h.get? a=some o/\ObjOk H h a u
 | .tbl ps=>h.get? a=some { cls:=.none,data:=.fields ps }
 | .met f x=>h.get? a=some (PySem.W.methodObj (.ref f) (.ref x))
 | .ext φ=>φ h/\(∃ o,h.get? a=some o)/\∀ h1 h2:Heap,φ h1->(∀ o,h1.get? a=some o->h2.get? a=some o)->φ h2
def HOk(H:Hp)(h:Heap):Prop:=∀ a o,H a=some o->ObjOk P w H h a o
end
section
variable {P:Program}{w:World}{H H':Hp}{h h':Heap}{a:Addr}{o:HO}
theorem ObjOk.lt(x:ObjOk P w H h a o):a<h.objs.size:=by
 cases o with
 |lst xs=>obtain ⟨_,_,_,_,e⟩:=x;exact Heap.lt_size e
 |tup xs=>obtain ⟨_,_,_,p⟩:=x;exact p.lt
 |dK kvs=>obtain ⟨_,_,_,_,o,_,_,e,_⟩:=x;exact Heap.lt_size e
 |dT kvs=>obtain ⟨_,_,_,_,o,_,_,e,_⟩:=x;exact Heap.lt_size e
 |set S n=>obtain ⟨o,_,_,_,e,_⟩:=x;exact Heap.lt_size e
 |ins C dx fs=>obtain ⟨_,_,_,e,_⟩:=x;exact Heap.lt_size e
 |own y=>obtain ⟨_,e⟩:=x;exact Heap.lt_size e
 |xd fs=>obtain ⟨_,⟨_,_,_,e,_⟩,_⟩:=x;exact Heap.lt_size e
 |rng lo hi=>obtain ⟨_,_,_,e⟩:=x;exact Heap.lt_size e
 |frz ob u=>obtain ⟨e,_⟩:=x;exact Heap.lt_size e
 |tbl ps=>exact Heap.lt_size (show h.get? a=some _ from x)
 |met f y=>exact Heap.lt_size (show h.get? a=some _ from x)
 |ext φ=>obtain ⟨_,⟨_,e⟩,_⟩:=x;exact Heap.lt_size e
theorem Paired.mapP{α β:Type}{F G:α->β->Prop}:∀ {l₁:List α} {l₂:List β},Paired F l₁ l₂->(∀ a b,F a b->G a b)->Paired G l₁ l₂
 |_,_,.nil,_=>.nil
 |_,_,.cons r t,f=>.cons (f _ _ r) (Paired.mapP t f)
theorem ObjOk.stay(x:ObjOk P w H h a o)(k:∀ b u,(b=a\/H b=some (.own a))->h.get? b=some u->h'.get? b=some u)
    (ho:∀ b,H b=some (.own a)->H' b=some (.own a)) (ht:∀ b xs,H b=some (.tup xs)->H' b=some (.tup xs)):ObjOk P w H' h' a o:=by
 induction o with
 |lst xs=>obtain ⟨z,its,n,r,e⟩:=x;exact ⟨z,its,n,r,k _ _ (.inl rfl) e⟩
 |tup xs=>obtain ⟨z,its,r,ob,e,c⟩:=x;exact ⟨z,its,r,ob,k _ _ (.inl rfl) e,c⟩
 |dK kvs=>obtain ⟨z,y,vs,r,ob,es,ep,e,c⟩:=x;exact ⟨z,y,vs,r,ob,es,ep,k _ _ (.inl rfl) e,c⟩
 |dT kvs=>
  obtain ⟨z,y,xs,r,ob,es,ep,e,c⟩:=x;exact ⟨z,y,xs,Paired.mapP r fun p q z=>⟨z.1,ht _ _ z.2.1,z.2.2⟩,ob,es,ep,k _ _ (.inl rfl) e,c⟩
 |set S n=>obtain ⟨ob,es,ep,t,e,c⟩:=x;exact ⟨ob,es,ep,t,k _ _ (.inl rfl) e,c⟩
 |ins C dx fs=>
  obtain ⟨d,z,ne,e,mA,⟨od,es,ep,e2,c⟩,r⟩:=x;exact ⟨ho _ d,z,ne,k _ _ (.inl rfl) e,mA,⟨od,es,ep,k _ _ (.inr d) e2,c⟩,r⟩
 |own y=>obtain ⟨ob,e⟩:=x;exact ⟨ob,k _ _ (.inl rfl) e⟩
 |xd fs=>obtain ⟨mA,⟨od,es,ep,e,c⟩,r⟩:=x;exact ⟨mA,⟨od,es,ep,k _ _ (.inl rfl) e,c⟩,r⟩
 |rng lo hi=>obtain ⟨t,u,v,e⟩:=x;exact ⟨t,u,v,k _ _ (.inl rfl) e⟩
 |frz ob u ih=>obtain ⟨e,q⟩:=x;exact ⟨k _ _ (.inl rfl) e,ih q⟩
 |tbl ps=>
  have e:h.get? a=some { cls:=.none,data:=.fields ps }:=x;show h'.get? a=some { cls:=.none,data:=.fields ps };exact k a _ (.inl rfl) e
 |met f y=>
  have e:h.get? a=some (PySem.W.methodObj (.ref f) (.ref y)):=x;show h'.get? a=some (PySem.W.methodObj (.ref f) (.ref y));exact k a _ (.inl rfl) e
 |ext φ=>obtain ⟨p,⟨o,e⟩,st⟩:=x;exact ⟨st _ _ p fun o q=>k _ _ (.inl rfl) q,⟨o,k _ _ (.inl rfl) e⟩,st⟩
theorem HOk.lt(x:HOk P w H h)(e:H a=some o):a<h.objs.size:=(x a o e).lt
theorem HOk.fresh(x:HOk P w H h)(e:h.objs.size<=a):H a=none:=by
 cases q:H a with
 |none=>rfl
 |some u=>exact absurd (Nat.lt_of_lt_of_le (x.lt q) e) (Nat.lt_irrefl _)
theorem HOk.kept(x:HOk P w H h)(k:∀ b u,h.get? b=some u->h'.get? b=some u):HOk P w H h':=fun a o e=>
 (x a o e).stay (fun b u _ q=>k b u q) (fun _ q=>q) fun _ _ q=>q
theorem HOk.laid(x:HOk P w H h)(k:∀ b u,h.get? b=some u->h'.get? b=some u)(hp:h.objs.size<=a)(new:ObjOk P w (upd H a o) h' a o):HOk P w (upd H a o) h':=fun b u e=>by
 have hn:=x.fresh hp;by_cases hb:b=a
 ·subst hb;rw[bg] at e;cases e;exact new
 ·rw[aH hb] at e
  exact (x b u e).stay (fun c v _ q=>k c v q) (fun c q=>by rw[aH (aY q hn)];exact q) fun c xs q=>by rw[aH (aY q hn)];exact q
end
def Rd(H:Hp)(a:Addr)(u:HO):Prop:=H a=some u\/∃ o,H a=some (.frz o u)
theorem Rd.ok{P:Program}{w:World}{H:Hp}{h:Heap}{a:Addr}{u:HO}(r:Rd H a u)(x:HOk P w H h):ObjOk P w H h a u:=by
 rcases r with r | ⟨o,r⟩
 ·exact x a u r
 ·obtain ⟨_,q⟩:=x a _ r
  exact q
def Mut:Option HO->Prop
 |some (.lst _)=>True
 |some (.dK _)=>True
 |some (.dT _)=>True
 |some (.set _ _)=>True
 |some (.ins _ _ _)=>True
 |some (.ext _)=>True
 |_=>False
section
variable {P:Program}{w:World}{H:Hp}{h h':Heap}{x e:Addr}{o':HO}
theorem HOk.write(ok:HOk P w H h)(mu:Mut (H x))(he:e=x\/H e=some (.own x))(k:∀ b u,b≠e->h.get? b=some u->h'.get? b=some u)(heo:∃ u,h'.get? e=some u)
    (new:ObjOk P w (upd H x o') h' x o'):HOk P w (upd H x o') h':=fun b u q=>by
 have nown:∀ c y,H c=some (.own y)->c≠x:=fun c y r z=>by subst z;rw[r] at mu;exact mu
 have ntup:∀ c xs,H c=some (.tup xs)->c≠x:=fun c xs r z=>by subst z;rw[r] at mu;exact mu
 by_cases hb:b=x
 ·subst hb;rw[bg] at q;cases q;exact new
 ·rw[aH hb] at q
  by_cases hbe:b=e
  ·have q':H b=some (.own x):=by
      rcases he with z | z
      ·exact absurd (hbe.trans z) hb
      ·rw[hbe];exact z
   rw[q] at q';cases q';obtain ⟨v,hv⟩:=heo;exact ⟨v,by rw[hbe];exact hv⟩
  ·refine (ok b u q).stay (fun c v hc r=>k c v ?_ r) (fun c r=>by rw[aH (nown c b r)];exact r) fun c xs r=>by rw[aH (ntup c xs r)];exact r
   rcases hc with rfl | hc
   ·exact hbe
   ·rintro rfl
    rcases he with z | z
    ·exact nown c b hc z
    ·rw[hc] at z;cases z;exact hb rfl
end
structure Un (fs ex:List Addr) (H H':Hp) (h h':Heap):Prop where
 keep:∀ b o,h.get? b=some o->H b=none->b∉fs->b∉ex->h'.get? b=some o
 slot:∀ b o,h.get? b=some o->H b=none->b∈fs->b∉ex->∃ sl,h'.get? b=some { o with slots:=sl }
 free:∀ b o,h.get? b=some o->H b=none->b∉ex->H' b=none
 there:∀ b o,h.get? b=some o->b∉ex->∃ o',h'.get? b=some o'
 tups:∀ b xs,H b=some (.tup xs)->H' b=some (.tup xs)
 frzs:∀ b o u,H b=some (.frz o u)->H' b=some (.frz o u)
 tbls:∀ b ps,H b=some (.tbl ps)->∃ more,H' b=some (.tbl (ps++more))
section
variable {fs fs' ex ex':List Addr}{H H1 H2:Hp}{h h1 h2 h':Heap}{a x e:Addr}{o:HO}
theorem Un.any(u:Un fs ex H H1 h h1){b:Addr}{ob:Obj}(q:h.get? b=some ob)(n:H b=none)(hx:b∉ex):∃ sl,h1.get? b=some { ob with slots:=sl }:=by
 by_cases hb:b∈fs
 ·exact u.slot b ob q n hb hx
 ·exact ⟨ob.slots,u.keep b ob q n hb hx⟩
theorem Un.trans(a:Un fs ex H H1 h h1)(b:Un fs ex H1 H2 h1 h2):Un fs ex H H2 h h2 where
 keep:=fun c ob q n hc hx=>b.keep c ob (a.keep c ob q n hc hx) (a.free c ob q n hx) hc hx
 slot:=fun c ob q n hc hx=>by
  obtain ⟨sl,e1⟩:=a.slot c ob q n hc hx;obtain ⟨sl',e2⟩:=b.slot c _ e1 (a.free c ob q n hx) hc hx;exact ⟨sl',e2⟩
 free:=fun c ob q n hx=>by
  obtain ⟨o',e1⟩:=a.there c ob q hx;exact b.free c o' e1 (a.free c ob q n hx) hx
 there:=fun c ob q hx=>by
  obtain ⟨o',e1⟩:=a.there c ob q hx;exact b.there c o' e1 hx
 tups:=fun c xs q=>b.tups c xs (a.tups c xs q);frzs:=fun c ob xs q=>b.frzs c ob xs (a.frzs c ob xs q);tbls:=fun c ps q=>by
  obtain ⟨m1,e1⟩:=a.tbls c ps q;obtain ⟨m2,e2⟩:=b.tbls c _ e1;exact ⟨m1++m2,by rw[e2,Array.append_assoc]⟩
theorem Un.kept(k:∀ b u,h.get? b=some u->h'.get? b=some u):Un fs ex H H h h':=
 ⟨fun b ob q _ _ _=>k b ob q,fun b ob q _ _ _=>⟨ob.slots,k b ob q⟩,fun _ _ _ n _=>n,fun b ob q _=>⟨ob,k b ob q⟩,fun _ _ q=>q,fun _ _ _ q=>q,fun _ ps q=>⟨#[],by rw[q];simp⟩⟩
theorem Un.refl:Un fs ex H H h h:=Un.kept fun _ _ q=>q
theorem Un.laid(k:∀ b u,h.get? b=some u->h'.get? b=some u)(hp:h.objs.size<=a)(hn:H a=none):Un fs ex H (upd H a o) h h' where
 keep:=fun b u q _ _ _=>k b u q
 slot:=fun b u q _ _ _=>⟨u.slots,k b u q⟩
 free:=fun b u q n _=>by rw[aH (Nat.ne_of_lt (Nat.lt_of_lt_of_le (Heap.lt_size q) hp))];exact n
 there:=fun b u q _=>⟨u,k b u q⟩
 tups:=fun b xs q=>by rw[aH (aY q hn)];exact q
 frzs:=fun b u xs q=>by rw[aH (aY q hn)];exact q
 tbls:=fun b ps q=>⟨#[],by rw[aH (aY q hn),q];simp⟩
theorem Un.write(mu:Mut (H x))(he:e=x\/H e=some (.own x))(k:∀ b u,b≠e->h.get? b=some u->h'.get? b=some u)(heo:∃ u,h'.get? e=some u):Un fs ex H (upd H x o) h h':=by
 have hx:∀ b,H b=none->b≠x:=fun b n z=>by subst z;rw[n] at mu;exact mu
 have hb:∀ b,H b=none->b≠e:=fun b n z=>by
  subst z;rcases he with r | r
  ·exact hx b n r
  ·rw[n] at r;cases r
 have hm:∀ b u,H b=some u->¬ Mut (some u)->b≠x:=fun b u q nm z=>by subst z;rw[q] at mu;exact nm mu
 refine ⟨fun b u q n _ _=>k b u (hb b n) q,fun b u q n _ _=>⟨u.slots,k b u (hb b n) q⟩,fun b u q n _=>by rw[aH (hx b n)];exact n,fun b u q _=>?_,
  fun b xs q=>by rw[aH (hm b _ q fun z=>z)];exact q,fun b u xs q=>by rw[aH (hm b _ q fun z=>z)];exact q,fun b ps q=>⟨#[],by rw[aH (hm b _ q fun z=>z),q];simp⟩⟩
 by_cases hbe:b=e
 ·subst hbe;exact heo
 ·exact ⟨u,k b u hbe q⟩
end
def trk(h:Heap)(H:Hp):List Addr:=(List.range h.objs.size).filter fun a=>(H a).isSome
def fN(h:Heap)(H:Hp):Heap:=PySem.W.hideAll h (trk h H)
theorem nJ(h:Heap)(H:Hp):(fN h H).objs.size=h.objs.size:=PySem.W.hideAll_size _ _
theorem pv{h:Heap}{H:Hp}{b:Addr}{o:Obj}(e:h.get? b=some o)(n:H b=none):(fN h H).get? b=some o:=
 PySem.W.hideAll_get _ e fun hm=>by
  have q:(H b).isSome=true:=(List.mem_filter.mp hm).2;rw[n] at q;simp at q
theorem qL{h:Heap}{H:Hp}{b:Addr}{o:Obj}(e:(fN h H).get? b=some o):h.get? b=some o/\H b=none:=by
 have e':h.get? b=some o:=PySem.W.of_hideAll (trk h H) e;refine ⟨e',?_⟩
 cases q:H b with
 |none=>rfl
 |some x=>
  have hm:b∈trk h H:=List.mem_filter.mpr ⟨List.mem_range.mpr (Heap.lt_size e'),by simp[q]⟩;have z:(fN h H).get? b=none:=PySem.W.hideAll_none (trk h H) hm;rw[z] at e;cases e
def qM(g h:Heap)(L:Addr):List (Addr × Obj):=(List.range h.objs.size).filterMap fun a=>if a=L\/(g.get? a).isSome=true then none else (h.get? a).map fun o=>(a,o)
def rest(g h:Heap)(L d:Addr):List (Addr × Obj):=(qM g h L).filter fun p=>decide (p.1≠d)
structure Mod (K:PySem.W.Frag) (mg:Str->Option Value) (base:Heap):Prop where
 kin:K.In base
 glob:base.Ns mainGlobals mg
 blt:∃ mb,base.Ns builtinsNs mb/\∀ x:Str,x ≠ "__name__" -> mb x=bootBuiltins x
 nolimit:base.NoLimit
structure Cx where
 prog:Program
 w:World
 K:PySem.W.Frag
 mg:Str->Option Value
 base:Heap
 A:Around
 N:List Str
 s₀:Shared
 H₀:Hp
 env:Env
 outer:List Env
 stack:List Env
 ex:List Addr
 fn:Str->Bool
 calm:Bool
 pn:List (Addr × Obj)
 xe:Value->Shared->Prop
def frs(l:List Env):List Addr:=l.filterMap (·.frame)
abbrev Cx.fs(X:Cx):List Addr:=frs X.outer
def Vis(sc:Scope)(x:Str):Prop:=sc.names.lookup x=some .local\/sc.names.lookup x=some .cell\/sc.names.lookup x=some .free
def Loc(sc:Scope)(x:Str):Prop:=sc.names.lookup x=some .local\/sc.names.lookup x=some .cell
def vJ(env:Env)(h:Heap)(m:Str->Option Value)(x:Str)(u:Value):Prop:=
 (env.kindOf x=some .local/\m x=some u)\/((env.kindOf x=some .cell\/env.kindOf x=some .free)/\∃ c,env.cells.lookup x=some c/\h.IsCell c (some u))
structure Cx.Ok (X:Cx):Prop where
 mod:Mod X.K X.mg X.base
 kind:X.env.scope.kind=.function
 glob:X.env.globals=mainGlobals
 blt:X.env.builtins=builtinsNs
 above:X.s₀.heap.objs.size<=X.env.locals
 inj:∀ x y c,X.env.cells.lookup x=some c->X.env.cells.lookup y=some c->x=y
 has:∀ x,(X.env.kindOf x=some .cell\/X.env.kindOf x=some .free)->∃ c,X.env.cells.lookup x=some c
 cab:∀ x c,X.fn x=true->X.env.cells.lookup x=some c->X.s₀.heap.objs.size<=c
 hd:X.calm=true->X.A.handled=none
 frames:X.A.frames=some X.stack
 stk:X.stack=X.outer\/(X.stack=X.env::X.outer/\X.env.frame=some X.env.locals)
 exf:∀ b∈X.ex,b≠X.env.locals/\∀ x c,X.env.cells.lookup x=some c->c≠b
 bs:∀ b o,X.base.get? b=some o->X.s₀.heap.get? b=some o/\X.H₀ b=none
 bsz:X.base.objs.size<=X.s₀.heap.objs.size
 noex:∀ b o,X.base.get? b=some o->b∉X.ex
 exfs:∀ b∈X.ex,b∉X.fs
 funs:X.s₀.heap.FunFrames X.base X.outer
 frf:∀ b∈X.fs,X.H₀ b=none
structure Inv (X:Cx) (pins:List (Addr × Obj)) (σ:List (Option V)) (H:Hp) (s:Shared):Prop where
 ok:X.Ok
 os:s.os=X.s₀.os
 bare:AllBare s.gens
 base:Un X.fs X.ex X.H₀ H X.s₀.heap s.heap
 loc:∃ m,s.heap.Ns X.env.locals m/\∀ (i:Nat) (x:Str) (v:V),X.N[i]?=some x->σ[i]?=some (some v)->Vis X.env.scope x->∃ u,RelV v u/\vJ X.env s.heap m x u
 cell:∀ x c,X.env.cells.lookup x=some c->∃ v,s.heap.IsCell c v
 free:H X.env.locals=none
 freeC:∀ x c,X.env.cells.lookup x=some c->H c=none
 pin:∀ p∈X.pn++pins,s.heap.get? p.1=some p.2/\H p.1=none/\p.1≠X.env.locals/\p.1∉X.fs/\∀ v,p.2.data≠.cell v
 hok:HOk X.prog X.w H s.heap
 len:σ.length=X.N.length
section
variable {X:Cx}{pins:List (Addr × Obj)}{σ:List (Option V)}{H H':Hp}{s:Shared}{h':Heap}
theorem Cx.Ok.nofr(ok:X.Ok){b:Addr}{o:Obj}(e:X.base.get? b=some o):b∉X.fs:=fun hb=>by
 have:=(ok.funs.mem hb).1;rw[e] at this;cases this
theorem Inv.bs(I:Inv X pins σ H s):∀ b o,X.base.get? b=some o->s.heap.get? b=some o/\H b=none:=fun b o e=>
 ⟨I.base.keep b o (I.ok.bs b o e).1 (I.ok.bs b o e).2 (I.ok.nofr e) (I.ok.noex b o e),I.base.free b o (I.ok.bs b o e).1 (I.ok.bs b o e).2 (I.ok.noex b o e)⟩
theorem Inv.bk(I:Inv X pins σ H s):∀ b o,X.base.get? b=some o->s.heap.get? b=some o:=fun b o e=>(I.bs b o e).1
theorem Inv.mod(I:Inv X pins σ H s):Mod X.K X.mg X.base:=I.ok.mod
theorem Inv.kIn(I:Inv X pins σ H s):X.K.In s.heap:=I.ok.mod.kin.keeps I.bk
theorem Inv.lt(I:Inv X pins σ H s):X.env.locals<s.heap.objs.size:=let ⟨_,hn,_⟩:=I.loc;hn.lt
theorem Inv.sz(I:Inv X pins σ H s):X.s₀.heap.objs.size<=s.heap.objs.size:=Nat.le_trans I.ok.above (Nat.le_of_lt I.lt)
theorem Inv.nofs(I:Inv X pins σ H s){a:Addr}(h:s.heap.objs.size<=a):a∉X.fs:=fun hb=>by
 obtain ⟨_,o,ho,_⟩:=I.ok.funs.mem hb;exact absurd (Nat.lt_of_lt_of_le (Heap.lt_size ho) (Nat.le_trans I.sz h)) (Nat.lt_irrefl _)
theorem Inv.cne(I:Inv X pins σ H s):∀ x c,X.env.cells.lookup x=some c->c≠X.env.locals:=fun x c e z=>by
 obtain ⟨v,o,ho,hd⟩:=I.cell x c e;obtain ⟨m,⟨o',es,ep,ho',hd',_⟩,_⟩:=I.loc;rw[z,ho'] at ho;cases ho;rw[hd'] at hd;cases hd
theorem Inv.funs(I:Inv X pins σ H s):s.heap.FunFrames X.base X.outer:=by
 have all:∀ (l:List Env),(∀ b∈frs l,b∈X.fs)->X.s₀.heap.FunFrames X.base l->s.heap.FunFrames X.base l:=by
  intro l;induction l with
  |nil=>intro _ _;trivial
  |cons env r ih=>
   intro hs hl;obtain ⟨hk,⟨L,o,hf,hn,ho,hd⟩,hr⟩:=hl;have hL:L∈X.fs:=hs L (by unfold frs;rw[List.filterMap_cons,hf];exact List.mem_cons_self);obtain ⟨sl,e⟩:=I.base.slot L o ho (I.ok.frf L hL) hL fun z=>I.ok.exfs L z hL;exact ⟨hk,⟨L,_,hf,hn,e,hd⟩,ih (fun b hb=>hs b (by unfold frs;rw[List.filterMap_cons,hf];exact List.mem_cons_of_mem _ hb)) hr⟩
 exact all X.outer (fun _ hb=>hb) I.ok.funs
theorem Inv.stack(I:Inv X pins σ H s):s.heap.FunFrames X.base X.stack:=by
 rcases I.ok.stk with e | ⟨e,hf⟩
 ·rw[e];exact I.funs
 ·rw[e]
  obtain ⟨m,hn,_⟩:=I.loc;refine .cons (by rw[I.ok.kind];decide) hf hn ?_ I.funs;exact Heap.get?_none_of_le (Nat.le_trans I.ok.bsz I.ok.above)
theorem Inv.stkSub(I:Inv X pins σ H s):∀ b∈frs X.stack,b∈X.env.locals::X.fs:=fun b hb=>by
 rcases I.ok.stk with e | ⟨e,hf⟩
 ·rw[e] at hb;exact List.mem_cons_of_mem _ hb
 ·rw[e] at hb
  unfold frs at hb;rw[List.filterMap_cons,hf] at hb;exact hb
theorem Inv.stkFree(I:Inv X pins σ H s):∀ b∈frs X.stack,H b=none:=fun b hb=>by
 rcases List.mem_cons.mp (I.stkSub b hb) with e | hb
 ·rw[e];exact I.free
 ·obtain ⟨_,o,ho,_⟩:=I.ok.funs.mem hb
  exact I.base.free b o ho (I.ok.frf b hb) fun z=>I.ok.exfs b z hb
theorem Inv.step{g':Array GenState}{t':Nat}{d':Drawn}{ch:List Addr}(I:Inv X pins σ H s)
    (hch:∀ b∈ch,(b∈X.ex\/X.s₀.heap.objs.size<=b)/\b≠X.env.locals/\(∀ x c,X.env.cells.lookup x=some c->c≠b)/\∀ p∈X.pn++pins,p.1≠b)
    (keep:∀ b o,b≠X.env.locals->b∉X.fs->b∉ch->s.heap.get? b=some o->H b=none->h'.get? b=some o)
    (slot:∀ b o,b≠X.env.locals->b∈X.fs->b∉ch->s.heap.get? b=some o->H b=none->∃ sl,h'.get? b=some { o with slots:=sl }) (free:∀ b o,b∉ch->s.heap.get? b=some o->H b=none->H' b=none)
    (there:∀ b o,b∉ch->s.heap.get? b=some o->∃ o',h'.get? b=some o')
    (tups:∀ b xs,H b=some (.tup xs)->H' b=some (.tup xs)) (frzs:∀ b o u,H b=some (.frz o u)->H' b=some (.frz o u)) (tbls:∀ b ps,H b=some (.tbl ps)->∃ more,H' b=some (.tbl (ps++more)))
    (ns:∀ m,s.heap.Ns X.env.locals m->h'.Ns X.env.locals m) (hok:HOk X.prog X.w H' h') (hg:AllBare g') :
    Inv X pins σ H' { s with heap:=h',gens:=g',drawn:=d',toks:=t' }:=by
 have neL:∀ b o,X.s₀.heap.get? b=some o->b≠X.env.locals:=fun b o e=>Nat.ne_of_lt (Nat.lt_of_lt_of_le (Heap.lt_size e) I.ok.above);have neC:∀ b o,X.s₀.heap.get? b=some o->b∉X.ex->b∉ch:=fun b o e hx hb=>by
  rcases (hch b hb).1 with z | z
  ·exact hx z
  ·exact absurd (Nat.lt_of_lt_of_le (Heap.lt_size e) z) (Nat.lt_irrefl _)
 have cellK:∀ x c,X.env.cells.lookup x=some c->∀ v,s.heap.IsCell c v->h'.IsCell c v:=fun x c e v ⟨o,ho,hd⟩=>by
  have nch:c∉ch:=fun z=>(hch c z).2.2.1 x c e rfl;by_cases hc:c∈X.fs
  ·obtain ⟨sl,q⟩:=slot c o (I.cne x c e) hc nch ho (I.freeC x c e)
   exact ⟨_,q,hd⟩
  ·exact ⟨o,keep c o (I.cne x c e) hc nch ho (I.freeC x c e),hd⟩
 refine ⟨I.ok,I.os,hg,⟨fun b o e n hb hx=>?_,fun b o e n hb hx=>?_,fun b o e n hx=>?_,fun b o e hx=>?_,fun b xs e=>tups b xs (I.base.tups b xs e),fun b o xs e=>frzs b o xs (I.base.frzs b o xs e),fun b ps e=>?_⟩,?_,fun x c e=>?_,?_,fun x c e=>?_,fun p hp=>?_,hok,I.len⟩
 ·exact keep b o (neL b o e) hb (neC b o e hx) (I.base.keep b o e n hb hx) (I.base.free b o e n hx)
 ·obtain ⟨sl,e1⟩:=I.base.slot b o e n hb hx
  obtain ⟨sl',e2⟩:=slot b _ (neL b o e) hb (neC b o e hx) e1 (I.base.free b o e n hx);exact ⟨sl',e2⟩
 ·obtain ⟨o',e1⟩:=I.base.there b o e hx
  exact free b o' (neC b o e hx) e1 (I.base.free b o e n hx)
 ·obtain ⟨o',e1⟩:=I.base.there b o e hx
  exact there b o' (neC b o e hx) e1
 ·obtain ⟨m1,e1⟩:=I.base.tbls b ps e
  obtain ⟨m2,e2⟩:=tbls b _ e1;exact ⟨m1++m2,by rw[e2,Array.append_assoc]⟩
 ·obtain ⟨m,hn,hl⟩:=I.loc
  refine ⟨m,ns m hn,fun i x v e1 e2 e3=>?_⟩;obtain ⟨u,r,l⟩:=hl i x v e1 e2 e3;refine ⟨u,r,?_⟩;rcases l with l | ⟨k,c,e,z⟩
  ·exact .inl l
  ·exact .inr ⟨k,c,e,cellK x c e _ z⟩
 ·obtain ⟨v,z⟩:=I.cell x c e
  exact ⟨v,cellK x c e v z⟩
 ·obtain ⟨m,⟨o,_,_,ho,_⟩,_⟩:=I.loc
  exact free _ o (fun z=>(hch _ z).2.1 rfl) ho I.free
 ·obtain ⟨v,o,ho,hd⟩:=I.cell x c e
  exact free c o (fun z=>(hch c z).2.2.1 x c e rfl) ho (I.freeC x c e)
 ·obtain ⟨e,n,ne,nf,d⟩:=I.pin p hp
  have nch:p.1∉ch:=fun z=>(hch p.1 z).2.2.2 p hp rfl;exact ⟨keep p.1 p.2 ne nf nch e n,free p.1 p.2 nch e n,ne,nf,d⟩
theorem Inv.un{t':Nat}(I:Inv X pins σ H s)(u:Un X.fs [] H H' s.heap h')(hok:HOk X.prog X.w H' h'):Inv X pins σ H' { s with heap:=h',toks:=t' }:=by
 obtain ⟨m,⟨o,es,ep,ho,r⟩,_⟩:=id I.loc;obtain ⟨sl,hL⟩:=u.any ho I.free (by simp);exact I.step (g':=s.gens) (d':=s.drawn) (ch:=[]) (fun _ z=>nomatch z) (fun b o _ hb _ e n=>u.keep b o e n hb (by simp)) (fun b o _ hb _ e n=>u.slot b o e n hb (by simp)) (fun b o _ e n=>u.free b o e n (by simp)) (fun b o _ e=>u.there b o e (by simp)) u.tups u.frzs u.tbls (fun m' hm=>by
  obtain ⟨o',es',ep',ho',r'⟩:=hm
  rw[ho] at ho';cases ho'
  exact ⟨_,es',ep',hL,r'⟩) hok I.bare
theorem Inv.call{g':Array GenState}{t':Nat}{d':Drawn}{ch:List Addr}(I:Inv X pins σ H s)(u:Un (frs X.stack) ch H H' s.heap h')(hok:HOk X.prog X.w H' h')(hg:AllBare g')
    (hch:∀ b∈ch,(b∈X.ex\/X.s₀.heap.objs.size<=b)/\b≠X.env.locals/\(∀ x c,X.env.cells.lookup x=some c->c≠b)/\∀ p∈X.pn++pins,p.1≠b) :
    Inv X pins σ H' { s with heap:=h',gens:=g',drawn:=d',toks:=t' }:=by
 obtain ⟨m,⟨o,es,ep,ho,r⟩,_⟩:=id I.loc;obtain ⟨sl,hL⟩:=u.any ho I.free fun z=>(hch _ z).2.1 rfl;exact I.step (ch:=ch) hch (fun b o hL hb hc e n=>u.keep b o e n (fun z=>(List.mem_cons.mp (I.stkSub b z)).elim hL hb) hc) (fun b o _ _ hc e n=>u.any e n hc) (fun b o hc e n=>u.free b o e n hc) (fun b o hc e=>u.there b o e hc) u.tups u.frzs u.tbls (fun m' hm=>by
  obtain ⟨o',es',ep',ho',r'⟩:=hm
  rw[ho] at ho';cases ho'
  exact ⟨_,es',ep',hL,r'⟩) hok hg
theorem Inv.turned{t':Nat}{it:Addr}(I:Inv X pins σ H s)(k:∀ b o,b≠it->s.heap.get? b=some o->h'.get? b=some o)(hn:H it=none)(hL:it≠X.env.locals)
    (h1:it∈X.ex\/X.s₀.heap.objs.size<=it) (h2:∀ x c,X.env.cells.lookup x=some c->c≠it) (h3:∀ p∈X.pn++pins,p.1≠it):Inv X pins σ H { s with heap:=h',toks:=t' }:=by
 have nit:∀ b u,H b=some u->b≠it:=fun b u e z=>by rw[z,hn] at e;cases e
 refine I.step (g':=s.gens) (d':=s.drawn) (ch:=[it]) (fun b hb=>?_) (fun b o _ _ hc e _=>k b o (fun z=>hc (by simp[z])) e) (fun b o _ _ hc e _=>⟨o.slots,k b o (fun z=>hc (by simp[z])) e⟩) (fun _ _ _ _ n=>n)
  (fun b o hc e=>⟨o,k b o (fun z=>hc (by simp[z])) e⟩) (fun _ _ e=>e) (fun _ _ _ e=>e) (fun b ps e=>⟨#[],by rw[e];simp⟩) (fun m hm=>?_) (fun b u e=>?_) I.bare
 ·have e:b=it:=by simpa using hb
  subst e;exact ⟨h1,hL,h2,h3⟩
 ·obtain ⟨o,es,ep,ho,r⟩:=hm
  exact ⟨o,es,ep,k _ o (Ne.symm hL) ho,r⟩
 ·refine (I.hok b u e).stay (fun c v hc q=>k c v ?_ q) (fun _ q=>q) fun _ _ q=>q
  rcases hc with z | z
  ·rw[z];exact nit b u e
  ·exact nit c _ z
theorem Inv.tok(I:Inv X pins σ H s)(t:Nat):Inv X pins σ H { s with toks:=t }:=I.un (h':=s.heap) (t':=t) Un.refl I.hok
theorem Inv.kept{t':Nat}(I:Inv X pins σ H s)(k:∀ b u,s.heap.get? b=some u->h'.get? b=some u):Inv X pins σ H { s with heap:=h',toks:=t' }:=I.un (Un.kept k) (I.hok.kept k)
theorem Inv.laid{a:Addr}{o:HO}{t':Nat}(I:Inv X pins σ H s)(k:∀ b u,s.heap.get? b=some u->h'.get? b=some u)(hp:s.heap.objs.size<=a)(new:ObjOk X.prog X.w (upd H a o) h' a o) :
    Inv X pins σ (upd H a o) { s with heap:=h',toks:=t' }:=I.un (Un.laid k hp (I.hok.fresh hp)) (I.hok.laid k hp new)
theorem Inv.write{x e:Addr}{o:HO}{t':Nat}(I:Inv X pins σ H s)(mu:Mut (H x))(he:e=x\/H e=some (.own x))(k:∀ b u,b≠e->s.heap.get? b=some u->h'.get? b=some u)(heo:∃ u,h'.get? e=some u)
    (new:ObjOk X.prog X.w (upd H x o) h' x o):Inv X pins σ (upd H x o) { s with heap:=h',toks:=t' }:=I.un (Un.write mu he k heo) (I.hok.write mu he k heo new)
theorem Inv.pins_of{pins':List (Addr × Obj)}(I:Inv X pins σ H s)(h:∀ p∈pins',s.heap.get? p.1=some p.2/\H p.1=none/\p.1≠X.env.locals/\p.1∉X.fs/\∀ v,p.2.data≠.cell v):Inv X pins' σ H s:=
 ⟨I.ok,I.os,I.bare,I.base,I.loc,I.cell,I.free,I.freeC,fun p hp=>(List.mem_append.mp hp).elim (fun z=>I.pin p (List.mem_append_left _ z)) (h p),I.hok,I.len⟩
theorem kK{N:List Str}(hN:N.Nodup){i j:Nat}{x:Str}(a:N[i]?=some x)(b:N[j]?=some x):i=j:=by
 obtain ⟨h1,e1⟩:=List.getElem?_eq_some_iff.mp a;obtain ⟨h2,e2⟩:=List.getElem?_eq_some_iff.mp b;exact (List.getElem_inj hN).mp (e1.trans e2.symm)
theorem jR{M:Model}{A:Around}{E:Value->Shared->Prop}{i:Nat}{x:Str}{v:V}{u:Value}{Q:Unit->Shared->Prop}(I:Inv X pins σ H s)(hN:X.N.Nodup)(hi:X.N[i]?=some x)(hx:Loc X.env.scope x)(r:RelV v u)
    (h:∀ s',Inv X pins (σ.set i (some v)) H s'->(∃ a,Heap.SameBut a s.heap s'.heap/\(a=X.env.locals\/X.env.cells.lookup x=some a))->Q () s') (hf:X.fn x=true\/X.env.scope.names.lookup x=some .local:=by first | exact .inl rfl | exact .inr rfl | assumption):wpAny M A (storeName X.env x u) Q E s:=by
 obtain ⟨m,hn,hl⟩:=id I.loc;have hcls:(X.env.scope.kind == .class||(X.env.scope.kind == .module&&X.env.locals != X.env.globals))=false:=by rw[I.ok.kind];rfl
 have hiσ:i<σ.length:=by rw[I.len];exact (List.getElem?_eq_some_iff.mp hi).1
 have cne:=I.cne;have tracked:∀ {a:Addr} {h':Heap},(∃ o,s.heap.get? a=some o/\H a=none)->Heap.SameBut a s.heap h'->HOk X.prog X.w H h':=fun {a h'} ha hs b ob e=>by
  obtain ⟨_,_,hfree⟩:=ha;refine (I.hok b ob e).stay (fun c w' hc q=>(hs.2 c ?_).trans q) (fun _ q=>q) fun _ _ q=>q;rintro rfl;rcases hc with rfl | hc
  ·rw[hfree] at e;cases e
  ·rw[hfree] at hc;cases hc
 rcases hx with hk | hk
 ·refine wpAny_storeName_local hk hn (fun h' hn' hs=>?_) hcls
  obtain ⟨oL,_,_,hoL,_⟩:=id hn;refine h _ ⟨I.ok,I.os,I.bare,⟨fun b o e n hb hx=>?_,fun b o e n hb hx=>?_,I.base.free,fun b o e hx=>?_,I.base.tups,I.base.frzs,I.base.tbls⟩,⟨_,hn',fun j y v' e1 e2 e3=>?_⟩,fun y c e=>?_,I.free,I.freeC,fun p hp=>?_,tracked ⟨oL,hoL,I.free⟩ hs,by simpa using I.len⟩ ⟨_,hs,.inl rfl⟩
  ·exact (hs.2 b (Nat.ne_of_lt (Nat.lt_of_lt_of_le (Heap.lt_size e) I.ok.above))).trans (I.base.keep b o e n hb hx)
  ·obtain ⟨sl,e1⟩:=I.base.slot b o e n hb hx
   exact ⟨sl,(hs.2 b (Nat.ne_of_lt (Nat.lt_of_lt_of_le (Heap.lt_size e) I.ok.above))).trans e1⟩
  ·obtain ⟨o',e1⟩:=I.base.there b o e hx
   exact ⟨o',(hs.2 b (Nat.ne_of_lt (Nat.lt_of_lt_of_le (Heap.lt_size e) I.ok.above))).trans e1⟩
  ·by_cases hj:j=i
   ·subst hj
    rw[hi] at e1;cases e1;rw[List.getElem?_set_self hiσ] at e2
    cases e2
    exact ⟨u,r,.inl ⟨hk,by simp⟩⟩
   ·rw[List.getElem?_set_ne (Ne.symm hj)] at e2
    obtain ⟨u',r',q⟩:=hl j y v' e1 e2 e3;refine ⟨u',r',?_⟩;rcases q with ⟨k,e⟩ | ⟨k,c,e,z⟩
    ·refine .inl ⟨k,?_⟩
     have:y≠x:=fun e=>hj (kK hN e1 (e ▸ hi));simp[this,e]
    ·exact .inr ⟨k,c,e,z.sameBut hs (cne y c e)⟩
  ·obtain ⟨w',z⟩:=I.cell y c e
   exact ⟨w',z.sameBut hs (cne y c e)⟩
  ·obtain ⟨e,n,ne,nf,d⟩:=I.pin p hp
   exact ⟨(hs.2 p.1 ne).trans e,n,ne,nf,d⟩
 ·have hfn:X.fn x=true:=by
     rcases hf with z | z
     ·exact z
     ·rw[z] at hk;cases hk
  obtain ⟨c,hc⟩:=I.ok.has x (.inl hk);obtain ⟨w',z⟩:=I.cell x c hc;refine wpAny_storeName_cell I.ok.kind hk hc z (fun h' hc' hs=>?_);obtain ⟨oc,hoc,hocd⟩:=id z
  refine h { s with heap:=h' } ⟨I.ok,I.os,I.bare,⟨fun b o e n hb hx=>?_,fun b o e n hb hx=>?_,I.base.free,fun b o e hx=>?_,I.base.tups,I.base.frzs,I.base.tbls⟩,⟨m,hn.sameBut hs (Ne.symm (cne x c hc)),fun j y v' e1 e2 e3=>?_⟩,fun y c' e=>?_,I.free,I.freeC,fun p hp=>?_,tracked ⟨oc,hoc,I.freeC x c hc⟩ hs,by simpa using I.len⟩ ⟨c,hs,.inr hc⟩
  ·exact (hs.2 b (Nat.ne_of_lt (Nat.lt_of_lt_of_le (Heap.lt_size e) (I.ok.cab x c hfn hc)))).trans (I.base.keep b o e n hb hx)
  ·obtain ⟨sl,e1⟩:=I.base.slot b o e n hb hx
   exact ⟨sl,(hs.2 b (Nat.ne_of_lt (Nat.lt_of_lt_of_le (Heap.lt_size e) (I.ok.cab x c hfn hc)))).trans e1⟩
  ·obtain ⟨o',e1⟩:=I.base.there b o e hx
   exact ⟨o',(hs.2 b (Nat.ne_of_lt (Nat.lt_of_lt_of_le (Heap.lt_size e) (I.ok.cab x c hfn hc)))).trans e1⟩
  ·by_cases hj:j=i
   ·subst hj
    rw[hi] at e1;cases e1;rw[List.getElem?_set_self hiσ] at e2
    cases e2
    exact ⟨u,r,.inr ⟨.inl hk,c,hc,hc'⟩⟩
   ·rw[List.getElem?_set_ne (Ne.symm hj)] at e2
    obtain ⟨u',r',q⟩:=hl j y v' e1 e2 e3;refine ⟨u',r',?_⟩;rcases q with q | ⟨k,c',e,z'⟩
    ·exact .inl q
    ·refine .inr ⟨k,c',e,z'.sameBut hs ?_⟩
     rintro rfl;exact hj (kK hN e1 (I.ok.inj _ _ _ e hc ▸ hi))
  ·by_cases hcc:c'=c
   ·subst hcc;exact ⟨_,hc'⟩
   ·obtain ⟨w2,z2⟩:=I.cell y c' e
    exact ⟨w2,z2.sameBut hs hcc⟩
  ·obtain ⟨e,n,ne,nf,d⟩:=I.pin p hp
   refine ⟨(hs.2 p.1 ?_).trans e,n,ne,nf,d⟩;intro q;rw[q,hoc] at e;have q':oc=p.2:=Option.some.inj e;exact d w' (by rw[<- q'];exact hocd)
theorem em{M:Model}{A:Around}{E:Value->Shared->Prop}{i:Nat}{x:Str}{v:V}{u:Value}{Q:Unit->Shared->Prop}(I:Inv X pins σ H s)(hN:X.N.Nodup)(hi:X.N[i]?=some x)(hx:Loc X.env.scope x)(r:RelV v u)
    (h:∀ s',Inv X pins (σ.set i (some v)) H s'->Q () s') (hf:X.fn x=true\/X.env.scope.names.lookup x=some .local:=by first | exact .inl rfl | exact .inr rfl | assumption):wpAny M A (storeName X.env x u) Q E s:=
 jR I hN hi hx r (fun s' I' _=>h s' I') hf
theorem Inv.call'{s':Shared}{ch:List Addr}(I:Inv X pins σ H s)(ho:s'.os=s.os)(u:Un (frs X.stack) ch H H' s.heap s'.heap)(hok:HOk X.prog X.w H' s'.heap)(hg:AllBare s'.gens)
    (hch:∀ b∈ch,(b∈X.ex\/X.s₀.heap.objs.size<=b)/\b≠X.env.locals/\(∀ x c,X.env.cells.lookup x=some c->c≠b)/\∀ p∈X.pn++pins,p.1≠b):Inv X pins σ H' s':=by
 obtain ⟨h',g',d',t',o'⟩:=s';have e:o'=s.os:=ho;subst e;exact I.call (g':=g') (t':=t') (d':=d') u hok hg hch
end
abbrev XK:=Value->Option Addr->Hp->Prop
abbrev St:=List (Option V)
abbrev VK:=V->Hp->Prop
abbrev TE:=St->Hp->VK->Prop
abbrev TT:=St->Hp->(Bool->Hp->Prop)->Prop
abbrev TA:=St->Hp->(List V->Hp->Prop)->Prop
structure Ends where
 nx:St->Hp->Prop
 rt:VK
 bk:St->Hp->Prop:=fun _ _=>False
 ct:St->Hp->Prop:=fun _ _=>False
abbrev TS:=Ends->St->Hp->Prop
def EP(X:Cx)(pins:List (Addr × Obj))(σ:St)(Q:VK)(u:Value)(s':Shared):Prop:=∃ v H',Inv X pins σ H' s'/\RelV v u/\Q v H'
def TP(X:Cx)(pins:List (Addr × Obj))(σ:St)(Q:Bool->Hp->Prop)(b:Bool)(s':Shared):Prop:=∃ H',Inv X pins σ H' s'/\Q b H'
def AP(X:Cx)(pins:List (Addr × Obj))(σ:St)(Q:List V->Hp->Prop)(us:List Value)(s':Shared):Prop:=∃ vs H',Inv X pins σ H' s'/\Vals vs us/\Q vs H'
def SP(X:Cx)(pins:List (Addr × Obj))(D:Ends)(f:Flow)(s':Shared):Prop:=
 match f with
 | .next=>∃ σ' H',Inv X pins σ' H' s'/\D.nx σ' H'
 | .brk=>∃ σ' H',Inv X pins σ' H' s'/\D.bk σ' H'
 | .cont=>∃ σ' H',Inv X pins σ' H' s'/\D.ct σ' H'
 | .ret u=>∃ v σ' H',Inv X pins σ' H' s'/\RelV v u/\D.rt v H'
def PE(X:Cx)(e:Expr)(t:TE):Prop:=
 ∀ (pins:List (Addr × Obj)) (s:Shared) (σ:St) (H:Hp) (Q:VK),Inv X pins σ H s->t σ H Q->wpAny (model X.prog X.w) X.A (eval e X.env) (EP X pins σ Q) X.xe s
def PT(X:Cx)(e:Expr)(t:TT):Prop:=
 ∀ (pins:List (Addr × Obj)) (s:Shared) (σ:St) (H:Hp) (Q:Bool->Hp->Prop),Inv X pins σ H s->t σ H Q->wpAny (model X.prog X.w) X.A (isTrue e X.env (eval e X.env)) (TP X pins σ Q) X.xe s
def PW(X:Cx)(e:Expr)(t:TT):Prop:=
 ∀ (whole:Sem Value) (pins:List (Addr × Obj)) (s:Shared) (σ:St) (H:Hp) (Q:Bool->Hp->Prop),Inv X pins σ H s->t σ H Q->wpAny (model X.prog X.w) X.A (isTrue e X.env whole) (TP X pins σ Q) X.xe s
theorem PW.pt{X:Cx}{e:Expr}{t:TT}(h:PW X e t):PT X e t:=h _
def PA(X:Cx)(es:List Expr)(t:TA):Prop:=
 ∀ (pos:Pos) (pins:List (Addr × Obj)) (s:Shared) (σ:St) (H:Hp) (Q:List V->Hp->Prop),Inv X pins σ H s->t σ H Q->wpAny (model X.prog X.w) X.A (spliced (backTo pos (starEach es X.env))) (AP X pins σ Q) X.xe s
def PS(X:Cx)(st:Stmt)(t:TS):Prop:=
 ∀ (pins:List (Addr × Obj)) (s:Shared) (σ:St) (H:Hp) (D:Ends),Inv X pins σ H s->t D σ H->wpAny (model X.prog X.w) X.A (exec st X.env) (SP X pins D) X.xe s
def PSs(X:Cx)(st:List Stmt)(t:TS):Prop:=
 ∀ (pins:List (Addr × Obj)) (s:Shared) (σ:St) (H:Hp) (D:Ends),Inv X pins σ H s->t D σ H->wpAny (model X.prog X.w) X.A (execs st X.env) (SP X pins D) X.xe s
theorem thn{α:Type}{t:Sem α}{Q Q':α->Shared->Prop}{M:Model}{A:Around}{E:Value->Shared->Prop}{s:Shared}(h:wpAny M A t Q E s)(hQ:∀ a s,Q a s->Q' a s):wpAny M A t Q' E s:=wpAny_mono h hQ fun _ _ x=>x
section
variable {X:Cx}
def sD(i:Nat):TE:=fun σ H Q=>∃ v,σ[i]?=some (some v)/\Q v H
def tC(v:V):TE:=fun _ H Q=>Q v H
theorem nK{i:Nat}{x:Str}{pos:Pos}(hN:X.N[i]?=some x)(hv:Vis X.env.scope x)(hd:(x == ("__debug__" : Str))=false:=by decide)(hcd:(x == ("__classdict__" : Str))=false:=by decide):PE X (.Name x pos) (sD i):=by
 intro pins s σ H Q I h;obtain ⟨v,e,h⟩:=h;obtain ⟨m,hn,hl⟩:=I.loc;obtain ⟨u,r,l⟩:=hl i x v hN e hv;have fin:EP X pins σ Q u s:=⟨v,H,I,r,h⟩
 rcases l with ⟨hk,hm⟩ | ⟨hk,c,hc,hcell⟩
 ·exact wpAny_Name (wpAny_loadName_local I.ok.kind hk hn hm fin) hd
 ·rcases hk with hk | hk
  ·exact wpAny_Name (wpAny_loadName_cell I.ok.kind hk hc hcell fin) hd
  ·exact wpAny_Name (wpAny_loadName_free I.ok.kind hk hc hcell fin hcd) hd
theorem sE{i j pos}:PE X (.Constant (.int i) j pos) (tC (.int i)):=fun _ _ _ H _ I h=>wpAny_Constant_int ⟨.int i,H,I.tok _,⟨_,rfl⟩,h⟩
theorem uQ{b j pos}:PE X (.Constant (.bool b) j pos) (tC (.bl b)):=fun _ _ _ H _ I h=>Constant_bool ⟨.bl b,H,I,rfl,h⟩
theorem nL{x j pos}:PE X (.Constant (.str x) j pos) (tC (.str x)):=fun _ _ _ H _ I h=>Calls.Constant_str ⟨.str x,H,I.tok _,⟨_,rfl⟩,h⟩
def Gl(X:Cx)(x:Str):Prop:=X.env.kindOf x=some .globalImplicit
theorem fo{E:Value->Shared->Prop}{pins:List (Addr × Obj)}{s:Shared}{σ:St}{H:Hp}{x:Str}{u:Value}{pos:Pos}{Q:Value->Shared->Prop}(I:Inv X pins σ H s)(hg:Gl X x)(hm:X.mg x=some u)(h:Q u s)
    (hd:(x == ("__debug__" : Str))=false:=by decide):wpAny (model X.prog X.w) X.A (eval (.Name x pos) X.env) Q E s:=
 Calls.Name_function_global I.ok.kind hg (Calls.loadGlobal_global (by rw[I.ok.glob];exact I.mod.glob.keeps I.bk) hm h) hd
theorem eo{E:Value->Shared->Prop}{pins:List (Addr × Obj)}{s:Shared}{σ:St}{H:Hp}{x:Str}{u:Value}{pos:Pos}{Q:Value->Shared->Prop}(I:Inv X pins σ H s)(hg:Gl X x)(hm:X.mg x=none)(hv:bootBuiltins x=some u)(h:Q u s)
    (hn:x ≠ "__name__" := by decide) (hd:(x == ("__debug__" : Str))=false:=by decide):wpAny (model X.prog X.w) X.A (eval (.Name x pos) X.env) Q E s:=by
 obtain ⟨mb,h1,h2⟩:=I.mod.blt;exact Calls.Name_function_global I.ok.kind hg (Calls.loadGlobal_builtin (by rw[I.ok.glob];exact I.mod.glob.keeps I.bk) hm (by rw[I.ok.blt];exact h1.keeps I.bk) ((h2 x hn).trans hv) h) hd
theorem js{x:Str}{v:V}{u:Value}{pos:Pos}(hg:Gl X x)(hm:X.mg x=some u)(r:RelV v u)(hd:(x == ("__debug__" : Str))=false:=by decide):PE X (.Name x pos) (tC v):=
 fun _ _ _ H _ I h=>fo I hg hm ⟨v,H,I,r,h⟩ hd
theorem qN{x:Str}{v:V}{u:Value}{pos:Pos}(hg:Gl X x)(hm:X.mg x=none)(hv:bootBuiltins x=some u)(r:RelV v u)(hn:x ≠ "__name__" := by decide)(hd:(x == ("__debug__" : Str))=false:=by decide):PE X (.Name x pos) (tC v):=
 fun _ _ _ H _ I h=>eo I hg hm hv ⟨v,H,I,r,h⟩ hn hd
variable {a b:Expr}{ta tb:TE}{pos:Pos}
def tB(t:TE):TT:=fun σ H Q=>t σ H fun x H1=>∃ c,x=.bl c/\Q c H1
theorem sF{e:Expr}{t:TE}(h:PE X e t)(he:∀ whole,isTrue e X.env whole=(do let v <- whole;standAt e.pos;holding [v] (truthy v)):=by intro _;rfl):PT X e (tB t):=by
 intro pins s σ H Q I hw;refine isTrue_plain (thn (h pins s σ H _ I hw) fun v s1 ⟨x,H1,I1,r1,q1⟩=>?_) (he _);obtain ⟨d,rfl,q⟩:=q1
 cases r1
 exact wpAny_truthy_bool ⟨H1,I1,q⟩
variable {tA tB':TT}{rest:List Expr}
def vK(t u:TT):TT:=fun σ H Q=>t σ H fun c H1=>if c=true then u σ H1 Q else Q false H1
def tOr(t u:TT):TT:=fun σ H Q=>t σ H fun c H1=>if c=true then Q true H1 else u σ H1 Q
def vM(t:TT):TT:=fun σ H Q=>t σ H fun c H1=>Q (!c) H1
theorem qO(ha:PT X a tA):PW X (.BoolOp .And [a] pos) tA:=by
 intro wh pins s σ H Q I h;refine isTrue_and (thn (ha pins s σ H Q I h) fun c s1 e=>?_)
 cases c with
 |true=>exact isTrue_and_nil e
 |false=>exact e
theorem sG(ha:PT X a tA):PW X (.BoolOp .Or [a] pos) tA:=by
 intro wh pins s σ H Q I h;refine isTrue_or (thn (ha pins s σ H Q I h) fun c s1 e=>?_)
 cases c with
 |false=>exact isTrue_or_nil e
 |true=>exact e
theorem sI(ha:PT X a tA)(hb:PW X (.BoolOp .And (b::rest) pos) tB'):PW X (.BoolOp .And (a::b::rest) pos) (vK tA tB'):=by
 intro wh pins s σ H Q I h;refine isTrue_and (thn (ha pins s σ H _ I h) fun c s1 ⟨H1,I1,q1⟩=>?_)
 cases c with
 |true=>exact hb wh pins s1 σ H1 Q I1 q1
 |false=>exact ⟨H1,I1,q1⟩
theorem uR(ha:PT X a tA)(hb:PW X (.BoolOp .Or (b::rest) pos) tB'):PW X (.BoolOp .Or (a::b::rest) pos) (tOr tA tB'):=by
 intro wh pins s σ H Q I h;refine isTrue_or (thn (ha pins s σ H _ I h) fun c s1 ⟨H1,I1,q1⟩=>?_)
 cases c with
 |true=>exact ⟨H1,I1,q1⟩
 |false=>exact hb wh pins s1 σ H1 Q I1 q1
theorem sJ(ha:PT X a tA):PT X (.UnaryOp .Not a pos) (vM tA):=by
 intro pins s σ H Q I h;exact isTrue_not (ha pins s σ H (fun c H1=>Q (!c) H1) I h)
def uS(ta tb:TE):TE:=fun σ H Q=>ta σ H fun x H1=>∃ c,x=.bl c/\if c=true then tb σ H1 Q else Q (.bl false) H1
theorem sK{op}{t:TE}(h:PE X a t):PE X (.BoolOp op [a] pos) t:=fun pins s σ H Q I hw=>BoolOp_one (h pins s σ H Q I hw)
theorem sL(ha:PE X a ta)(hb:PE X (.BoolOp .And (b::rest) pos) tb):PE X (.BoolOp .And (a::b::rest) pos) (uS ta tb):=by
 intro pins s σ H Q I h;refine BoolOp_and (thn (ha pins s σ H _ I h) fun v s1 ⟨x,H1,I1,r1,q1⟩=>?_);obtain ⟨c,rfl,q1⟩:=q1
 cases r1
 refine wpAny_truthy_bool ?_
 cases c with
 |true=>exact hb pins s1 σ H1 Q I1 q1
 |false=>exact ⟨.bl false,H1,I1,rfl,q1⟩
def tIf(t:TT)(ta tb:TE):TE:=fun σ H Q=>t σ H fun c H1=>if c=true then ta σ H1 Q else tb σ H1 Q
theorem pz{c:Expr}(hc:PT X c tA)(ha:PE X a ta)(hb:PE X b tb):PE X (.IfExp c a b pos) (tIf tA ta tb):=by
 intro pins s σ H Q I h;refine wpAny_IfExp (thn (hc pins s σ H _ I h) fun d s1 ⟨H1,I1,q1⟩=>?_)
 cases d with
 |true=>exact ha pins s1 σ H1 Q I1 q1
 |false=>exact hb pins s1 σ H1 Q I1 q1
end
def SqL(K:PySem.W.Frag)(H:Hp)(a:Addr)(xs:List V):Prop:=
 Rd H a (.lst xs) ∨
  ∃ (o:Obj) (its:Array Value) (n:Nat),K.lookup a=some o/\o.cls=.type "list" /\ o.dict=none/\o.data=.seq its n/\its.size<=sizeLine/\Vals xs its.toList
def SqT(K:PySem.W.Frag)(H:Hp)(a:Addr)(xs:List V):Prop:=
 Rd H a (.tup xs) ∨
  ∃ (o:Obj) (its:Array Value) (n:Nat),K.lookup a=some o/\o.cls=.type "tuple" /\ o.data=.seq its n/\its.size<=sizeLine/\Vals xs its.toList
def vN:Value->Option V
 | .none=>some .non
 | .bool b=>some (.bl b)
 | .int i _=>some (.int i)
 | .str x _=>some (.str x)
 | .bytes b _=>some (.byt b)
 | .float b _=>some (.flt b)
 | .ref a=>some (.ref a)
 | .type n=>some (.ty n)
 |_=>none
theorem RelV.abs{x:V}{u:Value}(r:RelV x u):vN u=some x:=by
 cases x with
 |non=>cases r;rfl
 |bl _=>cases r;rfl
 |int _=>obtain ⟨t,rfl⟩:=r;rfl
 |str _=>obtain ⟨t,rfl⟩:=r;rfl
 |byt _=>obtain ⟨t,rfl⟩:=r;rfl
 |flt _=>obtain ⟨t,rfl⟩:=r;rfl
 |ref _=>cases r;rfl
 |ty _=>cases r;rfl
theorem RelV.inj{x y:V}{u:Value}(r:RelV x u)(q:RelV y u):x=y:=Option.some.inj (r.abs.symm.trans q.abs)
theorem Vals.inj:∀ {xs ys:List V} {us:List Value},Vals xs us->Vals ys us->xs=ys
 |_,_,_,.nil,.nil=>rfl
 |_,_,_,.cons r t,.cons r' t'=>by rw[r.inj r',Vals.inj t t']
section
variable {X:Cx}{pins:List (Addr × Obj)}{σ:St}{H:Hp}{s:Shared}{a:Addr}{xs ys:List V}
theorem SqL.of{K:PySem.W.Frag}(h:H a=some (.lst xs)):SqL K H a xs:=.inl (.inl h)
theorem SqT.of{K:PySem.W.Frag}(h:H a=some (.tup xs)):SqT K H a xs:=.inl (.inl h)
theorem Inv.list(I:Inv X pins σ H s)(h:SqL X.K H a xs):∃ its:List Value,Vals xs its/\PlainL s.heap a its.toArray/\xs.length<=sizeLine:=by
 rcases h with h | ⟨o,its,n,hk,hc,hd,hs,hz,r⟩
 ·obtain ⟨z,its,n,r,e⟩:=h.ok I.hok
  exact ⟨its,r,⟨_,n,e,rfl,rfl,rfl⟩,z⟩
 ·refine ⟨its.toList,r,⟨o,n,I.kIn a o hk,hc,hd,by simpa using hs⟩,?_⟩
  have e:=r.length;simp only[Array.length_toList] at e;omega
theorem Inv.tuple(I:Inv X pins σ H s)(h:SqT X.K H a xs):∃ its:List Value,Vals xs its/\IsTup s.heap a its.toArray/\xs.length<=sizeLine:=by
 rcases h with h | ⟨o,its,n,hk,hc,hs,hz,r⟩
 ·obtain ⟨z,its,r,p⟩:=h.ok I.hok
  exact ⟨its,r,p,z⟩
 ·refine ⟨its.toList,r,⟨o,I.kIn a o hk,hc,n,by simpa using hs⟩,?_⟩
  have e:=r.length;simp only[Array.length_toList] at e;omega
theorem Inv.list_inj(I:Inv X pins σ H s)(h:SqL X.K H a xs)(h':SqL X.K H a ys):xs=ys:=by
 obtain ⟨its,r,⟨o,n,e,_,_,d⟩,_⟩:=I.list h;obtain ⟨its',r',⟨o',n',e',_,_,d'⟩,_⟩:=I.list h';rw[e] at e';cases e';rw[d] at d';injection d' with d1 _;have:its=its':=by simpa using congrArg Array.toList d1
 subst this;exact r.inj r'
theorem Inv.tuple_inj(I:Inv X pins σ H s)(h:SqT X.K H a xs)(h':SqT X.K H a ys):xs=ys:=by
 obtain ⟨its,r,⟨o,e,_,n,d⟩,_⟩:=I.tuple h;obtain ⟨its',r',⟨o',e',_,n',d'⟩,_⟩:=I.tuple h';rw[e] at e';cases e';rw[d] at d';injection d' with d1 _;have:its=its':=by simpa using congrArg Array.toList d1
 subst this;exact r.inj r'
end
section
variable {X:Cx}{pins:List (Addr × Obj)}{σ:St}{H:Hp}{s:Shared}{E:Value->Shared->Prop}
end
section
variable {X:Cx}{st:Stmt}{rest:List Stmt}{t u:TS}{e:Expr}{te:TE}{pos:Pos}
def uT:TS:=fun D σ H=>D.nx σ H
def sM(t u:TS):TS:=fun D σ H=>t { D with nx:=u D } σ H
theorem qP:PSs X [] uT:=fun _ _ σ H _ I h=>wpAny_execs_nil ⟨σ,H,I,h⟩
theorem pA(h1:PS X st t)(h2:PSs X rest u):PSs X (st::rest) (sM t u):=by
 intro pins s σ H D I h;refine wpAny_execs_cons (thn (h1 pins s σ H { D with nx:=u D } I h) fun f s1 q=>?_)
 cases f with
 |next=>
  obtain ⟨σ',H',I',q⟩:=q;exact h2 pins s1 σ' H' D I' q
 |ret v=>exact q
 |brk=>exact q
 |cont=>exact q
theorem qQ(h1:PS X st t):PSs X [st] t:=by
 intro pins s σ H D I h;refine wpAny_execs_cons (thn (h1 pins s σ H D I h) fun f s1 q=>?_)
 cases f with
 |next=>exact wpAny_execs_nil q
 |ret v=>exact q
 |brk=>exact q
 |cont=>exact q
theorem Inv.quiet{pins:List (Addr × Obj)}{σ:St}{H:Hp}{s:Shared}(I:Inv X pins σ H s):interactive X.env=false:=by simp[interactive,I.ok.kind]
def uU(te:TE):TS:=fun D σ H=>te σ H fun _ H1=>D.nx σ H1
theorem gO(he:PE X e te)(hs:swapsWith e none pos.line X.env=pure false:=by rfl):PS X (.Expr e pos) (uU te):=by
 intro pins s σ H D I h;exact wpAny_Expr_any (thn (he pins s σ H _ I h) fun v s1 ⟨x,H1,I1,r1,q1⟩=>⟨σ,H1,I1,q1⟩) I.quiet hs
def vO(te:TE):TS:=fun D σ H=>te σ H D.rt
theorem kL(he:PE X e te):PS X (.Return (some e) pos) (vO te):=by
 intro pins s σ H D I h;exact wpAny_Return_some (thn (he pins s σ H _ I h) fun v s1 ⟨x,H1,I1,r1,q1⟩=>⟨x,σ,H1,I1,r1,q1⟩)
def vP(c:TT)(t u:TS):TS:=fun D σ H=>c σ H fun b H1=>if b=true then t D σ H1 else u D σ H1
theorem uV{c:Expr}{a b:List Stmt}{tc:TT}(hc:PT X c tc)(ha:PSs X a t)(hb:PSs X b u):PS X (.If c a b pos) (vP tc t u):=by
 intro pins s σ H D I h;refine wpAny_If (thn (hc pins s σ H _ I h) fun d s1 ⟨H1,I1,q1⟩=>?_)
 cases d with
 |true=>exact ha pins s1 σ H1 D I1 q1
 |false=>exact hb pins s1 σ H1 D I1 q1
end
abbrev TG:=V->St->Hp->(St->Hp->Prop)->Prop
abbrev TGs:=List V->St->Hp->(St->Hp->Prop)->Prop
def PG(X:Cx)(target:Expr)(t:TG):Prop:=
 ∀ (pins:List (Addr × Obj)) (s:Shared) (σ:St) (H:Hp) (v:V) (u:Value) (Q:St->Hp->Prop),Inv X pins σ H s->RelV v u->t v σ H Q →
  wpAny (model X.prog X.w) X.A (assign target X.env u) (fun _ s'=>∃ σ' H',Inv X pins σ' H' s'/\Q σ' H') X.xe s
def PGs(X:Cx)(ts:List Expr)(t:TGs):Prop:=
 ∀ (pins:List (Addr × Obj)) (s:Shared) (σ:St) (H:Hp) (vs:List V) (us:List Value) (Q:St->Hp->Prop),Inv X pins σ H s->Vals vs us->t vs σ H Q →
  wpAny (model X.prog X.w) X.A (assignInOrder ((assignEach ts X.env).map (·.2)) us) (fun _ s'=>∃ σ' H',Inv X pins σ' H' s'/\Q σ' H') X.xe s
abbrev pB:=V->V->V->Hp->(Hp->Prop)->Prop
def sN(X:Cx)(t:pB):Prop:=
 ∀ (pins:List (Addr × Obj)) (s:Shared) (σ:St) (H:Hp) (o i v:V) (ov iv u:Value) (Q:Hp->Prop),Inv X pins σ H s->RelV o ov->RelV i iv->RelV v u->t o i v H Q →
  wpAny (model X.prog X.w) X.A (setItem ov iv u) (fun _ s'=>∃ H',Inv X pins σ H' s'/\Q H') X.xe s
section
variable {X:Cx}{pos:Pos}
def kz(i:Nat):TG:=fun v σ H Q=>Q (σ.set i (some v)) H
theorem lZ{i:Nat}{x:Str}(hN:X.N.Nodup)(hi:X.N[i]?=some x)(hx:Loc X.env.scope x)(hf:X.fn x=true\/X.env.scope.names.lookup x=some .local:=by first | exact .inl rfl | exact .inr rfl | assumption):PG X (.Name x pos) (kz i):=by
 intro pins s σ H v u Q I r h;exact wpAny_assign_Name (em I hN hi hx r (fun s' I'=>⟨_,H,I',h⟩) hf)
def vQ:TGs:=fun vs σ H Q=>vs=[]/\Q σ H
def uW(t:TG)(u:TGs):TGs:=fun vs σ H Q=>∃ v r,vs=v::r/\t v σ H fun σ' H'=>u r σ' H' Q
theorem qR:PGs X [] vQ:=by
 intro pins s σ H vs us Q I r h;obtain ⟨e,h⟩:=h;subst e
 cases r
 exact assignInOrder_nil ⟨σ,H,I,h⟩
theorem pC{e:Expr}{es:List Expr}{t:TG}{u:TGs}(h1:PG X e t)(h2:PGs X es u)
    (hs:(assignEach (e::es) X.env).map (·.2)=assign e X.env::(assignEach es X.env).map (·.2):=by rfl):PGs X (e::es) (uW t u):=by
 intro pins s σ H vs us Q I r h;obtain ⟨v,vr,e1,h⟩:=h;subst e1
 cases r with
 |cons r rr=>
  rw[hs];refine assignInOrder_cons (thn (h1 pins s σ H _ _ _ I r h) fun _ s1 ⟨σ1,H1,I1,q1⟩=>?_);exact h2 pins s1 σ1 H1 _ _ Q I1 rr q1
def vR(K:PySem.W.Frag)(n:Nat)(t:TGs):TG:=fun v σ H Q=>∃ a xs,v=.ref a/\SqT K H a xs/\xs.length=n/\t xs σ H Q
theorem sO{es:List Expr}{k:Nat}{t:TGs}{n:Nat}(hc:X.calm=true)(h:PGs X es t)
    (hn:(assignEach es X.env).length=n:=by rfl) (hst:(assignEach es X.env).findIdx? (·.1)=none:=by rfl):PG X (.Tuple es k pos) (vR X.K n t):=by
 intro pins s σ H v u Q I r hw;obtain ⟨a,xs,e1,hq,hl,hw⟩:=hw;subst e1
 cases r
 obtain ⟨its,rv,ht,hz⟩:=I.tuple hq;refine assign_Tuple_tuple (I.ok.hd hc) ht (by simp[hn,<- hl,rv.length]) hst fun h' hx=>?_;have I1:Inv X pins σ H { s with heap:=h' }:=I.kept (t':=s.toks) fun b o e=>hx b o (Nat.ne_of_lt (Heap.lt_size e)) e;exact h pins _ σ H xs _ Q I1 (by simpa using rv) hw
def vT(to ti:TE)(t:pB):TG:=fun v σ H Q=>to σ H fun o H1=>ti σ H1 fun i H2=>t o i v H2 fun H3=>Q σ H3
theorem sP{o i:Expr}{to ti:TE}{t:pB}(ho:PE X o to)(hi:PE X i ti)(hs:sN X t)
    (ha:∀ v,assign (.Subscript o i pos) X.env v=(do
     let ov <- holding [v] (eval o X.env)
     let iv <- holding [v,ov] (eval i X.env)
     standAt pos
     holding [v,ov,iv] (setItem ov iv v)
     release [v,ov,iv] []):=by intro _;rfl):PG X (.Subscript o i pos) (vT to ti t):=by
 intro pins s σ H v u Q I r h;rw[ha];refine wpAny_bind (wpAny_holding (thn (ho pins s σ H _ I h) fun ov s1 ⟨x,H1,I1,r1,q1⟩=>?_));refine wpAny_bind (wpAny_holding (thn (hi pins s1 σ H1 _ I1 q1) fun iv s2 ⟨y,H2,I2,r2,q2⟩=>?_));refine wpAny_bind (wpAny_standAt (wpAny_bind (wpAny_holding (thn (hs pins s2 σ H2 x y v ov iv u _ I2 r1 r2 r q2) fun _ s3 ⟨H3,I3,q3⟩=>?_))));exact wpAny_release ⟨σ,H3,I3,q3⟩
def pD(te:TE)(g:TG):TS:=fun D σ H=>te σ H fun x H1=>g x σ H1 D.nx
theorem sQ{tg e:Expr}{te:TE}{g:TG}(he:PE X e te)(hg:PG X tg g)(hs:swapsWithSole [tg] e pos.line X.env=pure false:=by rfl)(hw:swappedStores [tg] e X.env=pure none:=by rfl)
    (h1:(assignEach [tg] X.env).map (·.2)=[assign tg X.env]:=by rfl):PS X (.Assign [tg] e pos) (pD te g):=by
 intro pins s σ H D I h;refine wpAny_Assign_stores (thn (he pins s σ H _ I h) fun v s1 ⟨x,H1,I1,r1,q1⟩=>?_) hs hw;rw[h1];exact thn (hg pins s1 σ H1 x v _ I1 r1 q1) fun _ s2 q=>q
theorem sR{i:Nat}{x:Str}{e:Expr}{te:TE}{pos':Pos}(hN:X.N.Nodup)(hi:X.N[i]?=some x)(hx:Loc X.env.scope x)(he:PE X e te)(hs:swapsWith e (some (.Name x pos')) pos.line X.env=pure false:=by rfl)(hf:X.fn x=true\/X.env.scope.names.lookup x=some .local:=by first | exact .inl rfl | exact .inr rfl | assumption) :
    PS X (.Assign [.Name x pos'] e pos) (pD te (kz i)):=by
 intro pins s σ H D I h;refine wpAny_Assign_Name (thn (he pins s σ H _ I h) fun v s1 ⟨y,H1,I1,r1,q1⟩=>?_) hs;exact em I1 hN hi hx r1 (fun s2 I2=>⟨_,H1,I2,q1⟩) hf
def vU(i j:Nat)(ta:TA):TS:=fun D σ H=>ta σ H fun vs H1=>∃ v w,vs=[v,w]/\D.nx ((σ.set i (some v)).set j (some w)) H1
theorem sS{i j:Nat}{x y:Str}{a b:Expr}{ta:TA}{px py pt:Pos}{kt k2 pt2}(hc:X.calm=true)(hN:X.N.Nodup)(hi:X.N[i]?=some x)(hj:X.N[j]?=some y)(hij:i≠j)
    (hx:X.env.scope.names.lookup x=some .local) (hy:X.env.scope.names.lookup y=some .local) (ha:PA X [a,b] ta)
    (hw:swappedStores [.Tuple [.Name x px,.Name y py] kt pt] (.Tuple [a,b] k2 pt2) X.env=pure (some [x,y]))
    (hs:swapsWithSole [.Tuple [.Name x px,.Name y py] kt pt] (.Tuple [a,b] k2 pt2) pos.line X.env=pure false:=by rfl) :
    PS X (.Assign [.Tuple [.Name x px,.Name y py] kt pt] (.Tuple [a,b] k2 pt2) pos) (vU i j ta):=by
 intro pins s σ H D I h;rw[exec_Assign_arm];refine wpAny_bind (wpAny_standAt ?_);rw[hs];refine wpAny_bind (wpAny_pure ?_);rw[if_neg (by decide)];refine wpAny_bind (Tuple_ (thn (ha _ pins s σ H _ I h) fun us s1 ⟨vs,H1,I1,r1,q1⟩=>?_));obtain ⟨v,w,e1,q1⟩:=q1;subst e1;obtain ⟨u1,u2,rfl,rv,rw'⟩:∃ u1 u2,us=[u1,u2]/\RelV v u1/\RelV w u2:=by
  cases r1 with
  |cons p q=>
   cases q with
   |cons p' q'=>
    cases q'
    exact ⟨_,_,rfl,p,p'⟩
 refine wpAny_newObj_type ?_ (by show 2<=sizeLine;decide);have I2:Inv X pins σ H1 { s1 with heap:=s1.heap.push { cls:=.type "tuple", data:=.seq [u1,u2].toArray } }:=I1.kept (t':=s1.toks) fun b o e=>Heap.get?_push_of_some _ e;rw[hw];refine wpAny_bind (wpAny_pure ?_)
 show wpAny (model X.prog X.w) X.A (do rule "assign.swapped-stores"; let items <- unpackItems (.ref s1.heap.objs.size) 2 none;assignInOrder [fun v=>bindName X.env y v,fun v=>bindName X.env x v] items.reverse;pure Flow.next) _ _ _;refine wpAny_bind (wpAny_rule (wpAny_bind (unpackItems_tuple (items:=#[u1,u2]) (I.ok.hd hc) (IsTup.new s1.heap _) fun h' hx'=>?_)))
 have I3:=I2.kept (h':=h') (t':=s1.toks) fun b o e=>hx' b o (Nat.ne_of_lt (Heap.lt_size e)) e;show wpAny _ _ (assignInOrder [fun v=>bindName X.env y v,fun v=>bindName X.env x v] [u2,u1] >>= fun _=>pure Flow.next) _ _ _;refine wpAny_bind (assignInOrder_cons (wpAny_bindName (em I3 hN hj (.inl hy) rw' (fun s2 I4=>?_) (.inr hy))))
 refine assignInOrder_cons (wpAny_bindName (em I4 hN hi (.inl hx) rv (fun s3 I5=>assignInOrder_nil (wpAny_pure ?_)) (.inr hx)));rw[List.set_comm _ _ (Ne.symm hij)] at I5;exact ⟨_,H1,I5,q1⟩
end
section
variable {X:Cx}{pos:Pos}
end
structure It where
 go:Nat->Hp->Prop
 yld:Nat->Hp->V->Hp->Prop
 stop:Nat->Hp->Prop
def er(X:Cx)(pins:List (Addr × Obj))(H:Hp)(b:Addr):Prop:=
 H b=none/\b≠X.env.locals/\b∉X.fs/\(b∈X.ex\/X.s₀.heap.objs.size<=b)/\(∀ x c,X.env.cells.lookup x=some c->c≠b)/\∀ p∈X.pn++pins,p.1≠b
theorem Inv.fpOk{X:Cx}{pins:List (Addr × Obj)}{σ:St}{H H':Hp}{s:Shared}{b:Addr}(I:Inv X pins σ H s)(hb:s.heap.objs.size<=b)(hn:H' b=none):er X pins H' b:=by
 refine ⟨hn,Nat.ne_of_gt (Nat.lt_of_lt_of_le I.lt hb),I.nofs hb,.inr (Nat.le_trans I.sz hb),fun x c e z=>?_,fun p hp z=>?_⟩
 ·obtain ⟨v,q⟩:=I.cell x c e
  exact absurd (Nat.lt_of_lt_of_le q.lt (by rw[z];exact hb)) (Nat.lt_irrefl _)
 ·exact absurd (Nat.lt_of_lt_of_le (Heap.lt_size (I.pin p hp).1) (by rw[z];exact hb)) (Nat.lt_irrefl _)
structure Turn (P:Program) (w:World) (K:PySem.W.Frag) (tg:Expr) (J:It) (fp:List Addr) (it:Addr) (tn:Nat->Heap->Prop):Prop where
 mem:it∈fp
 obj:∀ i h,tn i h->∀ b∈fp,∃ o,h.get? b=some o/\∀ v,o.data≠.cell v
 keep:∀ i h h',tn i h->(∀ b∈fp,∀ o,h.get? b=some o->h'.get? b=some o)->tn i h'
 item:∀ (X:Cx),X.prog=P->X.w=w->X.K=K->X.calm=true->∀ (i:Nat) (pins:List (Addr × Obj)) (s:Shared) (σ:St) (H:Hp) (E:Value->Shared->Prop),Inv X pins σ H s->(∀ b∈fp,er X pins H b)->tn i s.heap->J.go i H →
  wpAny (model P w) X.A (pyNext (.ref it)) (fun r s1=>∃ u,r=some u ∧
   wpAny (model P w) X.A (letOwnedTupleGo tg (.ref it) u) (fun _ s2=>∃ x H',Inv X pins σ H' s2/\RelV x u/\J.yld i H x H'/\tn (i+1) s2.heap/\∀ b∈fp,H' b=none) E s1) E s
 done:∀ (X:Cx),X.prog=P->X.w=w->X.K=K->X.calm=true->∀ (i:Nat) (pins:List (Addr × Obj)) (s:Shared) (σ:St) (H:Hp) (E:Value->Shared->Prop),Inv X pins σ H s->(∀ b∈fp,er X pins H b)->tn i s.heap->J.stop i H →
  wpAny (model P w) X.A (pyNext (.ref it)) (fun r s1=>r=none/\Inv X pins σ H s1) E s
 self:∀ (A:Around) (i:Nat) (s:Shared) (Q:Value->Shared->Prop) (E:Value->Shared->Prop),tn i s.heap->Q (.ref it) s->wpAny (model P w) A (pyIter (.ref it)) Q E s
abbrev TI:=St->Hp->(It->Hp->Prop)->Prop
def PIE(X:Cx)(pins:List (Addr × Obj))(σ:St)(tg:Expr)(R:It->Hp->Prop)(itv:Value)(s2:Shared):Prop:=
 ∃ (it:Addr) (fp:List Addr) (tn:Nat->Heap->Prop) (J:It) (H':Hp),itv=.ref it/\Inv X pins σ H' s2/\Turn X.prog X.w X.K tg J fp it tn/\tn 0 s2.heap/\(∀ b∈fp,er X pins H' b)/\R J H'
def PI(X:Cx)(tg iter:Expr)(wi:TI):Prop:=
 ∀ (pins:List (Addr × Obj)) (s:Shared) (σ:St) (H:Hp) (R:It->Hp->Prop),Inv X pins σ H s->wi σ H R →
  wpAny (model X.prog X.w) X.A (eval iter X.env) (fun v s1=>wpAny (model X.prog X.w) X.A (pyIter v) (PIE X pins σ tg R) X.xe s1) X.xe s
theorem iO{M:Model}{A:Around}{E:Value->Shared->Prop}{s:Shared}{tg:Expr}{it:Addr}{u:Value}{o:Obj}{n:String}{vs:Array Value}{Q:Unit->Shared->Prop}(ho:s.heap.get? it=some o)(hc:o.cls=.type n)(hd:o.data=.fields vs)
    (hn:["enumerate", "zip", "dict_itemiterator", "dict_reverseitemiterator", "odict_iterator", "itertools.zip_longest", "itertools.pairwise"].contains n=false) (hQ:Q () s):wpAny M A (letOwnedTupleGo tg (.ref it) u) Q E s:=by
 unfold letOwnedTupleGo
 cases tg<;>first
  |exact wpAny_pure hQ
  | (cases u<;>first
      |exact wpAny_pure hQ
      | (refine wpAny_bind (wpAny_load ho ?_)
         rw[hc,hd]
         show wpAny M A (if (["enumerate", "zip", "dict_itemiterator", "dict_reverseitemiterator", "odict_iterator", "itertools.zip_longest", "itertools.pairwise"].contains n&&vs[0]? == some (rawInt _))=true then _ else _) Q E s
         rw[if_neg (by intro h;rw[hn,Bool.false_and] at h;cases h)]
         exact wpAny_pure hQ))
def Itl(K:PySem.W.Frag)(a:Addr):It:=
 ⟨fun i H=>∃ xs x,SqL K H a xs/\xs[i]?=some x,fun i H x H'=>H'=H/\∀ xs,SqL K H a xs->xs[i]?=some x,fun i H=>∃ xs,SqL K H a xs/\xs.length<=i⟩
def Itt(K:PySem.W.Frag)(a:Addr):It:=
 ⟨fun i H=>∃ xs x,SqT K H a xs/\xs[i]?=some x,fun i H x H'=>H'=H/\∀ xs,SqT K H a xs->xs[i]?=some x,fun i H=>∃ xs,SqT K H a xs/\xs.length<=i⟩
def Itr(lo:Int)(n:Nat):It:=⟨fun i _=>i<n,fun i H x H'=>H'=H/\x=.int (lo+i),fun i _=>n<=i⟩
theorem nM{P:Program}{w:World}{K:PySem.W.Frag}{tg:Expr}(a it:Addr):Turn P w K tg (Itl K a) [it] it (fun i h=>h.IsListIter it a i) where
 mem:=by simp
 obj:=fun i h st b hb=>by
  have e:b=it:=by simpa using hb
  subst e;obtain ⟨o,e,c,d⟩:=st;exact ⟨o,e,fun v z=>by rw[d] at z;cases z⟩
 keep:=fun i h h' st k=>st.at fun o e=>k it (by simp) o e;item:=by
  intro X hP hw hK hc i pins s σ H E I hf st hg;subst hP hw hK;obtain ⟨xs,x,hq,hx⟩:=hg;obtain ⟨its,rv,p,hz⟩:=I.list hq;obtain ⟨u,hu,ru⟩:=rv.get hx;obtain ⟨f0,f1,f2,f3,f4,f5⟩:=hf it (by simp);refine wpAny_pyNext_list_item st p.isList (x:=u) (by simpa using hu) fun h' st' sb=>?_;have I1:Inv X pins σ H { s with heap:=h' }:=I.turned (t':=s.toks) (fun b o hb e=>(sb.2 b hb).trans e) f0 f1 f3 f4 f5
  obtain ⟨o,e,c,d⟩:=id st';exact ⟨u,rfl,iO (s:={ s with heap:=h' }) e c d (by decide) ⟨x,H,I1,ru,⟨rfl,fun ys hy=>by rw[I.list_inj hy hq];exact hx⟩,st',fun b hb=>(hf b hb).1⟩⟩
 done:=by
  intro X hP hw hK hc i pins s σ H E I hf st hg;subst hP hw hK;obtain ⟨xs,hq,hx⟩:=hg;obtain ⟨its,rv,p,hz⟩:=I.list hq;obtain ⟨f0,f1,f2,f3,f4,f5⟩:=hf it (by simp);have hl:=rv.length;exact wpAny_pyNext_list_end (I.ok.hd hc) st p.isList (by simp;omega) fun h' eb=>⟨rfl,I.turned (t':=s.toks) (fun b o hb e=>eb b o hb e) f0 f1 f3 f4 f5⟩
 self:=fun _ _ _ _ _ st h=>wpAny_pyIter_listiter st h
theorem mL{P:Program}{w:World}{K:PySem.W.Frag}{tg:Expr}(a it:Addr):Turn P w K tg (Itt K a) [it] it (fun i h=>h.IsTupleIter it a i) where
 mem:=by simp
 obj:=fun i h st b hb=>by
  have e:b=it:=by simpa using hb
  subst e;obtain ⟨o,e,c,d⟩:=st;exact ⟨o,e,fun v z=>by rw[d] at z;cases z⟩
 keep:=fun i h h' st k=>st.at fun o e=>k it (by simp) o e;item:=by
  intro X hP hw hK hc i pins s σ H E I hf st hg;subst hP hw hK;obtain ⟨xs,x,hq,hx⟩:=hg;obtain ⟨its,rv,p,hz⟩:=I.tuple hq;obtain ⟨u,hu,ru⟩:=rv.get hx;obtain ⟨f0,f1,f2,f3,f4,f5⟩:=hf it (by simp);refine wpAny_pyNext_tuple_item st (show s.heap.IsTuple a its.toArray from p) (x:=u) (by simpa using hu) fun h' st' sb=>?_
  have I1:Inv X pins σ H { s with heap:=h' }:=I.turned (t':=s.toks) (fun b o hb e=>(sb.2 b hb).trans e) f0 f1 f3 f4 f5;obtain ⟨o,e,c,d⟩:=id st';exact ⟨u,rfl,iO (s:={ s with heap:=h' }) e c d (by decide) ⟨x,H,I1,ru,⟨rfl,fun ys hy=>by rw[I.tuple_inj hy hq];exact hx⟩,st',fun b hb=>(hf b hb).1⟩⟩
 done:=by
  intro X hP hw hK hc i pins s σ H E I hf st hg;subst hP hw hK;obtain ⟨xs,hq,hx⟩:=hg;obtain ⟨its,rv,p,hz⟩:=I.tuple hq;obtain ⟨f0,f1,f2,f3,f4,f5⟩:=hf it (by simp);have hl:=rv.length;exact wpAny_pyNext_tuple_end (I.ok.hd hc) st (show s.heap.IsTuple a its.toArray from p) (by simp;omega) fun h' eb=>⟨rfl,I.turned (t':=s.toks) (fun b o hb e=>eb b o hb e) f0 f1 f3 f4 f5⟩
 self:=fun _ _ _ _ _ st h=>wpAny_pyIter_tupleiter st h
theorem mM{P:Program}{w:World}{K:PySem.W.Frag}{tg:Expr}(it:Addr)(lo:Int)(n:Nat):Turn P w K tg (Itr lo n) [it] it (fun i h=>IsRangeIter h it (lo+(i:Nat)*1) ((n:Int) - (i:Nat)) 1) where
 mem:=by simp
 obj:=fun i h st b hb=>by
  have e:b=it:=by simpa using hb
  subst e;exact ⟨_,st,fun v z=>by
   have z':Data.fields _=Data.cell v:=z
   cases z'⟩
 keep:=fun i h h' st k=>k it (by simp) _ st;item:=by
  intro X hP hw hK hc i pins s σ H E I hf st hg;subst hP hw hK;obtain ⟨f0,f1,f2,f3,f4,f5⟩:=hf it (by simp);have W:=Walks.range (prog:=X.prog) (w:=X.w) (I.ok.hd hc) it lo 1 n;refine W.item i s _ _ hg st fun v h' tk hv st' kk=>?_;obtain ⟨t,rfl⟩:=hv;have I1:Inv X pins σ H { s with heap:=h',toks:=tk }:=I.turned (fun b o hb e=>kk b o (by simpa using hb) e) f0 f1 f3 f4 f5
  refine ⟨_,rfl,iO (s:={ s with heap:=h',toks:=tk }) (n := "range_iterator") st' rfl rfl (by decide) ⟨.int (lo+i),H,I1,⟨t,?_⟩,⟨rfl,rfl⟩,st',fun b hb=>(hf b hb).1⟩⟩;rw[Int.mul_one]
 done:=by
  intro X hP hw hK hc i pins s σ H E I hf st hg;subst hP hw hK;obtain ⟨f0,f1,f2,f3,f4,f5⟩:=hf it (by simp);exact wpAny_pyNext_range_end (I.ok.hd hc) st (by have:n<=i:=hg;omega) fun h' eb=>⟨rfl,I.turned (t':=s.toks) (fun b o hb e=>eb b o hb e) f0 f1 f3 f4 f5⟩
 self:=fun _ _ _ _ _ st h=>wpAny_pyIter_rangeiter st h
section
variable {X:Cx}{tg:Expr}
theorem pE{pins:List (Addr × Obj)}{σ:St}{H:Hp}{s:Shared}{R:It->Hp->Prop}{E:Value->Shared->Prop}{lo hi:Int}{t u v:Tok}{tk:Nat}(I:Inv X pins σ H s)(h1:-(2 ^ 62)<=lo)(h2:lo<2 ^ 62)(h3:-(2 ^ 62)<=hi)(h4:hi<2 ^ 62)
    (q:R (Itr lo (hi - lo).toNat) H):wpAny (model X.prog X.w) X.A (pyIter (.ref s.heap.objs.size)) (PIE X pins σ tg R) E { s with heap:=s.heap.push { cls:=.type "range", data:=.fields #[.int lo t,.int hi u,.int 1 v] },toks:=tk }:=by
 refine wpAny_pyIter_range (IsRange.new ..) (small_one h1 h2 h3 h4) ?_;have I1:Inv X pins σ H { s with heap:=s.heap.push { cls:=.type "range", data:=.fields #[.int lo t,.int hi u,.int 1 v] },toks:=tk }:=I.kept fun b o e=>Heap.get?_push_of_some _ e
 refine ⟨(s.heap.push { cls:=.type "range", data:=.fields #[.int lo t,.int hi u,.int 1 v] }).objs.size,[(s.heap.push { cls:=.type "range", data:=.fields #[.int lo t,.int hi u,.int 1 v] }).objs.size],_,_,H,rfl,
  I1.kept (t':=tk) fun b o e=>Heap.get?_push_of_some _ e,mM _ lo (hi - lo).toNat,?_,fun b hb=>?_,q⟩
 ·have e1:lo+((0:Nat):Int)*1=lo:=by simp
  have e2:(((hi - lo).toNat:Nat):Int) - ((0:Nat):Int)=Builtin.Range.rangeSize lo hi 1:=by rw[rangeSize_one];split<;>omega
  show IsRangeIter _ _ (lo+((0:Nat):Int)*1) ((((hi - lo).toNat:Nat):Int) - ((0:Nat):Int)) 1;rw[e1,e2];exact Heap.get?_push_size _ rfl
 ·have e:b=(s.heap.push { cls:=.type "range", data:=.fields #[.int lo t,.int hi u,.int 1 v] }).objs.size:=by simpa using hb
  subst e;exact I1.fpOk (Nat.le_refl _) (I1.hok.fresh (Nat.le_refl _))
def uX(ta:TA):TI:=fun σ H R=>ta σ H fun vs H1=>∃ j:Int,vs=[.int j]/\-(2 ^ 62)<=j/\j<2 ^ 62/\R (Itr 0 j.toNat) H1
theorem nN{a:Expr}{ta:TA}{p pos:Pos}(hg:Gl X "range")(hm:X.mg "range" = none)(ha:PA X [a] ta)(hs:starEach [a] X.env=[(false,eval a X.env)]:=by rfl):PI X tg (.Call (.Name "range" p) [a] [] pos) (uX ta):=by
 intro pins s σ H R I h;refine Call_ (eo I hg hm boot_range (PyProof.Rows.callWith_type1 (thn (ha pos pins s σ H _ I h) fun us s1 ⟨vs,H1,I1,r1,q1⟩=>?_) hs rfl));obtain ⟨j,e,q1,q2,q⟩:=q1;subst e
 cases r1 with
 |cons r rr=>
  cases rr
  obtain ⟨t,rfl⟩:=r;exact call_range_1 (pE I1 (by omega) (by omega) q1 q2 (by simpa using q))
def vV(wi:TI)(g:TG)(tb:TS):TS:=fun D σ H=>wi σ H fun J H1=>∃ W:Nat->Nat->St->Hp->Prop,(∃ m,W 0 m σ H1)/\∀ i m σ H,W i m σ H →
 (J.stop i H/\D.nx σ H)\/(J.go i H/\∃ N:St->Hp->Prop,(∀ σ' H',N σ' H'->∃ m',m'<m/\W (i+1) m' σ' H')/\∀ x H',J.yld i H x H'->g x σ H' fun σ2 H2=>tb { D with nx:=N,ct:=N,bk:=D.nx } σ2 H2)
def gl(fp:List Addr)(h:Heap):List (Addr × Obj):=fp.filterMap fun b=>(h.get? b).map fun o=>(b,o)
theorem d5{fp:List Addr}{h:Heap}{b:Addr}{o:Obj}(hb:b∈fp)(e:h.get? b=some o):(b,o)∈gl fp h:=List.mem_filterMap.mpr ⟨b,hb,by rw[e];rfl⟩
theorem nO{fp:List Addr}{h:Heap}{p:Addr × Obj}(hp:p∈gl fp h):p.1∈fp/\h.get? p.1=some p.2:=by
 obtain ⟨b,hb,e⟩:=List.mem_filterMap.mp hp
 cases q:h.get? b with
 |none=>rw[q] at e;cases e
 |some o=>
  rw[q] at e;have e':(b,o)=p:=Option.some.inj e;subst e';exact ⟨hb,q⟩
theorem Inv.pinned{pins:List (Addr × Obj)}{σ:St}{H:Hp}{s:Shared}{fp:List Addr}(I:Inv X pins σ H s)(hf:∀ b∈fp,er X pins H b)(ho:∀ b∈fp,∃ o,s.heap.get? b=some o/\∀ v,o.data≠.cell v):Inv X (pins++gl fp s.heap) σ H s:=
 I.pins_of fun p hp=>(List.mem_append.mp hp).elim (fun z=>I.pin p (List.mem_append_right _ z)) fun z=>by
  obtain ⟨hb,e⟩:=nO z;obtain ⟨f0,f1,f2,_⟩:=hf p.1 hb;obtain ⟨o,e',d⟩:=ho p.1 hb;rw[e] at e';cases e';exact ⟨e,f0,f1,f2,d⟩
theorem Inv.unpinned{pins pl:List (Addr × Obj)}{σ:St}{H:Hp}{s:Shared}(I:Inv X (pins++pl) σ H s):Inv X pins σ H s:=I.pins_of fun p hp=>I.pin p (List.mem_append_right _ (List.mem_append_left _ hp))
theorem sT{iter:Expr}{body:List Stmt}{wi:TI}{g:TG}{tb:TS}{pos:Pos}(hp:PassesOwn (model X.prog X.w) X.A X.env X.xe)(hc:X.calm=true)(hi:PI X tg iter wi)(hg:PG X tg g)(hb:PSs X body tb)
    (hs:∀ x,foldedSetIterable iter X.env x=pure x:=by intro _;rfl):PS X (.For tg iter body [] pos) (vV wi g tb):=by
 intro pins s σ H D I h;refine wpAny_For (thn (hi pins s σ H _ I h) fun v s1 h1=>thn h1 fun itv s2 h2=>?_) hs;obtain ⟨it,fp,tn,J,H2,e,I2,T,st2,f2,W,⟨m0,w0⟩,turn⟩:=h2;subst e;have stat:∀ {H':Hp},(∀ b∈fp,H' b=none)->∀ b∈fp,er X pins H' b:=fun hn b hb=>⟨hn b hb,(f2 b hb).2⟩
 refine codeAny_forLoop_any (fun n s'=>∃ i σ' H',Inv X pins σ' H' s'/\tn i s'.heap/\(∀ b∈fp,H' b=none)/\W i n σ' H') ?_ m0 ⟨0,σ,H2,I2,st2,fun b hb=>(f2 b hb).1,w0⟩;rintro n s3 ⟨i,σ3,H3,I3,st3,fr3,w3⟩;rcases turn i n σ3 H3 w3 with ⟨stop,qn⟩ | ⟨go,N,hN,step⟩
 ·refine wpAny_passesOwn hp (thn (T.done X rfl rfl rfl hc i pins s3 σ3 H3 X.xe I3 (stat fr3) st3 stop) fun r s4 ⟨hr,I4⟩=>?_)
  subst hr;exact wpAny_execs_nil ⟨σ3,H3,I4,qn⟩
 ·refine wpAny_passesOwn hp (thn (T.item X rfl rfl rfl hc i pins s3 σ3 H3 X.xe I3 (stat fr3) st3 go) fun r s4 ⟨u,hr,h4⟩=>?_)
  subst hr;refine wpAny_passesOwn hp (thn h4 fun _ s5 ⟨x,H5,I5,r5,y5,st5,fr5⟩=>?_);have I5':=I5.pinned (stat fr5) (T.obj _ _ st5);refine wpAny_passesOwn hp (thn (hg _ s5 σ3 H5 x u _ I5' r5 (step x H5 y5)) fun _ s6 ⟨σ6,H6,I6,q6⟩=>?_);refine wpAny_passesOwn hp (thn (hb _ s6 σ6 H6 _ I6 q6) fun f s7 q7=>?_)
  have again:∀ {σ7:St} {H7:Hp},Inv X (pins++gl fp s5.heap) σ7 H7 s7->N σ7 H7->∃ m,m<n/\∃ i σ' H',Inv X pins σ' H' s7/\tn i s7.heap/\(∀ b∈fp,H' b=none)/\W i m σ' H':=fun {σ7 H7} I7 n7=>by
   obtain ⟨m',hm,w7⟩:=hN σ7 H7 n7;refine ⟨m',hm,i+1,σ7,H7,I7.unpinned,T.keep _ _ _ st5 fun b hb o e=>(I7.pin (b,o) (List.mem_append_right _ (List.mem_append_right _ (d5 hb e)))).1,fun b hb=>?_,w7⟩;obtain ⟨o,e,d⟩:=T.obj _ _ st5 b hb;exact (I7.pin (b,o) (List.mem_append_right _ (List.mem_append_right _ (d5 hb e)))).2.1
  cases f with
  |next=>obtain ⟨σ7,H7,I7,n7⟩:=q7;exact again I7 n7
  |cont=>obtain ⟨σ7,H7,I7,n7⟩:=q7;exact again I7 n7
  |brk=>obtain ⟨σ7,H7,I7,q7⟩:=q7;exact ⟨σ7,H7,I7.unpinned,q7⟩
  |ret v=>obtain ⟨x7,σ7,H7,I7,r7,q7⟩:=q7;exact ⟨x7,σ7,H7,I7.unpinned,r7,q7⟩
end
abbrev R2:=V->V->Hp->VK->Prop
def OpR(X:Cx)(f:Value->Value->Sem Value)(r:R2):Prop:=
 ∀ (pins:List (Addr × Obj)) (s:Shared) (σ:St) (H:Hp) (x y:V) (v u:Value) (Q:VK),Inv X pins σ H s->RelV x v->RelV y u->r x y H Q →
  wpAny (model X.prog X.w) X.A (f v u) (EP X pins σ Q) X.xe s
def UnR(X:Cx)(f:Value->Sem Value)(r:V->Hp->VK->Prop):Prop:=
 ∀ (pins:List (Addr × Obj)) (s:Shared) (σ:St) (H:Hp) (x:V) (v:Value) (Q:VK),Inv X pins σ H s->RelV x v->r x H Q →
  wpAny (model X.prog X.w) X.A (f v) (EP X pins σ Q) X.xe s
def CallR(X:Cx)(f:Value)(r:List V->Hp->VK->Prop):Prop:=
 ∀ (pins:List (Addr × Obj)) (s:Shared) (σ:St) (H:Hp) (xs:List V) (us:List Value) (Q:VK),Inv X pins σ H s->Vals xs us->r xs H Q →
  wpAny (model X.prog X.w) X.A (call f us) (EP X pins σ Q) X.xe s
def tOp(r:R2)(ta tb:TE):TE:=fun σ H Q=>ta σ H fun x H1=>tb σ H1 fun y H2=>r x y H2 Q
def tUn(r:V->Hp->VK->Prop)(ta:TE):TE:=fun σ H Q=>ta σ H fun x H1=>r x H1 Q
def rI(C:Int->Int->Prop)(g:Int->Int->V):R2:=fun x y H Q=>∃ i j,x=.int i/\y=.int j/\C i j/\Q (g i j) H
def rI0(g:Int->Int->V):R2:=fun x y H Q=>∃ i j,x=.int i/\y=.int j/\Q (g i j) H
def rU(g:Int->V):V->Hp->VK->Prop:=fun x H Q=>∃ i,x=.int i/\Q (g i) H
section
variable {X:Cx}{a b c:Expr}{ta tb tc:TE}{pos:Pos}
theorem pF(ha:PE X a ta)(hb:PE X b tb){pins:List (Addr × Obj)}{s:Shared}{σ:St}{H:Hp}{R:V->V->Hp->Prop}(I:Inv X pins σ H s)
    (h:ta σ H fun x H1=>tb σ H1 fun y H2=>R x y H2) {Q:Value->Shared->Prop} {f:Value->Value->Sem Value}
    (hf:∀ v u s2 x y H2,Inv X pins σ H2 s2->RelV x v->RelV y u->R x y H2->wpAny (model X.prog X.w) X.A (f v u) Q X.xe s2) :
    wpAny (model X.prog X.w) X.A (eval a X.env) (fun v s₁=>wpAny (model X.prog X.w) X.A (eval b X.env) (fun u s₂=>wpAny (model X.prog X.w) X.A (f v u) Q X.xe s₂) X.xe s₁) X.xe s:=by
 refine thn (ha pins s σ H _ I h) fun v s1 ⟨x,H1,I1,r1,q1⟩=>?_;refine thn (hb pins s1 σ H1 _ I1 q1) fun u s2 ⟨y,H2,I2,r2,q2⟩=>?_;exact hf v u s2 x y H2 I2 r1 r2 q2
theorem uY{op:Operator}{r:R2}(ho:OpR X (binaryOp op) r)(ha:PE X a ta)(hb:PE X b tb):PE X (.BinOp a op b pos) (tOp r ta tb):=by
 intro pins s σ H Q I h;exact wpAny_BinOp (pF ha hb I h fun v u s2 x y H2 I2 rx ry q=>ho pins s2 σ H2 x y v u Q I2 rx ry q)
theorem uZ{op:UnaryOp}{r:V->Hp->VK->Prop}(ho:UnR X (unaryOp op) r)(ha:PE X a ta):PE X (.UnaryOp op a pos) (tUn r ta):=by
 intro pins s σ H Q I h;exact UnaryOp_ (thn (ha pins s σ H _ I h) fun v s1 ⟨x,H1,I1,r1,q1⟩=>ho pins s1 σ H1 x v Q I1 r1 q1)
theorem opI{f:Value->Value->Sem Value}{C:Int->Int->Prop}{g:Int->Int->Int}
    (rule:∀ (i j:Int) (t u:Tok) (s:Shared) (Q:Value->Shared->Prop) (E:Value->Shared->Prop),C i j->Q (.int (g i j) s.toks) { s with toks:=s.toks+1 }->wpAny (model X.prog X.w) X.A (f (.int i t) (.int j u)) Q E s) :
    OpR X f (rI C fun i j=>.int (g i j)):=by
 intro pins s σ H x y v u Q I rx ry h;obtain ⟨i,j,rfl,rfl,hc,q⟩:=h;obtain ⟨t,rfl⟩:=rx;obtain ⟨t',rfl⟩:=ry;exact rule i j t t' s _ _ hc ⟨.int (g i j),H,I.tok _,⟨_,rfl⟩,q⟩
theorem sU{f:Value->Value->Sem Value}{g:Int->Int->Int}
    (rule:∀ (i j:Int) (t u:Tok) (s:Shared) (Q:Value->Shared->Prop) (E:Value->Shared->Prop),Q (.int (g i j) s.toks) { s with toks:=s.toks+1 }->wpAny (model X.prog X.w) X.A (f (.int i t) (.int j u)) Q E s) :
    OpR X f (rI0 fun i j=>.int (g i j)):=by
 intro pins s σ H x y v u Q I rx ry h;obtain ⟨i,j,rfl,rfl,q⟩:=h;obtain ⟨t,rfl⟩:=rx;obtain ⟨t',rfl⟩:=ry;exact rule i j t t' s _ _ ⟨.int (g i j),H,I.tok _,⟨_,rfl⟩,q⟩
theorem mO{f:Value->Value->Sem Value}{g:Int->Int->Bool}
    (rule:∀ (i j:Int) (t u:Tok) (s:Shared) (Q:Value->Shared->Prop) (E:Value->Shared->Prop),Q (.bool (g i j)) s->wpAny (model X.prog X.w) X.A (f (.int i t) (.int j u)) Q E s) :
    OpR X f (rI0 fun i j=>.bl (g i j)):=by
 intro pins s σ H x y v u Q I rx ry h;obtain ⟨i,j,rfl,rfl,q⟩:=h;obtain ⟨t,rfl⟩:=rx;obtain ⟨t',rfl⟩:=ry;exact rule i j t t' s _ _ ⟨.bl (g i j),H,I,rfl,q⟩
def vW(i j:Int):Prop:=0<j/\j<1073741824
def CMul(i j:Int):Prop:=(-(2 ^ 64)<i/\i<2 ^ 64)\/(-(2 ^ 64)<j/\j<2 ^ 64)
theorem CMul.ok{i j:Int}(h:CMul i j):IntMulOk i j:=by
 rcases h with ⟨h1,h2⟩ | ⟨h1,h2⟩
 ·exact .of_left (intBits_le_64 h1 h2)
 ·exact .of_right (intBits_le_64 h1 h2)
theorem sV:OpR X (binaryOp .Add) (rI0 fun i j=>.int (i+j)):=sU fun _ _ _ _ _ _ _ q=>add_int q
theorem sW:OpR X (binaryOp .Sub) (rI0 fun i j=>.int (i - j)):=sU fun _ _ _ _ _ _ _ q=>sub_int q
theorem sX:OpR X (binaryOp .Mult) (rI CMul fun i j=>.int (i*j)):=opI fun _ _ _ _ _ _ _ hc q=>mul_int q hc.ok
theorem qS:OpR X (binaryOp .FloorDiv) (rI vW fun i j=>.int (i / j)):=opI fun i j _ _ _ _ _ hc q=>by
 have h1:(0:Int)<j:=hc.1;have h2:j<1073741824:=hc.2;exact floordiv_int (by omega) (by rw[Int.fdiv_eq_ediv_of_nonneg i (by omega)];exact q) (.inl (PyProof.noPylong_small (by omega)))
theorem sY:OpR X (binaryOp .Mod) (rI (fun _ j=>0<j) fun i j=>.int (i % j)):=opI fun i j _ _ _ _ _ hc q=>by
 have h1:(0:Int)<j:=hc;exact mod_int' (by omega) (by rw[Int.fmod_eq_emod_of_nonneg i (by omega)];exact q)
theorem unI{f:Value->Sem Value}{g:Int->Int}
    (rule:∀ (i:Int) (t:Tok) (s:Shared) (Q:Value->Shared->Prop) (E:Value->Shared->Prop),Q (.int (g i) s.toks) { s with toks:=s.toks+1 }->wpAny (model X.prog X.w) X.A (f (.int i t)) Q E s) :
    UnR X f (rU fun i=>.int (g i)):=by
 intro pins s σ H x v Q I rx h;obtain ⟨i,rfl,q⟩:=h;obtain ⟨t,rfl⟩:=rx;exact rule i t s _ _ ⟨.int (g i),H,I.tok _,⟨_,rfl⟩,q⟩
theorem sZ:UnR X (unaryOp .USub) (rU fun i=>.int (-i)):=unI fun _ _ _ _ _ q=>neg_int q
end
def tj:V->V->Bool
 | .non,.non=>true | .non,.int _=>true | .int _,.non=>true | .non,.bl _=>true | .bl _,.non=>true | .non,.str _=>true | .str _,.non=>true
 | .int _,.int _=>true | .bl _,.bl _=>true | .str _,.str _=>true | .byt _,.byt _=>true
 | .int _,.str _=>true | .str _,.int _=>true | .bl _,.str _=>true | .str _,.bl _=>true
 |_,_=>false
def rEq:R2:=fun x y H Q=>tj x y=true/\Q (.bl (decide (x=y))) H
def rNe:R2:=fun x y H Q=>tj x y=true/\Q (.bl (!decide (x=y))) H
theorem l0{i j:Int}:decide (V.int i=V.int j)=(i == j):=by
 rw[Bool.eq_iff_iff];simp
theorem nP{i j:Bool}:decide (V.bl i=V.bl j)=(i == j):=by
 rw[Bool.eq_iff_iff];simp
theorem l4{i j:Str}:decide (V.str i=V.str j)=(i == j):=by
 rw[Bool.eq_iff_iff];simp
theorem l5{i j:Array UInt8}:decide (V.byt i=V.byt j)=(i.toList == j.toList):=by
 rw[Bool.eq_iff_iff]
 cases i
 cases j
 simp
section
variable {X:Cx}{a b c:Expr}{ta tb tc:TE}{pos:Pos}
theorem aQ{pins:List (Addr × Obj)}{σ:St}{H:Hp}{s:Shared}{Q:VK}{k k':Bool}(I:Inv X pins σ H s)(q:Q (.bl k) H)(e:k=k'):EP X pins σ Q (.bool k') s:=by
 subst e;exact ⟨.bl k,H,I,rfl,q⟩
theorem u0:OpR X (compareOp .Eq) rEq:=by
 intro pins s σ H x y v u Q I rx ry h;obtain ⟨hs,q⟩:=h
 cases x with
 |non=>
  cases rx
  cases y with
  |non=>cases ry;exact PySem.EqNone.eq_none_none (aQ I q (by simp))
  |bl j=>cases ry;exact PySem.EqNone.eq_none_bool (aQ I q (by simp))
  |int j=>obtain ⟨t',rfl⟩:=ry;exact PySem.EqNone.eq_none_int (aQ I q (by simp))
  |str j=>obtain ⟨t',rfl⟩:=ry;exact PySem.EqNone.eq_none_str (aQ I q (by simp))
  |_=>exact absurd (show false=true from hs) Bool.false_ne_true
 |bl i=>
  cases rx
  cases y with
  |non=>cases ry;exact PySem.EqNone.eq_bool_none (aQ I q (by simp))
  |bl j=>cases ry;exact eq_bool (aQ I q nP)
  |str j=>obtain ⟨t',rfl⟩:=ry;exact PySem.EqMixed.eq_bool_str (aQ I q (by simp))
  |_=>exact absurd (show false=true from hs) Bool.false_ne_true
 |int i=>
  obtain ⟨t,rfl⟩:=rx
  cases y with
  |non=>cases ry;exact PySem.EqNone.eq_int_none (aQ I q (by simp))
  |int j=>obtain ⟨t',rfl⟩:=ry;exact eq_int (aQ I q l0)
  |str j=>obtain ⟨t',rfl⟩:=ry;exact PySem.EqMixed.eq_int_str (aQ I q (by simp))
  |_=>exact absurd (show false=true from hs) Bool.false_ne_true
 |str i=>
  obtain ⟨t,rfl⟩:=rx
  cases y with
  |non=>cases ry;exact PySem.EqNone.eq_str_none (aQ I q (by simp))
  |bl j=>cases ry;exact PySem.EqMixed.eq_str_bool (aQ I q (by simp))
  |int j=>obtain ⟨t',rfl⟩:=ry;exact PySem.EqMixed.eq_str_int (aQ I q (by simp))
  |str j=>obtain ⟨t',rfl⟩:=ry;exact eq_str (aQ I q l4)
  |_=>exact absurd (show false=true from hs) Bool.false_ne_true
 |byt i=>
  obtain ⟨t,rfl⟩:=rx
  cases y with
  |byt j=>obtain ⟨t',rfl⟩:=ry;exact PySem.W.eq_bytes (aQ I q l5)
  |_=>exact absurd (show false=true from hs) Bool.false_ne_true
 |_=>cases y<;>exact absurd (show false=true from hs) Bool.false_ne_true
theorem u4:OpR X (compareOp .NotEq) rNe:=by
 intro pins s σ H x y v u Q I rx ry h;obtain ⟨hs,q⟩:=h
 cases x with
 |non=>
  cases rx
  cases y with
  |non=>cases ry;exact PySem.EqNone.ne_none_none (aQ I q (by simp))
  |bl j=>cases ry;exact PySem.EqNone.ne_none_bool (aQ I q (by simp))
  |int j=>obtain ⟨t',rfl⟩:=ry;exact PySem.EqNone.ne_none_int (aQ I q (by simp))
  |str j=>obtain ⟨t',rfl⟩:=ry;exact PySem.EqNone.ne_none_str (aQ I q (by simp))
  |_=>exact absurd (show false=true from hs) Bool.false_ne_true
 |bl i=>
  cases rx
  cases y with
  |non=>cases ry;exact PySem.EqNone.ne_bool_none (aQ I q (by simp))
  |bl j=>cases ry;exact ne_bool (aQ I q (congrArg not nP))
  |str j=>obtain ⟨t',rfl⟩:=ry;exact PySem.EqMixed.ne_bool_str (aQ I q (by simp))
  |_=>exact absurd (show false=true from hs) Bool.false_ne_true
 |int i=>
  obtain ⟨t,rfl⟩:=rx
  cases y with
  |non=>cases ry;exact PySem.EqNone.ne_int_none (aQ I q (by simp))
  |int j=>obtain ⟨t',rfl⟩:=ry;exact ne_int (aQ I q (congrArg not l0))
  |str j=>obtain ⟨t',rfl⟩:=ry;exact PySem.EqMixed.ne_int_str (aQ I q (by simp))
  |_=>exact absurd (show false=true from hs) Bool.false_ne_true
 |str i=>
  obtain ⟨t,rfl⟩:=rx
  cases y with
  |non=>cases ry;exact PySem.EqNone.ne_str_none (aQ I q (by simp))
  |bl j=>cases ry;exact PySem.EqMixed.ne_str_bool (aQ I q (by simp))
  |int j=>obtain ⟨t',rfl⟩:=ry;exact PySem.EqMixed.ne_str_int (aQ I q (by simp))
  |str j=>obtain ⟨t',rfl⟩:=ry;exact ne_str (aQ I q (congrArg not l4))
  |_=>exact absurd (show false=true from hs) Bool.false_ne_true
 |byt i=>
  obtain ⟨t,rfl⟩:=rx
  cases y with
  |byt j=>obtain ⟨t',rfl⟩:=ry;exact PySem.W.ne_bytes (aQ I q (congrArg not l5))
  |_=>exact absurd (show false=true from hs) Bool.false_ne_true
 |_=>cases y<;>exact absurd (show false=true from hs) Bool.false_ne_true
theorem iP:OpR X (compareOp .Lt) (rI0 fun i j=>.bl (decide (i<j))):=mO fun _ _ _ _ _ _ _ q=>lt_int q
theorem d6:OpR X (compareOp .LtE) (rI0 fun i j=>.bl (decide (i<=j))):=mO fun _ _ _ _ _ _ _ q=>le_int q
theorem u5:OpR X (compareOp .Gt) (rI0 fun i j=>.bl (decide (j<i))):=mO fun _ _ _ _ _ _ _ q=>gt_int q
theorem u6:OpR X (compareOp .GtE) (rI0 fun i j=>.bl (decide (j<=i))):=mO fun _ _ _ _ _ _ _ q=>ge_int q
theorem OpR.or{f:Value->Value->Sem Value}{r r':R2}(h:OpR X f r)(h':OpR X f r'):OpR X f (fun x y H Q=>r x y H Q\/r' x y H Q):=by
 intro pins s σ H x y v u Q I rx ry q;rcases q with q | q
 ·exact h pins s σ H x y v u Q I rx ry q
 ·exact h' pins s σ H x y v u Q I rx ry q
theorem aU(b:Expr){op:CmpOp}(h:op≠.In:=by decide)(h2:op≠.NotIn:=by decide):behindInMarks op b=false:=by
 have e1:(op == CmpOp.In)=false:=by cases op<;>first | rfl | exact absurd rfl h
 have e2:(op == CmpOp.NotIn)=false:=by cases op<;>first | rfl | exact absurd rfl h2
 cases b<;>simp[behindInMarks,e1,e2]
theorem qT{op:CmpOp}{r:R2}(ho:OpR X (compareOp op) r)(ha:PE X a ta)(hb:PE X b tb)(hm:behindInMarks op b=false):PE X (.Compare a [op] [b] pos) (tOp r ta tb):=by
 intro pins s σ H Q I h;exact wpAny_Compare1 (pF ha hb I h fun v u s2 x y H2 I2 rx ry q=>ho pins s2 σ H2 x y v u Q I2 rx ry q) hm
def qv(t:TE):TT:=fun σ H Q=>t σ H fun x H'=>∃ k,x=.bl k/\Q k H'
theorem qU{op:CmpOp}{r:R2}(ho:OpR X (compareOp op) r)(ha:PE X a ta)(hb:PE X b tb)(hm:behindInMarks op b=false):PT X (.Compare a [op] [b] pos) (qv (tOp r ta tb)):=by
 intro pins s σ H Q I h;refine wpAny_isTrue_Compare1 (thn (ha pins s σ H _ I h) fun v s1 ⟨x,H1,I1,r1,q1⟩=>thn (hb pins s1 σ H1 _ I1 q1) fun u s2 ⟨y,H2,I2,r2,q2⟩=>
  thn (ho pins s2 σ H2 x y v u _ I2 r1 r2 q2) fun c s3 ⟨z,H3,I3,r3,k,e,q3⟩=>?_) hm
 subst e
 cases r3
 exact wpAny_truthy_bool ⟨H3,I3,q3⟩
def kM(r r':R2)(ta tb tc:TE):TE:=fun σ H Q=>ta σ H fun x H1=>tb σ H1 fun y H2=>r x y H2 fun z H3=>∃ k,z=.bl k ∧
 (if k=true then tc σ H3 fun w' H4=>r' y w' H4 Q else Q (.bl false) H3)
theorem pG{op op':CmpOp}{r r':R2}(ho:OpR X (compareOp op) r)(ho':OpR X (compareOp op') r')(ha:PE X a ta)(hb:PE X b tb)(hc:PE X c tc)
    (hm:lastMarks [op,op'] [b,c]=false:=by with_unfolding_all rfl):PE X (.Compare a [op,op'] [b,c] pos) (kM r r' ta tb tc):=by
 intro pins s σ H Q I h;refine Compare_chain (thn (ha pins s σ H _ I h) fun v s1 ⟨x,H1,I1,r1,q1⟩=>chain_link (thn (hb pins s1 σ H1 _ I1 q1) fun u s2 ⟨y,H2,I2,r2,q2⟩=>
  thn (ho pins s2 σ H2 x y v u _ I2 r1 r2 q2) fun d s3 ⟨z,H3,I3,r3,k,e,q3⟩=>?_)) hm
 subst e
 cases r3
 refine wpAny_truthy_bool ?_
 cases k with
 |false=>exact ite_ff ⟨.bl false,H3,I3,rfl,q3⟩
 |true=>exact ite_tt (chain_last (thn (hc pins s3 σ H3 _ I3 q3) fun w' s4 ⟨z',H4,I4,r4,q4⟩=>ho' pins s4 σ H4 y z' u w' Q I4 r2 r4 q4))
theorem pH{op op':CmpOp}{r r':R2}(ho:OpR X (compareOp op) r)(ho':OpR X (compareOp op') r')(ha:PE X a ta)(hb:PE X b tb)(hc:PE X c tc)
    (hm:lastMarks [op,op'] [b,c]=false:=by with_unfolding_all rfl):PT X (.Compare a [op,op'] [b,c] pos) (qv (kM r r' ta tb tc)):=by
 intro pins s σ H Q I h;refine isTrue_chain (thn (ha pins s σ H _ I h) fun v s1 ⟨x,H1,I1,r1,q1⟩=>test_link (thn (hb pins s1 σ H1 _ I1 q1) fun u s2 ⟨y,H2,I2,r2,q2⟩=>
  thn (ho pins s2 σ H2 x y v u _ I2 r1 r2 q2) fun d s3 ⟨z,H3,I3,r3,k,e,q3⟩=>?_)) hm
 subst e
 cases r3
 refine wpAny_truthy_bool ?_
 cases k with
 |false=>
  obtain ⟨k',e',q'⟩:=q3
  cases e'
  exact ite_ff ⟨H3,I3,q'⟩
 |true=>
  refine ite_tt (test_last (thn (hc pins s3 σ H3 _ I3 q3) fun w' s4 ⟨z',H4,I4,r4,q4⟩=>thn (ho' pins s4 σ H4 y z' u w' _ I4 r2 r4 q4) fun d' s5 ⟨z2,H5,I5,r5,k2,e2,q5⟩=>?_));subst e2
  cases r5
  exact wpAny_truthy_bool ⟨H5,I5,q5⟩
theorem gm:(sizeLine:Nat)<2 ^ 63:=by rw[sizeLine_eq];decide
theorem mP:OpR X (binaryOp .Add) (fun x y H Q=>∃ i j,x=.str i/\y=.str j/\i.length+j.length<=sizeLine/\Q (.str (i++j)) H):=by
 intro pins s σ H x y v u Q I rx ry h;obtain ⟨i,j,rfl,rfl,hz,q⟩:=h;obtain ⟨t,rfl⟩:=rx;obtain ⟨t',rfl⟩:=ry;exact add_str (fun t' tk=>⟨.str (i++j),H,I.tok _,⟨_,rfl⟩,q⟩) hz
theorem eO{x:V}{us:List Value}(r:Vals [x] us):∃ u,us=[u]/\RelV x u:=by
 cases r with
 |cons r1 r2=>cases r2;exact ⟨_,rfl,r1⟩
theorem qw{x y:V}{us:List Value}(r:Vals [x,y] us):∃ u w',us=[u,w']/\RelV x u/\RelV y w':=by
 cases r with
 |cons r1 r2=>
  cases r2 with
  |cons r3 r4=>cases r4;exact ⟨_,_,rfl,r1,r3⟩
theorem nQ(hc:X.calm=true):CallR X (.builtin "max") (fun xs H Q=>∃ i j,xs=[.int i,.int j]/\Q (.int (if j > i then j else i)) H):=by
 intro pins s σ H xs us Q I r h;obtain ⟨i,j,rfl,q⟩:=h;obtain ⟨u,w',rfl,⟨t,rfl⟩,⟨t',rfl⟩⟩:=qw r;refine max_two_ints (I.ok.hd hc) fun h' tk k=>⟨_,H,I.kept k,?_,q⟩
 by_cases hj:j > i
 ·rw[if_pos hj,if_pos hj];exact ⟨_,rfl⟩
 ·rw[if_neg hj,if_neg hj];exact ⟨_,rfl⟩
theorem nR(hc:X.calm=true):CallR X (.builtin "min") (fun xs H Q=>∃ i j,xs=[.int i,.int j]/\Q (.int (if j<i then j else i)) H):=by
 intro pins s σ H xs us Q I r h;obtain ⟨i,j,rfl,q⟩:=h;obtain ⟨u,w',rfl,⟨t,rfl⟩,⟨t',rfl⟩⟩:=qw r;refine min_two_ints (I.ok.hd hc) fun h' tk k=>⟨_,H,I.kept k,?_,q⟩
 by_cases hj:j<i
 ·rw[if_pos hj,if_pos hj];exact ⟨_,rfl⟩
 ·rw[if_neg hj,if_neg hj];exact ⟨_,rfl⟩
theorem nS:CallR X (.type "int") (fun xs H Q=>(∃ i,xs=[.int i]/\Q (.int i) H)\/∃ k,xs=[.bl k]/\Q (.int (if k then 1 else 0)) H):=by
 intro pins s σ H xs us Q I r h;rcases h with ⟨i,rfl,q⟩ | ⟨k,rfl,q⟩
 ·obtain ⟨u,rfl,t,rfl⟩:=eO r
  exact call_int_int ⟨.int i,H,I,⟨_,rfl⟩,q⟩
 ·obtain ⟨u,rfl,r1⟩:=eO r
  cases r1
  exact call_int_bool ⟨.int (if k then 1 else 0),H,I.tok _,⟨_,rfl⟩,q⟩
end
structure ObjM (h:Heap) (x dx C:Addr) (mA:Str->Option Value):Prop where
 obj:h.get? x=some (PySem.W.instObj C dx)
 ns:h.Ns1 dx mA
 ne:dx≠x
theorem nU{h:Heap}{dx:Addr}{mA:Str->Option Value}(n:h.Ns1 dx mA):∃ od,h.get? dx=some od/\∀ name,PySem.W.lookIn name od=some (mA name):=by
 obtain ⟨o,es,ep,ho,hd,hk,_,hm⟩:=n;refine ⟨o,ho,fun name=>?_⟩;have e:=hm name;unfold nsFind findBy at e;rw[<- Array.find?_toList] at e;unfold PySem.W.lookIn;rw[hd];dsimp only;split
 ·rename_i y q
  rw[q] at e;exact congrArg some e
 ·rename_i q
  rw[q] at e;have a:es.toList.any (·.refKey)=false:=by
   rw[List.any_eq_false];intro y hy;obtain ⟨z,t,hkey⟩:=hk y (Array.mem_toList_iff.mp hy);simp[DictEntry.refKey,hkey]
  have a':¬ es.toList.any (·.refKey)=true:=by rw[a];exact Bool.false_ne_true
  rw[if_neg a'];exact congrArg some e
theorem ObjM.look{h:Heap}{x dx C:Addr}{mA:Str->Option Value}(I:ObjM h x dx C mA):∃ od,PySem.W.InstAt h x (PySem.W.instObj C dx) C (some od)/\∀ name,PySem.W.lookIn name od=some (mA name):=
 let ⟨od,ho,hl⟩:=nU I.ns
 ⟨od,⟨I.obj,rfl,rfl,ho⟩,hl⟩
section
variable {prog:Program}{w:World}{A:Around}{E:Value->Shared->Prop}{s:Shared}{K:PySem.W.Frag}{x dx C f:Addr}{mA:Str->Option Value}{name:Str}{v:Value}
theorem qV{expr:Bool}{Q:Value->Shared->Prop}(X:K.In s.heap)(I:ObjM s.heap x dx C mA)(hg:PySem.W.plainGet K C name=true)(hh:PySem.W.hasDictIn K C=true)
    (ha:PySem.W.findIn K (.ref C) name=some none) (hv:mA name=some v) (hv':PySem.W.handedIn v=true) (h:Q v { s with toks:=s.toks+1 }) :
    wpAny (model prog w) A (getAttr (.ref x) name expr) Q E s:=by
 obtain ⟨od,J,hl⟩:=I.look;exact PySem.W.get_value X J (PySem.W.plainGet_of hg).1 (PySem.W.findObj_own hh ha rfl (by rw[hl,hv])) hv' h
theorem qW{ns:List Str}{Q:Unit->Shared->Prop}(X:K.In s.heap)(I:ObjM s.heap x dx C mA)
    (hs:PySem.W.findIn K (.ref C) "__setattr__" = some (some (.builtin "object.__setattr__"))) (hp:PySem.W.plainOver K C=true) (ht:PySem.W.takerIn K C name=some none) (hh:PySem.W.hasDictIn K C=true)
    (hw:PySem.Within mA ns) (hsz:ns.length<=sizeLine)
    (h:∀ h',ObjM h' x dx C (fun y=>if y=name then some v else mA y)->Heap.SameBut dx s.heap h'->Q () { s with heap:=h',toks:=s.toks+2 }) :
    wpAny (model prog w) A (setAttr (.ref x) name v) Q E s:=by
 obtain ⟨od,J,hl⟩:=I.look;refine PySem.W.set_plain X J hs (PySem.W.osa_open (s:={ s with toks:=s.toks+1 }) (r:=none) X J hp ht fun b=>?_);obtain ⟨cd,hc,hd'⟩:=PySem.W.any_some hh;have hx:s.heap.get? x=some ⟨.ref C,some dx,.plain,#[]⟩:=I.obj
 refine wpAny_bind (wpAny_pure (wpAny_bind (wpAny_bind (wpAny_loadPart hx (wpAny_bind (PySem.W.Looks.here (s:={ s with toks:=s.toks+1 }) (PySem.W.looks_clsIn X hc) ?_))))));rw[hd'];refine wpAny_pure (a:=some dx) (wpAny_bind (wpAny_pure (wpAny_bind ?_)));refine wpAny_nsSet1 (s:={ s with toks:=s.toks+1 }) I.ns fun h' hn2 hs2=>?_
 obtain ⟨oD,esD,epD,hoD,hdD,hcD⟩:=hn2.count (PySem.Within.cons name v hw);refine wpAny_bind (wpAny_lookBehind hoD (by rw[hdD];exact pastItsLine_dict (Nat.le_trans hcD (by rw[List.length_cons];omega))) ?_);exact wpAny_pure (h _ ⟨(hs2.2 _ (Ne.symm I.ne)).trans I.obj,hn2,I.ne⟩ hs2)
theorem pI{R:Result->Shared->Prop}{vs:List Value}{kw:List (Str × Value)}(X:K.In s.heap)(hm:PySem.W.makesIn K C=true)
    (hi:PySem.W.findIn K (.ref C) "__init__" = some (some (.ref f))) (hf:PySem.W.typeIn K (.ref f)=some (.type "function"))
    (h:codeAny (model prog w) (A.under (.builtin "type.__call__" ⟨.ref C::vs,kw⟩)) (.call (.ref f) ⟨.ref (s.heap.objs.size+1)::vs,kw⟩) (PySem.W.InitBack (s.heap.objs.size+1) R)
     { s with heap:=(s.heap.push PySem.W.emptyDict).push (PySem.W.instObj C s.heap.objs.size) }) :
    codeAny (model prog w) A (.call (.ref C) ⟨vs,kw⟩) R s:=by
 obtain ⟨hh,g,d,t,os⟩:=s;exact PySem.W.make_core (PySem.W.makes_of X hm) (PySem.W.looks_findIn X hi) (fun self=>PySem.W.bind_fn X self hf) (.inl rfl) h
end
def b3(f:Str)(v:V):List (Str × V)->List (Str × V)
 | []=>[(f,v)]
 | (g,x)::r=>if g=f then (g,v)::r else (g,x)::b3 f v r
theorem ie(f g:Str)(v:V):∀ fs:List (Str × V),(b3 f v fs).lookup g=if g=f then some v else fs.lookup g
 | []=>by
  show List.lookup g [(f,v)]=_;by_cases h:g=f
  ·have hb:(g == f)=true:=beq_iff_eq.mpr h
   simp only[List.lookup,hb,if_pos h]
  ·have hb:(g == f)=false:=beq_eq_false_iff_ne.mpr h
   simp only[List.lookup,hb,if_neg h]
 | (k,x)::r=>by
  have ih:=ie f g v r;rw[show b3 f v ((k,x)::r)=(if k=f then (k,v)::r else (k,x)::b3 f v r) from rfl];by_cases hk:k=f
  ·rw[if_pos hk]
   by_cases h:g=k
   ·have hb:(g == k)=true:=beq_iff_eq.mpr h
    simp only[List.lookup,hb,if_pos (h.trans hk)]
   ·have hb:(g == k)=false:=beq_eq_false_iff_ne.mpr h
    simp only[List.lookup,hb,if_neg (fun e:g=f=>h (e.trans hk.symm))]
  ·rw[if_neg hk]
   by_cases h:g=k
   ·have hb:(g == k)=true:=beq_iff_eq.mpr h
    simp only[List.lookup,hb,if_neg (fun e:g=f=>hk (h.symm.trans e))]
   ·have hb:(g == k)=false:=beq_eq_false_iff_ne.mpr h
    simp only[List.lookup,hb];exact ih
theorem gn(f:Str)(v:V):∀ fs:List (Str × V),f∈(b3 f v fs).map (·.1)/\∀ g,g∈fs.map (·.1)->g∈(b3 f v fs).map (·.1)
 | []=>⟨by simp[b3],fun g h=>by simp at h⟩
 | (k,x)::r=>by
  obtain ⟨i1,i2⟩:=gn f v r;rw[show b3 f v ((k,x)::r)=(if k=f then (k,v)::r else (k,x)::b3 f v r) from rfl];by_cases hk:k=f
  ·rw[if_pos hk]
   subst hk;exact ⟨by simp,fun g h=>by simpa using h⟩
  ·rw[if_neg hk]
   refine ⟨?_,fun g h=>?_⟩
   ·rw[List.map_cons]
    exact List.mem_cons_of_mem _ i1
   ·rw[List.map_cons] at h ⊢
    rcases List.mem_cons.mp h with e | e
    ·exact List.mem_cons.mpr (.inl e)
    ·exact List.mem_cons_of_mem _ (i2 g e)
theorem ig(f:Str)(v:V):∀ fs:List (Str × V),(b3 f v fs).length<=fs.length+1
 | []=>by simp[b3]
 | (k,x)::r=>by
  have ih:=ig f v r;rw[show b3 f v ((k,x)::r)=(if k=f then (k,v)::r else (k,x)::b3 f v r) from rfl];by_cases hk:k=f
  ·rw[if_pos hk,List.length_cons,List.length_cons];omega
  ·rw[if_neg hk,List.length_cons,List.length_cons];omega
theorem RelO.some_of{v:V}{o:Option Value}(r:RelO (some v) o):∃ u,o=some u/\RelV v u:=by
 cases o with
 |none=>exact (show False from r).elim
 |some u=>exact ⟨u,rfl,r⟩
theorem nV{v:V}{u:Value}(r:RelV v u):PySem.W.handedIn u=true:=by
 cases v with
 |non=>cases (show u=Value.none from r);rfl
 |bl b=>cases (show u=Value.bool b from r);rfl
 |int i=>obtain ⟨t,e⟩:=(show ∃ t,u=Value.int i t from r);cases e;rfl
 |str x=>obtain ⟨t,e⟩:=(show ∃ t,u=Value.str x t from r);cases e;rfl
 |byt b=>obtain ⟨t,e⟩:=(show ∃ t,u=Value.bytes b t from r);cases e;rfl
 |flt b=>obtain ⟨t,e⟩:=(show ∃ t,u=Value.float b t from r);cases e;rfl
 |ref a=>cases (show u=Value.ref a from r);rfl
 |ty n=>cases (show u=Value.type n from r);rfl
section
variable {P:Program}{w:World}{H H':Hp}{h h':Heap}{a C dx:Addr}{fs fs':List (Str × V)}
theorem jt(hok:HOk P w H h)(e:H a=some (.ins C dx fs)):∃ mA,ObjM h a dx C mA/\(∀ f,RelO (fs.lookup f) (mA f))/\PySem.Within mA (fs.map (·.1))/\fs.length<=1000/\H dx=some (.own a):=by
 obtain ⟨d,z,ne,ob,mA,n,r,q⟩:=(show ObjOk P w H h a (.ins C dx fs) from hok a _ e)
 exact ⟨mA,⟨ob,n,ne⟩,r,q,z,d⟩
end
structure Cls (K:PySem.W.Frag) (C:Addr):Prop where
 pg:PySem.W.plainGet K C Str.empty=true
 hd:PySem.W.hasDictIn K C=true
 po:PySem.W.plainOver K C=true
 sa:PySem.W.findIn K (.ref C) "__setattr__" = some (some (.builtin "object.__setattr__"))
theorem Cls.get{K:PySem.W.Frag}{C:Addr}(c:Cls K C)(f:Str):PySem.W.plainGet K C f=true:=c.pg
def NoAttr(K:PySem.W.Frag)(C:Addr)(f:Str):Prop:=PySem.W.findIn K (.ref C) f=some none
theorem NoAttr.taker{K:PySem.W.Frag}{C:Addr}{f:Str}(n:NoAttr K C f):PySem.W.takerIn K C f=some none:=by
 unfold PySem.W.takerIn;rw[show PySem.W.findIn K (.ref C) f=some none from n];rfl
structure Con (K:PySem.W.Frag) (C:Addr) (f:Str) (v:V) (u:Value):Prop where
 at_:PySem.W.findIn K (.ref C) f=some (some u)
 rel:RelV v u
 get:PySem.W.specialIn K u "__get__" = some none
 cp:PySem.W.copiedNames.contains f=false
structure Meth (K:PySem.W.Frag) (C:Addr) (m:Str) (f:Addr):Prop where
 at_:PySem.W.findIn K (.ref C) m=some (some (.ref f))
 fn:PySem.W.isFn K (.ref f)=true
 kp:PySem.W.keepIn K (.ref f)=true
section
variable {X:Cx}{pins:List (Addr × Obj)}{σ:St}{H:Hp}{s:Shared}{a C dx:Addr}{fs:List (Str × V)}{f:Str}{v:V}{A:Around}{E:Value->Shared->Prop}
theorem mQ{b:Bool}{Q:Value->Shared->Prop}(I:Inv X pins σ H s)(e:H a=some (.ins C dx fs))(c:Cls X.K C)(n:NoAttr X.K C f)(l:fs.lookup f=some v)
    (h:∀ u s',Inv X pins σ H s'->RelV v u->Q u s'):wpAny (model X.prog X.w) A (getAttr (.ref a) f b) Q E s:=by
 obtain ⟨mA,O,r,_,_,_⟩:=jt I.hok e;obtain ⟨u,hu,ru⟩:=RelO.some_of (v:=v) (o:=mA f) (by rw[<- l];exact r f);exact qV I.kIn O (c.get f) c.hd n hu (nV ru) (h u _ (I.tok _) ru)
theorem mR{y:V}{u:Value}{Q:Unit->Shared->Prop}(I:Inv X pins σ H s)(e:H a=some (.ins C dx fs))(c:Cls X.K C)(n:NoAttr X.K C f)(hl:fs.length<1000)(ry:RelV y u)
    (h:∀ s',Inv X pins σ (upd H a (.ins C dx (b3 f y fs))) s'->Q () s'):wpAny (model X.prog X.w) A (setAttr (.ref a) f u) Q E s:=by
 obtain ⟨mA,O,r,wi,_,ho⟩:=jt I.hok e;have hz:(fs.map (·.1)).length<=sizeLine:=by rw[List.length_map,sizeLine_eq];omega
 refine qW I.kIn O c.sa c.po n.taker c.hd wi hz fun h' O' sb=>h _ ?_;have hd:∃ o,h'.get? dx=some o:=let ⟨o,_,_,e',_⟩:=O'.ns;⟨o,e'⟩;refine I.write (x:=a) (e:=dx) (by rw[e];exact True.intro) (.inr ho) (fun b q hb z=>(sb.2 b hb).trans z) hd ?_;refine ⟨by rw[aH O.ne];exact ho,?_,O.ne,O'.obj,_,O'.ns,fun g=>?_,fun g hg=>?_⟩
 ·have:=ig f y fs;omega
 ·show RelO ((b3 f y fs).lookup g) (if g=f then some u else mA g)
  rw[ie];by_cases q:g=f
  ·rw[if_pos q,if_pos q];exact ry
  ·rw[if_neg q,if_neg q];exact r g
 ·by_cases q:g=f
  ·rw[q];exact (gn f y fs).1
  ·refine (gn f y fs).2 g (wi g fun z=>hg ?_)
   show (if g=f then some u else mA g)=none;rw[if_neg q];exact z
theorem Inv.made(I:Inv X pins σ H s):Inv X pins σ (upd (upd H s.heap.objs.size (.own (s.heap.objs.size+1))) (s.heap.objs.size+1) (.ins C s.heap.objs.size []))
    { s with heap:=(s.heap.push PySem.W.emptyDict).push (PySem.W.instObj C s.heap.objs.size) }:=by
 have e1:(s.heap.push PySem.W.emptyDict).get? s.heap.objs.size=some PySem.W.emptyDict:=Heap.get?_push_size s.heap rfl;have e2:((s.heap.push PySem.W.emptyDict).push (PySem.W.instObj C s.heap.objs.size)).get? (s.heap.objs.size+1)=some (PySem.W.instObj C s.heap.objs.size):=by
  have:=Heap.get?_push_size (s.heap.push PySem.W.emptyDict) (o:=PySem.W.instObj C s.heap.objs.size) rfl;rwa [Heap.size_push] at this
 have e3:(s.heap.push PySem.W.emptyDict).Ns s.heap.objs.size (fun _=>none):=⟨PySem.W.emptyDict,#[],_,e1,rfl,(fun e he=>absurd he (by simp)),fun _=>rfl⟩
 have I1:=I.laid (a:=s.heap.objs.size) (o:=.own (s.heap.objs.size+1)) (h':=s.heap.push PySem.W.emptyDict) (t':=s.toks) (fun b u q=>Heap.get?_push_of_some _ q) (Nat.le_refl _) ⟨_,e1⟩;refine I1.laid (a:=s.heap.objs.size+1) (o:=.ins C s.heap.objs.size []) (t':=s.toks) (fun b u q=>Heap.get?_push_of_some _ q) (Nat.le_of_eq (Heap.size_push _ _)) ?_
 have ne:s.heap.objs.size≠s.heap.objs.size+1:=Nat.ne_of_lt (Nat.lt_succ_self _);refine ⟨by rw[aH ne,bg],Nat.zero_le _,ne,e2,fun _=>none,(Heap.Ns1.of_empty e3).at fun o q=>Heap.get?_push_of_some _ q,fun _=>True.intro,fun y hy=>absurd rfl hy⟩
theorem qX{prog:Program}{w:World}{env:Env}{e:Expr}{f:Str}{pos:Pos}{s:Shared}{Q:Value->Shared->Prop}(hb:attributeBase e f env (eval e env)=eval e env)
    (h:wpAny (model prog w) A (eval e env) (fun o s₁=>wpAny (model prog w) A (getAttr o f true) Q E s₁) E s):wpAny (model prog w) A (eval (.Attribute e f pos) env) Q E s:=
 Attribute_any_ h (by rw[arm_eval_Attribute,hb])
end
def vX(K:PySem.W.Frag)(ta:TE)(f:Str):TE:=fun σ H Q=>ta σ H fun x H1=>∃ a C dx fs v,x=.ref a/\H1 a=some (.ins C dx fs)/\Cls K C/\NoAttr K C f/\fs.lookup f=some v/\Q v H1
def vY(K:PySem.W.Frag)(ta tv:TE)(f:Str):TS:=fun D σ H=>tv σ H fun y H1=>ta σ H1 fun x H2=>∃ a C dx fs,x=.ref a/\H2 a=some (.ins C dx fs)/\Cls K C/\NoAttr K C f/\fs.length<1000 ∧
 D.nx σ (upd H2 a (.ins C dx (b3 f y fs)))
section
variable {X:Cx}{o e value:Expr}{f:Str}{pos pos' tpos:Pos}{ta tv:TE}
theorem tm(he:PE X e ta)(hb:attributeBase e f X.env (eval e X.env)=eval e X.env):PE X (.Attribute e f pos) (vX X.K ta f):=by
 intro pins s σ H Q I h;refine qX hb (thn (he pins s σ H _ I h) fun u s1 ⟨x,H1,I1,rx,a,C,dx,fs,v,ex,ea,c,n,l,q⟩=>?_);subst ex;obtain rfl:u=Value.ref a:=rx;exact mQ I1 ea c n l fun u' s2 I2 ru=>⟨v,H1,I2,ru,q⟩
theorem tp(ha:PE X o ta)(hv:PE X value tv)(hs:swapsWith value (some (.Attribute o f pos')) pos.line X.env=pure false):PS X (.Assign [.Attribute o f pos'] value pos) (vY X.K ta tv f):=by
 intro pins s σ H D I h;refine plainObj_wpAny_Assign_Attribute (thn (hv pins s σ H _ I h) fun u s1 ⟨y,H1,I1,ry,q⟩=>thn (ha pins s1 σ H1 _ I1 q) fun ov s2 ⟨x,H2,I2,rx,a,C,dx,fs,ex,ea,c,n,l,q2⟩=>?_) hs;subst ex;obtain rfl:ov=Value.ref a:=rx;exact mR I2 ea c n l ry fun s3 I3=>⟨σ,_,I3,q2⟩
end
section
variable {X:Cx}{pins:List (Addr × Obj)}{σ:St}{H:Hp}{s:Shared}{A:Around}{E:Value->Shared->Prop}{Q:Value->Shared->Prop}{c:Value}{b:Bool}
inductive TyOf (K:PySem.W.Frag) (H:Hp):V->Value->Prop where
 |non:TyOf K H .non (.type "NoneType")
 |bl (x:Bool):TyOf K H (.bl x) (.type "bool")
 |int (i:Int):TyOf K H (.int i) (.type "int")
 |str (x:Str):TyOf K H (.str x) (.type "str")
 |flt (x:UInt64):TyOf K H (.flt x) (.type "float")
 |lst {a:Addr} {xs:List V} (e:H a=some (.lst xs)):TyOf K H (.ref a) (.type "list")
 |frz {a:Addr} {o:Obj} {xs:List V} (e:H a=some (.frz o (.lst xs))):TyOf K H (.ref a) (.type "list")
 |tup {a:Addr} {xs:List V} (e:H a=some (.tup xs)):TyOf K H (.ref a) (.type "tuple")
 |dK {a:Addr} {kvs:List (Key × V)} (e:H a=some (.dK kvs)):TyOf K H (.ref a) (.type "dict")
 |dT {a:Addr} {kvs:List (List Key × V)} (e:H a=some (.dT kvs)):TyOf K H (.ref a) (.type "dict")
 |ins {a C dx:Addr} {fs:List (Str × V)} (e:H a=some (.ins C dx fs)) (cl:Cls K C) (ha:PySem.W.findIn K (.ref C) "__class__" = some (some (.builtin "object.__class__")))
     (hn:PySem.W.specialIn K (.builtin "object.__class__") "__get__" = some (some (.builtin "getset_descriptor.__get__"))) (htk:PySem.W.takesIn K (.builtin "object.__class__")=some true)
     (hm:PySem.W.mroIn K C (.type "object")=some true):TyOf K H (.ref a) (.ref C)
theorem nW{x:V}{u t:Value}(I:Inv X pins σ H s)(rx:RelV x u)(ty:TyOf X.K H x t)(e:PySem.W.kitOne X.K t c=some b)(h:∀ tk,Q (.bool b) { s with toks:=tk }) :
    wpAny (model X.prog X.w) A (call (.builtin "isinstance") [u,c]) Q E s:=by
 cases ty with
 |non=>cases (show u=Value.none from rx);exact PySem.W.kia_one PySem.W.kitx_none I.kIn True.intro e (fun z=>nomatch z) h
 |bl y=>cases (show u=Value.bool y from rx);exact PySem.W.kia_one PySem.W.kitx_bool I.kIn True.intro e (fun z=>nomatch z) h
 |int i=>obtain ⟨t,q⟩:=(show ∃ t,u=Value.int i t from rx);cases q;exact PySem.W.kia_one PySem.W.kitx_int I.kIn True.intro e (fun z=>nomatch z) h
 |str y=>obtain ⟨t,q⟩:=(show ∃ t,u=Value.str y t from rx);cases q;exact PySem.W.kia_one PySem.W.kitx_str I.kIn True.intro e (fun z=>nomatch z) h
 |flt y=>obtain ⟨t,q⟩:=(show ∃ t,u=Value.float y t from rx);cases q;exact PySem.W.kia_one PySem.W.kitx_float I.kIn True.intro e (fun z=>nomatch z) h
 | @lst a xs ea=>
  cases (show u=Value.ref a from rx)
  obtain ⟨_,_,n,_,h1⟩:=(show ObjOk X.prog X.w H s.heap a (.lst xs) from I.hok a _ ea)
  exact PySem.W.kia_one PySem.W.kitx_list I.kIn ⟨_,h1,rfl⟩ e (fun z=>nomatch z) h
 | @frz a ob xs ea=>
  cases (show u=Value.ref a from rx)
  obtain ⟨_,_,_,n,_,h1⟩:=(show ObjOk X.prog X.w H s.heap a (.frz ob (.lst xs)) from I.hok a _ ea)
  exact PySem.W.kia_one PySem.W.kitx_list I.kIn ⟨_,h1,rfl⟩ e (fun z=>nomatch z) h
 | @tup a xs ea=>
  cases (show u=Value.ref a from rx)
  obtain ⟨_,_,_,p⟩:=(show ObjOk X.prog X.w H s.heap a (.tup xs) from I.hok a _ ea)
  obtain ⟨o,h1,h2,_⟩:=p;exact PySem.W.kia_one PySem.W.kitx_tuple I.kIn ⟨o,h1,h2⟩ e (fun z=>nomatch z) h
 | @dK a kvs ea=>
  cases (show u=Value.ref a from rx)
  obtain ⟨_,_,vs,_,p⟩:=(show ObjOk X.prog X.w H s.heap a (.dK kvs) from I.hok a _ ea)
  obtain ⟨o,es,ep,h1,h2,_⟩:=p;exact PySem.W.kia_one PySem.W.kitx_dict I.kIn ⟨o,h1,h2.1⟩ e (fun z=>nomatch z) h
 | @dT a kvs ea=>
  cases (show u=Value.ref a from rx)
  obtain ⟨_,_,xs,_,o,es,ep,h1,h2,_⟩:=(show ObjOk X.prog X.w H s.heap a (.dT kvs) from I.hok a _ ea)
  exact PySem.W.kia_one PySem.W.kitx_dict I.kIn ⟨o,h1,h2.1⟩ e (fun z=>nomatch z) h
 | @ins a C dx fs ea cl ha hn htk hm=>
  cases (show u=Value.ref a from rx)
  obtain ⟨mA,O,_⟩:=jt I.hok ea;obtain ⟨od,J,_⟩:=O.look;exact PySem.W.kia_one (PySem.W.kitx_own (cl.get _) cl.hd ha hn htk hm) I.kIn J e (fun z=>nomatch z) h
end
structure Room (k:Nat) (A:Around):Prop where
 hd:A.handled=none
 dp:A.depth+3*k+5<recursionLimit
 un:A.units+16*k+200<cLine
theorem Room.mono{j k:Nat}{A:Around}(r:Room k A)(h:j<=k):Room j A:=⟨r.hd,by have:=r.dp;omega,by have:=r.un;omega⟩
theorem Room.deeper{k:Nat}{A:Around}(r:Room (k+1) A)(env:Env):Room k (A.deeper env):=
 ⟨r.hd,by have:=r.dp;show A.depth+1+3*k+5<_;omega,by have:=r.un;show A.units+3+16*k+200<_;omega⟩
theorem mS{A:Around}{C:Addr}{us:List Value}{kw:List (Str × Value)}:(A.under (.builtin "type.__call__" ⟨.ref C::us,kw⟩)).depth=A.depth+1:=by
 first | rfl | simp[Around.under,Code.weight,Code.isCreation,Code.isGuard,Code.isCaller,Code.frames,Code.isFrame,guardIds]
theorem mT{A:Around}{C:Addr}{us:List Value}{kw:List (Str × Value)}:(A.under (.builtin "type.__call__" ⟨.ref C::us,kw⟩)).units=A.units+1:=by
 first | rfl | simp[Around.under,Code.cUnits,Code.frames,Code.isFrame]
theorem Room.make{k:Nat}{A:Around}(r:Room (k+1) A)(C:Addr)(us:List Value)(kw:List (Str × Value)):Room k (A.under (.builtin "type.__call__" ⟨.ref C::us,kw⟩)):=
 ⟨r.hd,by have:=r.dp;rw[mS];omega,by have:=r.un;rw[mT];omega⟩
theorem Room.depth{k:Nat}{A:Around}(r:Room k A):A.depth<recursionLimit:=by have:=r.dp;omega
def vZ:TA:=fun _ H Q=>Q [] H
def u7(ta:TE)(tr:TA):TA:=fun σ H Q=>ta σ H fun x H1=>tr σ H1 fun xs H2=>Q (x::xs) H2
section
variable {X:Cx}{e:Expr}{es:List Expr}{te:TE}{t:TA}{pos:Pos}
theorem dk:PA X [] vZ:=fun _ _ _ _ H Q I h=>Calls.spliced_nil ⟨[],H,I,.nil,h⟩
theorem b8(ha:PE X e te)(hr:PA X es t)(hs:starEach (e::es) X.env=(false,eval e X.env)::starEach es X.env:=by rfl):PA X (e::es) (u7 te t):=by
 intro pos pins s σ H Q I h;rw[hs];show wpAny _ _ (spliced ((false,eval e X.env)::backTo pos (starEach es X.env))) _ _ s;refine Calls.spliced_cons (thn (ha pins s σ H _ I h) fun u s1 ⟨x,H1,I1,r1,q1⟩=>?_);exact thn (hr pos pins s1 σ H1 _ I1 q1) fun us s2 ⟨xs,H2,I2,r2,q2⟩=>⟨x::xs,H2,I2,.cons r1 r2,q2⟩
def wa(t:TA):TE:=fun σ H Q=>t σ H fun xs H1=>xs.length<=sizeLine/\∀ p,H1 p=none->Q (.ref p) (upd H1 p (.tup xs))
def wb(t:TA):TE:=fun σ H Q=>t σ H fun xs H1=>xs.length<=sizeLine/\∀ p,H1 p=none->Q (.ref p) (upd H1 p (.lst xs))
theorem tq{x1}(h:PA X es t):PE X (.Tuple es x1 pos) (wa t):=by
 intro pins s σ H Q I hq;refine wpAny_Tuple_spliced (thn (h pos pins s σ H _ I hq) fun us s1 ⟨xs,H1,I1,r,z,q⟩=>⟨by rw[<- r.length];exact z,?_⟩);have hf:H1 s1.heap.objs.size=none:=I1.hok.fresh (Nat.le_refl _);refine ⟨.ref s1.heap.objs.size,upd H1 s1.heap.objs.size (.tup xs),I1.laid (t':=s1.toks) (fun b u e=>Heap.get?_push_of_some _ e) (Nat.le_refl _) ?_,rfl,q _ hf⟩
 exact ⟨z,us,r,⟨_,Heap.get?_push_size _ rfl,rfl,_,rfl⟩⟩
theorem tu(h:PA X es t):PE X (.List es pos) (wb t):=by
 intro pins s σ H Q I hq;refine wpAny_List_spliced (thn (h pos pins s σ H _ I hq) fun us s1 ⟨xs,H1,I1,r,z,q⟩=>⟨by rw[<- r.length];exact z,?_⟩);have hf:H1 s1.heap.objs.size=none:=I1.hok.fresh (Nat.le_refl _);refine ⟨.ref s1.heap.objs.size,upd H1 s1.heap.objs.size (.lst xs),I1.laid (t':=s1.toks) (fun b u e=>Heap.get?_push_of_some _ e) (Nat.le_refl _) ?_,rfl,q _ hf⟩
 exact ⟨z,us,0,r,Heap.get?_push_size _ rfl⟩
end
abbrev Sp:=List V->Hp->VK->XK->Prop
abbrev CXT:=List Env->Hp->Shared->XK->Value->Shared->Prop
structure Env0 (P:Program) (w:World) (K:PySem.W.Frag) (mg:Str->Option Value) (base:Heap) (A:Around) (outer:List Env) (s:Shared) (H:Hp):Prop where
 frames:A.frames=some outer
 mod:Mod K mg base
 bs:∀ b o,base.get? b=some o->s.heap.get? b=some o/\H b=none
 bsz:base.objs.size<=s.heap.objs.size
 funs:s.heap.FunFrames base outer
 frf:∀ b∈frs outer,H b=none
 hok:HOk P w H s.heap
 bare:AllBare s.gens
def CE(outer:List Env)(P:Program)(w:World)(H:Hp)(s:Shared)(Q:VK)(u:Value)(s':Shared):Prop:=
 ∃ v H',s'.os=s.os/\AllBare s'.gens/\Un (frs outer) [] H H' s.heap s'.heap/\HOk P w H' s'.heap/\RelV v u/\Q v H'
def CR(CX:CXT)(outer:List Env)(P:Program)(w:World)(H:Hp)(s:Shared)(Q:VK)(E:XK)(r:Result)(s':Shared):Prop:=
 match r with
 | .ok (.ret u)=>CE outer P w H s Q u s'
 | .ok _=>False
 | .error e=>CX outer H s E e s'
structure FnOk (P:Program) (w:World) (K:PySem.W.Frag) (mg:Str->Option Value) (base:Heap) (CX:CXT) (k:Nat) (f:Addr) (fd:FuncData) (ps:List Str) (sp:Sp):Prop where
 len:∀ vs H Q E,sp vs H Q E->vs.length=ps.length
 run:∀ (A:Around) (outer:List Env) (s:Shared) (H:Hp) (args:Args) (us:List Value) (vs:List V) (Q:VK) (E:XK),Room k A->Env0 P w K mg base A outer s H->BindsTo s fd args (ps.zip us)->Vals vs us->sp vs H Q E →
  codeAny (model P w) A (.call (.ref f) args) (CR CX outer P w H s Q E) s
theorem Env0.make{P:Program}{w:World}{K:PySem.W.Frag}{mg:Str->Option Value}{base:Heap}{A:Around}{outer:List Env}{s:Shared}{H:Hp}(e:Env0 P w K mg base A outer s H)(C:Addr)(us:List Value)(kw:List (Str × Value)) :
    Env0 P w K mg base (A.under (.builtin "type.__call__" ⟨.ref C::us,kw⟩)) outer s H:=⟨by first | exact e.frames | (simpa [Around.under,Code.envs,Code.isFrame,pushEnvs] using e.frames),e.mod,e.bs,e.bsz,e.funs,e.frf,e.hok,e.bare⟩
section
variable {X:Cx}{pins:List (Addr × Obj)}{σ:St}{H:Hp}{s s':Shared}
theorem Inv.env0(I:Inv X pins σ H s):Env0 X.prog X.w X.K X.mg X.base X.A X.stack s H:=
 ⟨I.ok.frames,I.ok.mod,I.bs,Nat.le_trans I.ok.bsz I.sz,I.stack,I.stkFree,I.hok,I.bare⟩
theorem Inv.after{Q:VK}{u:Value}(I:Inv X pins σ H s)(h:CE X.stack X.prog X.w H s Q u s'):EP X pins σ Q u s':=by
 obtain ⟨v,H',os,bare,un,hok,r,q⟩:=h;obtain ⟨hh,g,d,t,os'⟩:=s';obtain rfl:os'=s.os:=os;exact ⟨v,H',I.call (h':=hh) (g':=g) (d':=d) (t':=t) (ch:=[]) un hok bare (fun b z=>absurd z (by simp)),r,q⟩
end
def u8(sp:Sp)(dvs:List V)(E:XK)(t:TA):TE:=fun σ H Q=>t σ H fun vs H1=>sp (vs++dvs) H1 Q E
def u9(C:Addr)(sp:Sp)(dvs:List V)(E:XK)(t:TA):TE:=fun σ H Q=>t σ H fun vs H1=>∀ x dx,H1 x=none->H1 dx=none->dx≠x →
 sp (.ref x::(vs++dvs)) (upd (upd H1 dx (.own x)) x (.ins C dx [])) (fun v H2=>v=.non/\Q (.ref x) H2) E
def Binds(K:PySem.W.Frag)(fd:FuncData)(ps:List Str)(ds:List Value):Prop:=
 ∀ (s:Shared) (us:List Value),K.In s.heap->(us++ds).length=ps.length->BindsTo s fd ⟨us,[]⟩ (ps.zip (us++ds))
theorem Binds.all{K:PySem.W.Frag}{fd:FuncData}{ps:List Str}(h:∀ us:List Value,us.length=ps.length->bindArgs fd ⟨us,[]⟩=pure (ps.zip us)):Binds K fd ps []:=fun s us _ hl=>by
 rw[List.append_nil] at hl ⊢;exact .of_eq (h us hl)
def dS(CX:CXT)(X:Cx)(E:XK):Prop:=∀ (pins:List (Addr × Obj)) (σ:St) (H:Hp) (s:Shared) (e:Value) (s':Shared),Inv X pins σ H s->CX X.stack H s E e s'->X.xe e s'
section
variable {X:Cx}{CX:CXT}{k:Nat}{f C:Addr}{fd:FuncData}{ps:List Str}{sp:Sp}{dvs:List V}{ds:List Value}{E:XK}{x m:Str}{p pos apos:Pos}{e o:Expr}{es:List Expr}{ta:TE}{t:TA}
theorem tw{pins:List (Addr × Obj)}{σ:St}{H:Hp}{s:Shared}{Q:VK}{us:List Value}{vs:List V}(F:FnOk X.prog X.w X.K X.mg X.base CX k f fd ps sp)(hr:Room k X.A)(hb:Binds X.K fd ps ds)(hd:Vals dvs ds)(hx:dS CX X E)
    (I:Inv X pins σ H s) (r:Vals vs us) (h:sp (vs++dvs) H Q E):wpAny (model X.prog X.w) X.A (call (.ref f) us) (EP X pins σ Q) X.xe s:=by
 have r2:Vals (vs++dvs) (us++ds):=r.append hd;have hl:(us++ds).length=ps.length:=by rw[<- r2.length];exact F.len _ _ _ _ h
 refine wpAny_call (codeAny_mono (F.run X.A X.stack s H ⟨us,[]⟩ (us++ds) (vs++dvs) Q E hr I.env0 (hb s us I.kIn hl) r2 h) fun r s' hq=>?_)
 cases r with
 |error e=>exact hx pins σ H s e s' I hq
 |ok fl=>
  cases fl with
  |ret u=>exact I.after hq
  |next=>exact False.elim hq
  |brk=>exact False.elim hq
  |cont=>exact False.elim hq
theorem ju(F:FnOk X.prog X.w X.K X.mg X.base CX k f fd ps sp)(hr:Room k X.A)(hg:Gl X x)(hm:X.mg x=some (.ref f))(hk:PySem.W.keepIn X.K (.ref f)=true)(hb:Binds X.K fd ps ds)(hd:Vals dvs ds)(hx:dS CX X E)
    (ha:PA X (e::es) t) (hdb:(x == ("__debug__" : Str))=false:=by decide) (he:starEach (e::es) X.env=(false,eval e X.env)::starEach es X.env:=by rfl) (hpl:(backTo pos (starEach es X.env)).any (·.1)=false:=by rfl) :
    PE X (.Call (.Name x p) (e::es) [] pos) (u8 sp dvs E t):=by
 intro pins s σ H Q I h;refine wpAny_Call_Name_kw (fo I hg hm ?_ hdb);refine PySem.W.callWith_K (h₀:=X.base) I.ok.mod.kin hk (thn (ha pos pins s σ H _ I h) fun us s1 ⟨vs,H1,I1,r,q⟩=>⟨I1.kIn,?_⟩) he hpl;exact tw F hr hb hd hx I1 r q
structure Mk (K:PySem.W.Frag) (C f:Addr):Prop where
 makes:PySem.W.makesIn K C=true
 init:PySem.W.findIn K (.ref C) "__init__" = some (some (.ref f))
 fn:PySem.W.isFn K (.ref f)=true
 kp:PySem.W.keepIn K (.ref C)=true
theorem pJ{pins:List (Addr × Obj)}{σ:St}{H:Hp}{s:Shared}{Q:VK}{us:List Value}{vs:List V}(M:Mk X.K C f)(F:FnOk X.prog X.w X.K X.mg X.base CX k f fd ps sp)(hr:Room (k+1) X.A)(hb:Binds X.K fd ps ds)(hd:Vals dvs ds)
    (hx:dS CX X E) (I:Inv X pins σ H s) (r:Vals vs us)
    (h:∀ x dx,H x=none->H dx=none->dx≠x->sp (.ref x::(vs++dvs)) (upd (upd H dx (.own x)) x (.ins C dx [])) (fun v H2=>v=.non/\Q (.ref x) H2) E) :
    wpAny (model X.prog X.w) X.A (call (.ref C) us) (EP X pins σ Q) X.xe s:=by
 have hq:=h (s.heap.objs.size+1) s.heap.objs.size (I.hok.fresh (Nat.le_succ _)) (I.hok.fresh (Nat.le_refl _)) (Nat.ne_of_lt (Nat.lt_succ_self _));have I2:=Inv.made (C:=C) I;have r2:Vals (V.ref (s.heap.objs.size+1)::(vs++dvs)) (Value.ref (s.heap.objs.size+1)::(us++ds)):=.cons rfl (r.append hd);have hl:(Value.ref (s.heap.objs.size+1)::us++ds).length=ps.length:=by
  have e:=r2.length;rw[F.len _ _ _ _ hq] at e;exact e.symm
 refine wpAny_call (pI (f:=f) I.kIn M.makes M.init (beq_iff_eq.mp M.fn) (codeAny_mono (F.run _ X.stack _ _ ⟨Value.ref (s.heap.objs.size+1)::us,[]⟩ (Value.ref (s.heap.objs.size+1)::(us++ds)) _ _ E (hr.make C us [])
  (I2.env0.make C us []) (hb _ (Value.ref (s.heap.objs.size+1)::us) I2.kIn hl) r2 hq) fun r s' hq'=>?_))
 cases r with
 |error e=>exact hx pins σ _ _ e s' I2 hq'
 |ok fl=>
  cases fl with
  |ret u=>
   obtain ⟨v,H',I3,rv,ev,q3⟩:=I2.after hq';subst ev;exact ⟨rv,⟨V.ref (s.heap.objs.size+1),H',I3,rfl,q3⟩⟩
  |next=>exact False.elim hq'
  |brk=>exact False.elim hq'
  |cont=>exact False.elim hq'
theorem qY(M:Mk X.K C f)(F:FnOk X.prog X.w X.K X.mg X.base CX k f fd ps sp)(hr:Room (k+1) X.A)(hg:Gl X x)(hm:X.mg x=some (.ref C))(hb:Binds X.K fd ps ds)(hd:Vals dvs ds)(hx:dS CX X E)
    (ha:PA X (e::es) t) (hdb:(x == ("__debug__" : Str))=false:=by decide) (he:starEach (e::es) X.env=(false,eval e X.env)::starEach es X.env:=by rfl) (hpl:(backTo pos (starEach es X.env)).any (·.1)=false:=by rfl) :
    PE X (.Call (.Name x p) (e::es) [] pos) (u9 C sp dvs E t):=by
 intro pins s σ H Q I h;refine wpAny_Call_Name_kw (fo I hg hm ?_ hdb);refine PySem.W.callWith_K (h₀:=X.base) I.ok.mod.kin M.kp (thn (ha pos pins s σ H _ I h) fun us s1 ⟨vs,H1,I1,r,q⟩=>⟨I1.kIn,?_⟩) he hpl;exact pJ M F hr hb hd hx I1 r q
end
section
variable {X:Cx}{CX:CXT}{k:Nat}{f C:Addr}{fd:FuncData}{ps ks:List Str}{sp:Sp}{E:XK}{x m:Str}{p pos apos kpos:Pos}{e o:Expr}{es:List Expr}{kws:List Keyword}{te ta:TE}{t tk:TA}{nm:Option Str}
structure KBinds (K:PySem.W.Frag) (fd:FuncData) (ps ks:List Str) (g:List Value->List Value->List Value) (gV:List V->List V->List V):Prop where
 to:∀ (s:Shared) (us ws:List Value),K.In s.heap->(g us ws).length=ps.length->BindsTo s fd ⟨us,ks.zip ws⟩ (ps.zip (g us ws))
 rel:∀ {vs:List V} {us:List Value} {zs:List V} {ws:List Value},Vals vs us->Vals zs ws->Vals (gV vs zs) (g us ws)
variable {g:List Value->List Value->List Value}{gV:List V->List V->List V}
end
structure FnScope (N P:List Str) (sc:Scope):Prop where
 kind:sc.kind=.function
 co:sc.isCoroutine=false
 gen:sc.isGenerator=false
 nd:N.Nodup
 pre:N.take P.length=P
 par:∀ x∈P,sc.names.lookup x=some .local\/sc.names.lookup x=some .cell
 nofree:∀ y∈sc.names,y.2≠.free
theorem jS{kindOf:Str->Option NameKind}{x:Str}:∀ {binds:List (Str × Value)} {m:Str->Option Value},(∀ v,(x,v)∉binds)->bindL kindOf binds m x=m x
 | [],_,_=>rfl
 | (n,v)::r,m,h=>by
  unfold bindL;rw[jS fun w hw=>h w (List.mem_cons_of_mem _ hw)];split
  ·have:x≠n:=by rintro rfl;exact h v List.mem_cons_self
   simp[this]
  ·rfl
theorem jT{kindOf:Str->Option NameKind}{x:Str}:∀ {binds:List (Str × Value)} {m:Str->Option Value},(∀ v,(x,v)∉binds)->bindC kindOf binds m x=m x
 | [],_,_=>rfl
 | (n,v)::r,m,h=>by
  unfold bindC;rw[jT fun w hw=>h w (List.mem_cons_of_mem _ hw)];split
  ·rfl
  ·have:x≠n:=by rintro rfl;exact h v List.mem_cons_self
   simp[this]
theorem jU{kindOf:Str->Option NameKind}{x:Str}{v:Value}:∀ {P:List Str} {vs:List Value} {i:Nat} {m:Str->Option Value},P.Nodup->P[i]?=some x->vs[i]?=some v->kindOf x=some .local →
    bindL kindOf (P.zip vs) m x=some v
 | [],_,_,_,_,h,_,_=>by simp at h
 |_::_,[],_,_,_,_,h,_=>by simp at h
 |p::P,w::vs,0,m,nd,h1,h2,hk=>by
  simp at h1 h2;subst h1;subst h2;show bindL kindOf ((p,w)::P.zip vs) m p=_;unfold bindL;rw[jS fun v hv=>(List.nodup_cons.mp nd).1 (List.of_mem_zip hv).1,if_pos hk];simp
 |p::P,w::vs,i+1,m,nd,h1,h2,hk=>by
  show bindL kindOf ((p,w)::P.zip vs) m x=_;unfold bindL;exact jU (i:=i) (List.nodup_cons.mp nd).2 (by simpa using h1) (by simpa using h2) hk
theorem jV{kindOf:Str->Option NameKind}{x:Str}{v:Value}:∀ {P:List Str} {vs:List Value} {i:Nat} {m:Str->Option Value},P.Nodup->P[i]?=some x->vs[i]?=some v->kindOf x≠some .local →
    bindC kindOf (P.zip vs) m x=some v
 | [],_,_,_,_,h,_,_=>by simp at h
 |_::_,[],_,_,_,_,h,_=>by simp at h
 |p::P,w::vs,0,m,nd,h1,h2,hk=>by
  simp at h1 h2;subst h1;subst h2;show bindC kindOf ((p,w)::P.zip vs) m p=_;unfold bindC;rw[jT fun v hv=>(List.nodup_cons.mp nd).1 (List.of_mem_zip hv).1,if_neg hk];simp
 |p::P,w::vs,i+1,m,nd,h1,h2,hk=>by
  show bindC kindOf ((p,w)::P.zip vs) m x=_;unfold bindC;exact jV (i:=i) (List.nodup_cons.mp nd).2 (by simpa using h1) (by simpa using h2) hk
def dM(N:List Str)(vs:List V):St:=vs.map some++List.replicate (N.length - vs.length) none
def fP(CX:CXT)(P:Program)(w:World)(K:PySem.W.Frag)(mg:Str->Option Value)(base:Heap)(N:List Str)(qual:Str)(scope:Scope)(f:Addr)(cd:Value)(A:Around)(outer:List Env)(s:Shared)(H:Hp)(E:XK):Cx where
 prog:=P
 w:=w
 K:=K
 mg:=mg
 base:=base
 A:=A.deeper (envOfC qual scope s.heap.objs.size f cd)
 N:=N
 s₀:=s
 H₀:=H
 env:=envOfC qual scope s.heap.objs.size f cd
 outer:=outer
 stack:=envOfC qual scope s.heap.objs.size f cd::outer
 ex:=[]
 calm:=true
 fn:=fun _=>true
 pn:=[]
 xe:=fun e s'=>wpAny (model P w) (A.deeper (envOfC qual scope s.heap.objs.size f cd)) (leaving (envOfC qual scope s.heap.objs.size f cd) e) (fun _ s''=>CX outer H s E e s'') (fun e' s''=>CX outer H s E e' s'') s'
theorem kN{sc:Scope}{n:Nat}{x:Str}(h:sc.names.lookup x=some .cell):∃ c,(cellsFrom n sc.names []).lookup x=some c:=by
 have q:=PySem.W.cellsFrom_some sc.names n [] (.inl h);exact Option.isSome_iff_exists.mp q
theorem nZ{CX:CXT}{P:Program}{w:World}{K:PySem.W.Frag}{mg:Str->Option Value}{base:Heap}{N ps:List Str}{qual:Str}{scope:Scope}{f:Addr}{cd:Value}{A:Around}{outer:List Env}{s s1:Shared}{H:Hp}{E:XK}{us:List Value}{vs:List V}
    (S:FnScope N ps scope) (hd:A.handled=none) (e0:Env0 P w K mg base A outer s H) (hl:vs.length=ps.length) (r:Vals vs us)
    (x:InCallC s s.heap.objs.size (bindL (envOfC qual scope s.heap.objs.size f cd).kindOf (ps.zip us) fun _=>none) (cellsFrom (s.heap.objs.size+1) scope.names []) (bindC (envOfC qual scope s.heap.objs.size f cd).kindOf (ps.zip us) fun _=>none) s1) :
    Inv (fP CX P w K mg base N qual scope f cd A outer s H E) [] (dM N vs) H s1:=by
 have hpl:ps.length<=N.length:=by have:=congrArg List.length S.pre;rw[List.length_take] at this;omega
 obtain ⟨h1,tk,rfl,hk⟩:=x.done;have noA:∀ b:Addr,b∉(fP CX P w K mg base N qual scope f cd A outer s H E).ex:=fun b z=>absurd (show b∈([]:List Addr) from z) (by simp)
 refine ⟨⟨e0.mod,S.kind,rfl,rfl,Nat.le_refl _,fun y z c h1 h2=>?_,fun y hy=>?_,fun y c _ h=>?_,fun _=>hd,Around.frames_deeper e0.frames,.inr ⟨rfl,rfl⟩,fun b z=>absurd z (noA b),e0.bs,e0.bsz,fun b _ _=>noA b,fun b z=>absurd z (noA b),e0.funs,e0.frf⟩,
  rfl,e0.bare,Un.kept hk,⟨_,x.toInCall.ns,fun i y v h1 h2 h3=>?_⟩,fun y c h=>⟨_,x.cell y c h⟩,e0.hok.fresh (Nat.le_refl _),fun y c h=>?_,fun p hp=>absurd (show p∈([]:List (Addr × Obj)) from hp) (by simp),e0.hok.kept hk,?_⟩
 ·exact name_of_addr x.apart (PySem.mem_of_lookup h1) (PySem.mem_of_lookup h2)
 ·have hy:scope.names.lookup y=some .cell\/scope.names.lookup y=some .free:=hy
  rcases hy with hy | hy
  ·exact kN hy
  ·exact absurd rfl (S.nofree _ (PySem.mem_of_lookup hy))
 ·exact Nat.le_of_lt (x.above y c (PySem.mem_of_lookup h))
 ·have hi:i<vs.length:=by
     unfold dM at h2;by_cases hi:i<vs.length
     ·exact hi
     ·rw[List.getElem?_append_right (by simpa using hi)] at h2
      rw[List.getElem?_replicate] at h2;split at h2<;>cases h2
  have ha:vs[i]?=some v:=by
   unfold dM at h2;rw[List.getElem?_append_left (by simpa using hi),List.getElem?_map] at h2
   cases e:vs[i]? with
   |none=>rw[e] at h2;cases h2
   |some a=>rw[e] at h2;cases h2;rfl
  obtain ⟨u,hu,rv⟩:=r.get ha;have hp:ps[i]?=some y:=by
   rw[<- S.pre,List.getElem?_take_of_lt (by omega)];exact h1
  have ndP:ps.Nodup:=by rw[<- S.pre];exact S.nd.sublist (List.take_sublist _ _)
  refine ⟨u,rv,?_⟩;rcases S.par y (List.mem_of_getElem? hp) with k | k
  ·exact .inl ⟨k,jU ndP hp hu k⟩
  ·obtain ⟨c,e⟩:=kN (n:=s.heap.objs.size+1) k
   refine .inr ⟨.inl k,c,e,?_⟩;have q:=x.cell y c e;rw[jV ndP hp hu (by show scope.names.lookup y≠_;rw[k];decide)] at q;exact q
 ·exact e0.hok.fresh (Nat.le_of_lt (x.above y c (PySem.mem_of_lookup h)))
 ·unfold dM
  show _=N.length;rw[List.length_append,List.length_map,List.length_replicate];omega
theorem va{CX:CXT}{P:Program}{w:World}{K:PySem.W.Frag}{mg:Str->Option Value}{base:Heap}{k:Nat}{f:Addr}{name qual:Str}{params:Arguments}{body:List Stmt}{scope:Scope}{dV kV doc pm cdv ct oc:Value}{an od:Option Addr}
    {osl:Array (Option Value)} {N ps:List Str} {sp:Sp} (lk:K.lookup f=some ⟨oc,od,.func (PySem.W.fnOf name qual params body scope dV kV doc pm an cdv ct),osl⟩) (hcd:PySem.W.codeIn K cdv qual=true) (S:FnScope N ps scope)
    (len:∀ vs H Q E,sp vs H Q E->vs.length=ps.length)
    (hbody:∀ (A:Around) (outer:List Env) (s:Shared) (H:Hp) (vs:List V) (Q:VK) (E:XK),Room k (A.deeper (envOfC qual scope s.heap.objs.size f cdv))->sp vs H Q E →
     ∃ t,PSs (fP CX P w K mg base N qual scope f cdv A outer s H E) body t/\t { nx:=fun _ H'=>Q .non H',rt:=Q } (dM N vs) H) :
    FnOk P w K mg base CX (k+1) f (PySem.W.fnOf name qual params body scope dV kV doc pm an cdv ct) ps sp:=by
 refine ⟨len,fun A outer s H args us vs Q E hr e0 hb r hsp=>?_⟩;have hl:=len _ _ _ _ hsp;have KX:K.In s.heap:=e0.mod.kin.keeps fun b o e=>(e0.bs b o e).1;have lim:s.heap.NoLimit:=e0.mod.nolimit.keeps fun b o e=>(e0.bs b o e).1
 have hkind:∀ y∈ps.zip us,scope.names.lookup y.1=some .local\/(scope.names.lookup y.1=some .cell/\((cellsFrom (s.heap.objs.size+1) scope.names []).lookup y.1).isSome=true):=fun ⟨n,v⟩ hy=>by
  rcases S.par n (List.of_mem_zip hy).1 with q | q
  ·exact .inl q
  ·exact .inr ⟨q,PySem.W.cellsFrom_some _ _ _ (.inl q)⟩
 refine codeAny_call_function hr.depth (KX _ _ lk) rfl S.co S.gen rfl (PySem.W.codeRec_of KX hcd) (hb _ _ _ _ ?_);refine wpAny_newFunctionEnv_cells S.kind hkind fun env he s1 x=>?_;subst he;refine ⟨lim.keeps x.toInCall.keep,codeAny_func ?_⟩;obtain ⟨t,ht,hq⟩:=hbody A outer s H vs Q E (hr.deeper _) hsp
 have I:Inv (fP CX P w K mg base N qual scope f cdv A outer s H E) [] (dM N vs) H s1:=nZ S hr.hd e0 hl r x;refine wpAny_mono (ht [] s1 (dM N vs) H _ I hq) (fun fl s' hs=>?_) fun e s' hs=>hs;have fin:∀ {σ':St} {H':Hp} {v:V} {u:Value},Inv (fP CX P w K mg base N qual scope f cdv A outer s H E) [] σ' H' s'->RelV v u->Q v H'->CE outer P w H s Q u s':=
  fun {σ' H' v u} J rv q=>⟨v,H',J.os,J.bare,J.base,J.hok,rv,q⟩
 cases fl with
 |ret u=>
  obtain ⟨v,σ',H',J,rv,q⟩:=hs;exact fin J rv q
 |next=>
  obtain ⟨σ',H',J,q⟩:=hs;exact fin (v:=V.non) (u:=Value.none) J rfl q
 |brk=>
  obtain ⟨_,_,_,q⟩:=hs;exact False.elim q
 |cont=>
  obtain ⟨_,_,_,q⟩:=hs;exact False.elim q
section
variable {X:Cx}{x:Str}{p pos:Pos}{e:Expr}{es:List Expr}{t:TA}{id T:String}{r:List V->Hp->VK->Prop}
def tCB(r:List V->Hp->VK->Prop)(t:TA):TE:=fun σ H Q=>t σ H fun vs H1=>r vs H1 Q
theorem kO(hc:CallR X (.builtin id) r)(hg:Gl X x)(hm:X.mg x=none)(hv:bootBuiltins x=some (.builtin id))(ha:PA X (e::es) t)(hn:x ≠ "__name__" := by decide)(hdb:(x == ("__debug__" : Str))=false:=by decide)
    (he:starEach (e::es) X.env=(false,eval e X.env)::starEach es X.env:=by rfl) (hpl:(backTo pos (starEach es X.env)).any (·.1)=false:=by rfl):PE X (.Call (.Name x p) (e::es) [] pos) (tCB r t):=by
 intro pins s σ H Q I h;refine wpAny_Call_Name_kw (eo I hg hm hv ?_ hn hdb);exact PyProof.Rows.callWith_builtin1 (thn (ha pos pins s σ H _ I h) fun us s1 ⟨vs,H1,I1,r1,q1⟩=>hc pins s1 σ H1 vs us Q I1 r1 q1) he hpl
theorem jW(hc:CallR X (.type T) r)(hg:Gl X x)(hm:X.mg x=none)(hv:bootBuiltins x=some (.type T))(ha:PA X (e::es) t)(hn:x ≠ "__name__" := by decide)(hdb:(x == ("__debug__" : Str))=false:=by decide)
    (he:starEach (e::es) X.env=(false,eval e X.env)::starEach es X.env:=by rfl) (hpl:(backTo pos (starEach es X.env)).any (·.1)=false:=by rfl):PE X (.Call (.Name x p) (e::es) [] pos) (tCB r t):=by
 intro pins s σ H Q I h;refine wpAny_Call_Name_kw (eo I hg hm hv ?_ hn hdb);exact PyProof.Rows.callWith_type1 (thn (ha pos pins s σ H _ I h) fun us s1 ⟨vs,H1,I1,r1,q1⟩=>hc pins s1 σ H1 vs us Q I1 r1 q1) he hpl
end
end L2
namespace HT
open PySem PyProof.Rows
section
open PySem.SeqAt
open PySem.AutoSeq1 (wpAny_loadPart')
open PySem.MeetsSeq PySem.MeetsSeq2 PySem.MeetsSeq3
end
section
variable {prog:Program}{w:World}{A:Around}{E:Value->Shared->Prop}{s:Shared}
end
end HT
namespace L2
open PySem PySem.Spec PyProof.Rows
abbrev TO:=St->Hp->(Option Int->Hp->Prop)->Prop
def PO(X:Cx)(e:Option Expr)(t:TO):Prop:=
 ∀ (pins:List (Addr × Obj)) (s:Shared) (σ:St) (H:Hp) (Q:Option Int->Hp->Prop),Inv X pins σ H s->t σ H Q →
  wpAny (model X.prog X.w) X.A (evalPart e X.env) (fun u s'=>∃ o H',Inv X pins σ H' s'/\IsPart u o/\Q o H') X.xe s
theorem mU{ns:List Int}:∀ {us:List Value},Vals (ns.map V.int) us->IntsAre us ns:=by
 induction ns with
 |nil=>intro us r;rw[List.map_nil] at r;cases r;exact .nil
 |cons n ns ih=>
  intro us r;rw[List.map_cons] at r
  cases r with
  |cons r1 r2=>
   obtain ⟨t,e⟩:=r1;subst e;exact .cons n t (ih r2)
section
variable {X:Cx}{e:Expr}{te:TE}{lo hi:Option Expr}{tl th:TO}{pos p2:Pos}
end
def ixN(n:Nat)(i:Int):Option Nat:=if 0<=i then (if i<n then some i.toNat else none) else if -(n:Int)<=i then some (i+n).toNat else none
def atI{α:Type}(xs:List α)(i:Int):Option α:=(ixN xs.length i).bind fun j=>xs[j]?
theorem l6{n:Nat}{i:Int}{j:Nat}(h:ixN n i=some j):seqIndex? i n=some j/\j<n/\-(n:Int)<=i/\i<n:=by
 unfold ixN at h;by_cases h0:0<=i
 ·rw[if_pos h0] at h
  by_cases h1:i<n
  ·rw[if_pos h1] at h
   have e:i.toNat=j:=Option.some.inj h;exact ⟨by rw[seqIndex_of h0 h1,e],by omega,by omega,h1⟩
  ·rw[if_neg h1] at h;cases h
 ·rw[if_neg h0] at h
  by_cases h1:-(n:Int)<=i
  ·rw[if_pos h1] at h
   have e:(i+n).toNat=j:=Option.some.inj h;exact ⟨by rw[seqIndex_neg (by omega) h1,e],by omega,h1,by omega⟩
  ·rw[if_neg h1] at h;cases h
theorem gP{α:Type}{xs:List α}{i:Int}{v:α}(h:atI xs i=some v):∃ j,seqIndex? i xs.length=some j/\xs[j]?=some v/\j<xs.length/\-(xs.length:Int)<=i/\i<xs.length:=by
 unfold atI at h
 cases e:ixN xs.length i with
 |none=>rw[e] at h;cases h
 |some j=>
  rw[e] at h;obtain ⟨h1,h2,h3,h4⟩:=l6 e;exact ⟨j,h1,h,h2,h3,h4⟩
def jv(b:Expr):Prop:=∀ o i,subscripted b false o i=operate [o,i] (getItem o i)
def IxR(X:Cx)(r:R2):Prop:=
 ∀ (value slice:Expr) (pins:List (Addr × Obj)) (s:Shared) (σ:St) (H:Hp) (x y:V) (v u:Value) (Q:VK),Inv X pins σ H s->RelV x v->RelV y u->r x y H Q →
  subscripted slice false v u=operate [v,u] (getItem v u)->wpAny (model X.prog X.w) X.A (subscriptTail value slice v u) (EP X pins σ Q) X.xe s
def MtR(X:Cx)(id:String)(r:V->List V->Hp->VK->Prop):Prop:=
 ∀ (pins:List (Addr × Obj)) (s:Shared) (σ:St) (H:Hp) (x:V) (xs:List V) (v:Value) (us:List Value) (Q:VK),Inv X pins σ H s->RelV x v->Vals xs us->r x xs H Q →
  wpAny (model X.prog X.w) X.A (call (.builtin id) (v::us)) (EP X pins σ Q) X.xe s
section
variable {X:Cx}{a b:Expr}{ta tb:TE}{pos:Pos}
theorem IxR.or{r r':R2}(h:IxR X r)(h':IxR X r'):IxR X (fun x y H Q=>r x y H Q\/r' x y H Q):=by
 intro value slice pins s σ H x y v u Q I rx ry q hs;rcases q with q | q
 ·exact h value slice pins s σ H x y v u Q I rx ry q hs
 ·exact h' value slice pins s σ H x y v u Q I rx ry q hs
theorem vb{r:R2}(hr:IxR X r)(ha:PE X a ta)(hb:PE X b tb)(hs:jv b):PE X (.Subscript a b pos) (tOp r ta tb):=by
 intro pins s σ H Q I h;exact Subscript_ (pF ha hb I h fun v u s2 x y H2 I2 rx ry q=>hr a b pins s2 σ H2 x y v u Q I2 rx ry q (hs _ _))
def tz(K:PySem.W.Frag):R2:=fun x y H Q=>∃ p xs i v,x=.ref p/\y=.int i/\SqL K H p xs/\atI xs i=some v/\Q v H
def tD(K:PySem.W.Frag):R2:=fun x y H Q=>∃ p xs i v,x=.ref p/\y=.int i/\SqT K H p xs/\atI xs i=some v/\Q v H
def tE:R2:=fun x y H Q=>∃ z i c,x=.str z/\y=.int i/\z.length<=sizeLine/\atI z.cps.toList i=some c/\Q (.str ⟨#[c]⟩) H
theorem ix_list:IxR X (tz X.K):=by
 intro value slice pins s σ H x y v u Q I rx ry h hs;obtain ⟨p,xs,i,z,rfl,rfl,hq,he,q⟩:=h
 cases rx
 obtain ⟨t,rfl⟩:=ry;obtain ⟨its,r,pl,hz⟩:=I.list hq;obtain ⟨j,h1,h2,h3,h4,h5⟩:=gP he;obtain ⟨w,ew,rw'⟩:=r.get h2;have hl:=r.length;have hn:=gm;have fin:EP X pins σ Q w s:=⟨z,H,I,rw',q⟩
 by_cases h0:0<=i
 ·have hj:i.toNat=j:=by
     rw[seqIndex_of h0 h5] at h1;exact Option.some.inj h1
  exact item_listR pl.isList h0 (by omega) (by rw[hj];simpa using ew) fin hs
 ·have hj:(i+(its.toArray.size:Int)).toNat=j:=by
     rw[seqIndex_neg (by omega) h4] at h1;rw[List.size_toArray,<- hl];exact Option.some.inj h1
  exact subscriptTail_builtinR (x:=w) pl.isList.typeIs slot_list_getitem.lookup
   (wpAny_getItem_list_neg (Q:=fun r s'=>r=w/\EP X pins σ Q r s') pl.isList (by omega) (by rw[List.size_toArray] <;> omega) (by omega) (by rw[hj];simpa using ew) ⟨rfl,fin⟩) hs
theorem ix_tup:IxR X (tD X.K):=by
 intro value slice pins s σ H x y v u Q I rx ry h hs;obtain ⟨p,xs,i,z,rfl,rfl,hq,he,q⟩:=h
 cases rx
 obtain ⟨t,rfl⟩:=ry;obtain ⟨its,r,pl,hz⟩:=I.tuple hq;obtain ⟨j,h1,h2,h3,h4,h5⟩:=gP he;obtain ⟨w,ew,rw'⟩:=r.get h2;have hl:=r.length;have hn:=gm;have fin:EP X pins σ Q w s:=⟨z,H,I,rw',q⟩
 exact subscriptTail_builtinR (x:=w) pl.typeIs slot_tuple_getitem.lookup
  (getItem_tuple (j:=j) (Q:=fun r s'=>r=w/\EP X pins σ Q r s') pl (by omega) (by omega) (by rw[List.size_toArray,<- hl];exact h1) (by simpa using ew) ⟨rfl,fin⟩) hs
theorem tF:IxR X tE:=by
 intro value slice pins s σ H x y v u Q I rx ry h hs;obtain ⟨z,i,c,rfl,rfl,hz,he,q⟩:=h;obtain ⟨t,rfl⟩:=rx;obtain ⟨t',rfl⟩:=ry;obtain ⟨j,h1,h2,h3,h4,h5⟩:=gP he;have hl:z.cps.toList.length=z.length:=by simp[Str.length]
 rw[hl] at h1 h4 h5;have hn:=gm;exact tail_any (typeIs_str s z t) slot_str_getitem.lookup (getItem_str (c:=c) (by
  have e1:decide (i < -(2 ^ 63:Int))=false:=decide_eq_false (by omega)
  have e2:decide (i ≥ 2 ^ 63)=false:=decide_eq_false (by omega)
  rw[e1,e2,Bool.or_false]) (by rw[h1];simpa using h2) ⟨.str ⟨#[c]⟩,H,I.tok _,⟨_,rfl⟩,q⟩) hs
def rIx(K:PySem.W.Frag):R2:=fun x y H Q=>tz K x y H Q\/tD K x y H Q\/tE x y H Q
theorem tG:IxR X (rIx X.K):=ix_list.or (ix_tup.or tF)
theorem kP:CallR X (.builtin "len") (fun xs H Q=>∃ p ys,xs=[.ref p]/\(SqL X.K H p ys\/SqT X.K H p ys)/\Q (.int ys.length) H):=by
 intro pins s σ H xs us Q I r h;obtain ⟨p,ys,rfl,hq,q⟩:=h;obtain ⟨u,rfl,rx⟩:=eO r
 cases rx
 have hn:=gm;rcases hq with hq | hq
 ·obtain ⟨its,r',pl,hz⟩:=I.list hq
  have hlen:=r'.length;exact Calls.call_len_list pl.isList (by simp only[List.size_toArray] <;> omega) ⟨.int ys.length,H,I.tok _,⟨s.toks+1,by rw[List.size_toArray,hlen]⟩,q⟩
 ·obtain ⟨its,r',pl,hz⟩:=I.tuple hq
  have hlen:=r'.length;exact len_tuple pl (by simp only[List.size_toArray] <;> omega) ⟨.int ys.length,H,I.tok _,⟨s.toks+1,by rw[List.size_toArray,hlen]⟩,q⟩
theorem kQ:CallR X (.builtin "len") (fun xs H Q=>∃ z,xs=[.str z]/\z.length<=sizeLine/\Q (.int z.length) H):=by
 intro pins s σ H xs us Q I r h;obtain ⟨z,rfl,hz,q⟩:=h;obtain ⟨u,rfl,t,rfl⟩:=eO r;have hn:=gm;exact len_str (by omega) ⟨.int z.length,H,I.tok _,⟨_,rfl⟩,q⟩
theorem CallR.or{f:Value}{r r':List V->Hp->VK->Prop}(h:CallR X f r)(h':CallR X f r'):CallR X f (fun xs H Q=>r xs H Q\/r' xs H Q):=by
 intro pins s σ H xs us Q I rs q;rcases q with q | q
 ·exact h pins s σ H xs us Q I rs q
 ·exact h' pins s σ H xs us Q I rs q
theorem kR:CallR X (.type "list") (fun xs H Q=>∃ p ys,xs=[.ref p]/\(SqL X.K H p ys\/SqT X.K H p ys)/\∀ l,H l=none->Q (.ref l) (upd H l (.lst ys))):=by
 intro pins s σ H xs us Q I r h;obtain ⟨p,ys,rfl,hq,q⟩:=h;obtain ⟨u,rfl,rx⟩:=eO r
 cases rx
 have fin:∀ (its:List Value),Vals ys its->ys.length<=sizeLine->∀ (h':Heap) (c':Nat),(∀ b o',s.heap.get? b=some o'->h'.get? b=some o') →
     h'.get? s.heap.objs.size=some { cls:=.type "list", dict:=none,data:=.seq its.toArray c',slots:=#[] }->EP X pins σ Q (.ref s.heap.objs.size) { s with heap:=h' }:=fun its r' hz h' c' kp e=>
  ⟨.ref s.heap.objs.size,_,I.laid (t':=s.toks) kp (Nat.le_refl _) (show ObjOk X.prog X.w _ h' _ (.lst ys) from ⟨hz,its,c',r',e⟩),rfl,q _ (I.hok.fresh (Nat.le_refl _))⟩
 rcases hq with hq | hq
 ·obtain ⟨its,r',pl,hz⟩:=I.list hq
  have hlen:=r'.length;obtain ⟨o,ho,hc,n,hd⟩:=pl.isList;exact call_list_seq p (.inl rfl) ho hc hd (fun h' c' kp e=>fin its r' hz h' c' kp e) (by simp only[List.size_toArray] <;> omega)
 ·obtain ⟨its,r',pl,hz⟩:=I.tuple hq
  have hlen:=r'.length;obtain ⟨o,ho,hc,n,hd⟩:=pl;exact call_list_seq p (.inr rfl) ho hc hd (fun h' c' kp e=>fin its r' hz h' c' kp e) (by simp only[List.size_toArray] <;> omega)
def tyV(K:PySem.W.Frag)(T:String)(x:V)(H:Hp):Prop:=match x with
 | .str _=>T = "str"
 | .int _=>T = "int"
 | .ref p=>(T = "list" /\ ∃ xs,SqL K H p xs)\/(T = "tuple" /\ ∃ o,K.lookup p=some o/\o.cls=.type "tuple" /\ o.dict=none) ∨
     (T = "dict" /\ ((∃ kvs,H p=some (.dK kvs))\/∃ kvs,H p=some (.dT kvs)))\/(T = "set" /\ ∃ S n,H p=some (.set S n))
 |_=>False
theorem tH{pins:List (Addr × Obj)}{σ:St}{H:Hp}{s:Shared}{T:String}{x:V}{v:Value}(I:Inv X pins σ H s)(r:RelV x v)(ty:tyV X.K T x H) :
    s.TypeIs v T/\∀ a,v=.ref a->∃ ob,s.heap.get? a=some ob/\ob.dict=none:=by
 cases x with
 |str z=>
  obtain ⟨t,rfl⟩:=r
  cases (show T = "str" from ty)
  exact ⟨typeIs_str s z t,fun _ e=>nomatch e⟩
 |int i=>
  obtain ⟨t,rfl⟩:=r
  cases (show T = "int" from ty)
  exact ⟨typeIs_int s i t,fun _ e=>nomatch e⟩
 |ref p=>
  cases r
  rcases ty with ⟨rfl,xs,hq⟩ | ⟨rfl,o,hk,hc,hd⟩ | ⟨rfl,hk⟩ | ⟨rfl,S,n,hk⟩
  ·obtain ⟨its,_,pl,_⟩:=I.list hq
   refine ⟨pl.isList.typeIs,fun a e=>?_⟩
   cases e
   obtain ⟨o,n,e,c,hd,_⟩:=pl;exact ⟨o,e,hd⟩
  ·refine ⟨⟨o,I.kIn p o hk,hc⟩,fun a e=>?_⟩
   cases e
   exact ⟨o,I.kIn _ o hk,hd⟩
  ·have z:∃ o,s.heap.get? p=some o/\o.ExactDict:=by
      rcases hk with ⟨kvs,hk⟩ | ⟨kvs,hk⟩
      ·obtain ⟨_,_,_,_,o,_,_,e,ex,_⟩:=I.hok p _ hk
       exact ⟨o,e,ex⟩
      ·obtain ⟨_,_,_,_,o,_,_,e,ex,_⟩:=I.hok p _ hk
       exact ⟨o,e,ex⟩
   obtain ⟨o,e,ex⟩:=z;refine ⟨⟨o,e,ex.1⟩,fun a e2=>?_⟩
   cases e2
   exact ⟨o,e,ex.2.1⟩
  ·obtain ⟨o,_,_,_,e,ex,_⟩:=I.hok p _ hk
   refine ⟨⟨o,e,ex.1⟩,fun a e2=>?_⟩
   cases e2
   exact ⟨o,e,ex.2.1⟩
 |_=>exact False.elim ty
def tBM(K:PySem.W.Frag)(T:String)(r:V->List V->Hp->VK->Prop)(to:TE)(t:TA):TE:=fun σ H Q=>to σ H fun x H1=>tyV K T x H1/\t σ H1 fun xs H2=>r x xs H2 Q
variable {o e:Expr}{es:List Expr}{to:TE}{t:TA}{name:Str}{apos cpos:Pos}{T id:String}{r:V->List V->Hp->VK->Prop}
theorem kA(pa:PlainAttrs T)(slot:Slot T name id)(hty:typeOf (.builtin id)=pure (.type "method_descriptor"))(hm:MtR X id r)(ho:PE X o to)(ha:PA X (e::es) t)
    (hbase:attributeBase o name X.env (eval o X.env)=eval o X.env:=by rfl)
    (hfew:((backTo cpos (starEach (e::es) X.env)).all (fun x=>!x.1)&&(backToKw cpos (keywordEach [] X.env)).all (fun x=>x.1.isSome)
     && decide ((e::es).length+([]:List Keyword).length+(if ([]:List Keyword).isEmpty then 0 else 1)<30))=true:=by rfl)
    (hline:(apos.endLine == cpos.line)=true:=by rfl) (hs:starEach (e::es) X.env=(false,eval e X.env)::starEach es X.env:=by rfl) (hplain:(backTo cpos (starEach es X.env)).any (·.1)=false:=by rfl) :
    PE X (.Call (.Attribute o name apos) (e::es) [] cpos) (tBM X.K T r to t):=by
 intro pins s σ H Q I h;refine wpAny_Call_method_late hbase hfew hline rfl (thn (ho pins s σ H _ I h) fun v s1 ⟨x,H1,I1,r1,ty,q1⟩=>?_);obtain ⟨h1,h2⟩:=tH I1 r1 ty;refine ⟨T,id,pa,slot,hty,h1,h2,?_⟩;have hA:=ha cpos pins s1 σ H1 _ I1 q1;rw[hs] at hA ⊢;refine Calls.callWith_builtin (by show (false||(backTo cpos (starEach es X.env)).any (·.1))=false;rw[hplain] <;> rfl) (Calls.evalArgs_plain ?_)
 exact thn hA fun us s2 ⟨vs,H2,I2,r2,q2⟩=>hm pins s2 σ H2 x vs v us Q I2 r1 r2 q2
/- xs.append(e),list.index on a module's tuple .. are MtR facts of 06m -/
end
def MtM(X:Cx)(id:String)(r:V->List V->Hp->VK->Prop):Prop:=
 ∀ (pins:List (Addr × Obj)) (s:Shared) (σ:St) (H:Hp) (x:V) (xs:List V) (v:Value) (us:List Value) (Q:VK),Inv X pins σ H s->RelV x v->Vals xs us->r x xs H Q →
  wpAny (model X.prog X.w) X.A (call (.builtin id) (v::us)) (EP X pins σ Q) X.xe s
theorem Vals.one:∀ {x:V} {us:List Value},Vals [x] us->∃ u,us=[u]/\RelV x u
 |_,_,.cons r .nil=>⟨_,rfl,r⟩
theorem Vals.eraseIdx:∀ {xs:List V} {us:List Value} (i:Nat),Vals xs us->Vals (xs.eraseIdx i) (us.eraseIdx i)
 |_,_,_,.nil=>.nil
 |_,_,0,.cons _ t=>t
 |_,_,i+1,.cons r t=>.cons r (Vals.eraseIdx i t)
theorem jX{α:Type}:∀ (l:List α) (i:Nat),(l.eraseIdx i).length<=l.length
 | [],_=>Nat.le_refl _
 |_::_,0=>Nat.le_succ _
 |_::r,i+1=>Nat.succ_le_succ (jX r i)
section
variable {X:Cx}{pins:List (Addr × Obj)}{σ:St}{H:Hp}{s:Shared}{l b:Addr}{xs ys zs:List V}
theorem Inv.lset{its its':List Value}{n:Nat}{f:Array Value->Array Value}{t':Nat}(I:Inv X pins σ H s)(hH:H l=some (.lst xs))
    (e:s.heap.get? l=some { cls:=.type "list", data:=.seq its.toArray n }) (hf:f its.toArray=its'.toArray) (hv:Vals ys its') (hz:ys.length<=sizeLine) :
    Inv X pins σ (upd H l (.lst ys)) { s with heap:=s.heap.update l (Obj.mapSeq f),toks:=t' }:=by
 have q:=PySem.IsL.update e f;rw[hf] at q;refine I.write (x:=l) (e:=l) (by rw[hH];exact trivial) (.inl rfl) (fun b' u hb hu=>(Heap.get?_update_other s.heap (Obj.mapSeq f) (Ne.symm hb)).trans hu) ⟨_,q⟩ ?_;exact ⟨hz,its',_,hv,q⟩
theorem Inv.lnew{its:List Value}{t':Nat}(I:Inv X pins σ H s)(hv:Vals ys its)(hz:ys.length<=sizeLine) :
    Inv X pins σ (upd H s.heap.objs.size (.lst ys)) { s with heap:=s.heap.push { cls:=.type "list", data:=.seq its.toArray },toks:=t' }:=
 I.laid (fun _ _ q=>Heap.get?_push_of_some _ q) (Nat.le_refl _) ⟨hz,its,0,hv,Heap.get?_push_size _ rfl⟩
theorem Inv.fresh(I:Inv X pins σ H s):H s.heap.objs.size=none:=I.hok.fresh (Nat.le_refl _)
theorem Inv.lstM(I:Inv X pins σ H s)(hH:H l=some (.lst xs)):xs.length<=sizeLine/\∃ (its:List Value) (n:Nat),Vals xs its/\xs.length=its.length/\s.heap.get? l=some { cls:=.type "list", data:=.seq its.toArray n }:=by
 obtain ⟨z,its,n,r,e⟩:=I.hok l _ hH;exact ⟨z,its,n,r,r.length,e⟩
theorem pK{n:Nat}(h:n<=sizeLine):Builtin.List.listTooLong n=false:=by
 unfold Builtin.List.listTooLong;exact decide_eq_false (by omega)
end
section
variable {X:Cx}
def qZ:V->List V->Hp->VK->Prop:=fun x vs H Q=>∃ l xs y,x=.ref l/\vs=[y]/\H l=some (.lst xs)/\xs.length<sizeLine/\Q .non (upd H l (.lst (xs++[y])))
theorem gp:MtM X "list.append" qZ:=by
 intro pins s σ H x vs v us Q I rx rv h;obtain ⟨l,xs,y,rfl,rfl,hH,hz,q⟩:=h
 cases rx
 obtain ⟨u,rfl,ru⟩:=rv.one;obtain ⟨z,its,n,r,hl,e⟩:=I.lstM hH;refine call_meets F.slot_list_append ⟨_,e,rfl⟩ F.entry_list_append (F.args_list_append_2 _ _) (PySem.list_append l its.toArray n u (by rw[List.size_toArray];omega)) ⟨e,?_⟩;refine ⟨.non,_,I.lset (its':=its++[u]) hH e (by simp) (r.append (.cons ru .nil)) ?_,rfl,q⟩;rw[List.length_append,List.length_singleton];omega
def q8:V->List V->Hp->VK->Prop:=fun x vs H Q=>∃ l b xs zs,x=.ref l/\vs=[.ref b]/\H l=some (.lst xs)/\H b=some (.lst zs)/\xs.length+zs.length<=sizeLine/\Q .non (upd H l (.lst (xs++zs)))
theorem n3:MtM X "list.extend" q8:=by
 intro pins s σ H x vs v us Q I rx rv h;obtain ⟨l,b,xs,zs,rfl,rfl,hH,hB,hz,q⟩:=h
 cases rx
 obtain ⟨u,rfl,ru⟩:=rv.one
 cases ru
 obtain ⟨z,its,n,r,hl,e⟩:=I.lstM hH;obtain ⟨z2,its2,n2,r2,hl2,e2⟩:=I.lstM hB;have hsz:its.toArray.size+its2.toArray.size<=sizeLine:=by rw[List.size_toArray,List.size_toArray];omega
 have hlong:¬ (!its.toArray.isEmpty&&Builtin.List.listTooLong (its.toArray.size+its2.toArray.size))=true:=by
  rw[pK hsz,Bool.and_false];exact Bool.false_ne_true
 refine call_meets F.slot_list_extend ⟨_,e,rfl⟩ F.entry_list_extend (F.args_list_extend_2 _ _)
  (AutoSeq1.list_extend_list_list_0 l its.toArray n b its2.toArray n2 hlong (by rw[List.size_toArray];omega) (by omega)) ⟨e,e2,?_⟩
 refine ⟨.non,_,I.lset (its':=its++its2) hH e (by simp) (r.append r2) ?_,rfl,q⟩;rw[List.length_append];omega
def tJ:V->List V->Hp->VK->Prop:=fun x vs H Q=>∃ l xs i k y,x=.ref l/\vs=[.int i]/\H l=some (.lst xs)/\-(2 ^ 63)<=i/\i<2 ^ 63/\seqIndex? i xs.length=some k/\xs[k]?=some y/\Q y (upd H l (.lst (xs.eraseIdx k)))
theorem pL:MtM X "list.pop" tJ:=by
 intro pins s σ H x vs v us Q I rx rv h;obtain ⟨l,xs,i,k,y,rfl,rfl,hH,h1,h2,hk,hy,q⟩:=h
 cases rx
 obtain ⟨u,rfl,ru⟩:=rv.one;obtain ⟨t,rfl⟩:=ru;obtain ⟨z,its,n,r,hl,e⟩:=I.lstM hH;obtain ⟨w,hw,rw'⟩:=r.get hy;refine call_meets F.slot_list_pop ⟨_,e,rfl⟩ F.entry_list_pop (F.args_list_pop_2 _ _)
  (MeetsSeq.list_pop_at l its.toArray n i t k w (fitsIndex_both h1 h2) (by rw[List.size_toArray,<- hl];exact hk) (by rw[<- Array.getElem?_toList];exact hw) (by rw[List.size_toArray];omega)) ⟨e,?_⟩
 refine ⟨y,_,I.lset (its':=its.eraseIdx k) hH e ?_ (r.eraseIdx k) ?_,rw',q⟩
 ·show its.toArray.eraseIdxIfInBounds k=(its.eraseIdx k).toArray
  rw[List.eraseIdxIfInBounds_toArray]
 ·have:=jX xs k
  omega
def wc:R2:=fun x y H Q=>∃ l b xs zs,x=.ref l/\y=.ref b/\H l=some (.lst xs)/\H b=some (.lst zs)/\xs.length+zs.length<=sizeLine/\∀ p,H p=none->Q (.ref p) (upd H p (.lst (xs++zs)))
theorem tK:OpR X (binaryOp .Add) wc:=by
 intro pins s σ H x y v u Q I rx ry h;obtain ⟨l,b,xs,zs,rfl,rfl,hH,hB,hz,q⟩:=h
 cases rx
 cases ry
 obtain ⟨z,its,n,r,hl,e⟩:=I.lstM hH;obtain ⟨z2,its2,n2,r2,hl2,e2⟩:=I.lstM hB;refine PySem.P.add_list e e2 ?_ (by rw[List.size_toArray,List.size_toArray];omega);have ea:its.toArray++its2.toArray=(its++its2).toArray:=by simp
 rw[ea];exact ⟨.ref _,_,I.lnew (t':=s.toks) (r.append r2) (by rw[List.length_append];omega),rfl,q _ I.fresh⟩
end
section
variable {prog:Program}{w:World}{A:Around}{E:Value->Shared->Prop}{s:Shared}
end
section
variable {X:Cx}
end
section
variable {κ:Type}[DecidableEq κ]
def cD(kvs:List (κ × V))(k:κ):Option V:=(kvs.find? fun kv=>decide (kv.1=k)).map (·.2)
def cB(kvs:List (κ × V))(k:κ)(v:V):List (κ × V):=
 if (kvs.any fun kv=>decide (kv.1=k))=true then kvs.map (fun kv=>if kv.1=k then (kv.1,v) else kv) else kvs++[(k,v)]
theorem et{p:κ × V}{r:List (κ × V)}{k:κ}(e:p.1=k):cD (p::r) k=some p.2:=by simp[cD,List.find?_cons,e]
theorem dc{p:κ × V}{r:List (κ × V)}{k:κ}(e:¬ p.1=k):cD (p::r) k=cD r k:=by simp[cD,List.find?_cons,e]
theorem kS(k:κ):∀ kvs:List (κ × V),(kvs.any fun kv=>decide (kv.1=k))=(cD kvs k).isSome
 | []=>rfl
 |p::r=>by
  rw[List.any_cons];by_cases e:p.1=k
  ·simp only[et e,decide_eq_true e,Bool.true_or,Option.isSome_some]
  ·rw[dc e,decide_eq_false e,Bool.false_or];exact kS k r
theorem ii(kvs:List (κ × V))(k:κ)(v:V):(cB kvs k v).length<=kvs.length+1:=by
 unfold cB;split
 ·rw[List.length_map];omega
 ·rw[List.length_append,List.length_cons,List.length_nil];omega
theorem RelO.isSome_eq{o:Option V}{u:Option Value}(r:RelO o u):o.isSome=u.isSome:=by
 cases o with
 |none=>cases u with
  |none=>rfl
  |some _=>exact (show False from r).elim
 |some _=>cases u with
  |none=>exact (show False from r).elim
  |some _=>rfl
theorem RelO.getD{o:Option V}{u:Option Value}{d:V}{d':Value}(r:RelO o u)(rd:RelV d d'):RelV (o.getD d) (u.getD d'):=by
 cases o with
 |none=>cases u with
  |none=>exact rd
  |some _=>exact (show False from r).elim
 |some _=>cases u with
  |none=>exact (show False from r).elim
  |some _=>exact r
theorem KV.val{kvs:List (κ × V)}{vs:List (κ × Value)}(r:KV kvs vs)(k:κ):RelO (cD kvs k) (valueAt vs k):=by
 unfold KV at r;induction r with
 |nil=>exact True.intro
 | @cons p q ps qs h t ih=>
  obtain ⟨h1,h2⟩:=h;by_cases e:p.1=k
  ·have e':q.1=k:=h1.symm.trans e
   have b:valueAt (q::qs) k=some q.2:=by simp[valueAt,List.find?_cons,e']
   rw[et e,b];exact h2
  ·have e':¬ q.1=k:=fun z=>e (h1.trans z)
   have b:valueAt (q::qs) k=valueAt qs k:=by simp[valueAt,List.find?_cons,e']
   rw[dc e,b];exact ih
theorem KV.any{kvs:List (κ × V)}{vs:List (κ × Value)}(r:KV kvs vs)(k:κ):(kvs.any fun kv=>decide (kv.1=k))=vs.any fun kv=>decide (kv.1=k):=by
 unfold KV at r;induction r with
 |nil=>rfl
 |cons h t ih=>rw[List.any_cons,List.any_cons,ih,h.1]
theorem KV.repl{kvs:List (κ × V)}{vs:List (κ × Value)}(r:KV kvs vs)(k:κ){y:V}{u:Value}(ry:RelV y u) :
    KV (kvs.map fun kv=>if kv.1=k then (kv.1,y) else kv) (vs.map fun kv=>if kv.1=k then (kv.1,u) else kv):=by
 unfold KV at r ⊢;induction r with
 |nil=>exact .nil
 | @cons p q ps qs h t ih=>
  rw[List.map_cons,List.map_cons];refine .cons ?_ ih;obtain ⟨h1,h2⟩:=h;by_cases e:p.1=k
  ·rw[if_pos e,if_pos (h1.symm.trans e)];exact ⟨h1,ry⟩
  ·rw[if_neg e,if_neg (fun z=>e (h1.trans z))];exact ⟨h1,h2⟩
theorem KV.put{kvs:List (κ × V)}{vs:List (κ × Value)}(r:KV kvs vs)(k:κ){y:V}{u:Value}(ry:RelV y u):KV (cB kvs k y) (stored vs k u):=by
 unfold cB stored;rw[r.any k];by_cases e:(vs.any fun kv=>decide (kv.1=k))=true
 ·rw[if_pos e,if_pos e];exact r.repl k ry
 ·rw[if_neg e,if_neg e];exact Paired.snoc r ⟨rfl,ry⟩
theorem KV.length{kvs:List (κ × V)}{vs:List (κ × Value)}(r:KV kvs vs):kvs.length=vs.length:=Paired.length r
end
theorem mV{P:Program}{w:World}{k:Key}{u:Value}(r:RelV (kV k) u):(bB P w).is k u=true:=by
 cases k with
 |inl i=>obtain ⟨t,e⟩:=(show ∃ t,u=Value.int i t from r);subst e;exact lR P w i t
 |inr x=>obtain ⟨t,e⟩:=(show ∃ t,u=Value.str x t from r);subst e;exact lS P w x t
theorem jY{P:Program}{w:World}:∀ {ks:List Key} {us:List Value},Vals (ks.map kV) us->ItemsAre (bB P w) ks us
 | [],_,r=>by rw[List.map_nil] at r;cases r;exact .nil
 |k::ks,_,r=>by
  rw[List.map_cons] at r
  cases r with
  |cons h t=>exact .cons (mV h) (jY t)
abbrev KT(H:Hp):List (List Key × V)->List (List Key × Addr × Value)->Prop:=Paired fun p q=>p.1=q.1/\H q.2.1=some (.tup (p.1.map kV))/\RelV p.2 q.2.2
theorem KT.val{H:Hp}{kvs:List (List Key × V)}{xs:List (List Key × Addr × Value)}(r:KT H kvs xs)(k:List Key):RelO (cD kvs k) ((atKey xs k).map (·.2)):=by
 induction r with
 |nil=>exact True.intro
 | @cons p q ps qs h t ih=>
  obtain ⟨h1,_,h2⟩:=h;by_cases e:p.1=k
  ·have e':q.1=k:=h1.symm.trans e
   have b:atKey (q::qs) k=some q.2:=by simp[atKey,List.find?_cons,e']
   rw[et e,b];exact h2
  ·have e':¬ q.1=k:=fun z=>e (h1.trans z)
   have b:atKey (q::qs) k=atKey qs k:=by simp[atKey,List.find?_cons,e']
   rw[dc e,b];exact ih
theorem KT.repl{H:Hp}{kvs:List (List Key × V)}{xs:List (List Key × Addr × Value)}(r:KT H kvs xs)(k:List Key){y:V}{u:Value}(ry:RelV y u) :
    KT H (kvs.map fun kv=>if kv.1=k then (kv.1,y) else kv) (xs.map (putAt k u)):=by
 induction r with
 |nil=>exact .nil
 | @cons p q ps qs h t ih=>
  rw[List.map_cons,List.map_cons];refine .cons ?_ ih;obtain ⟨h1,h2,h3⟩:=h;unfold putAt;by_cases e:p.1=k
  ·rw[if_pos e,if_pos (h1.symm.trans e)];exact ⟨h1,h2,ry⟩
  ·rw[if_neg e,if_neg (fun z=>e (h1.trans z))];exact ⟨h1,h2,h3⟩
theorem KT.put{H:Hp}{kvs:List (List Key × V)}{xs:List (List Key × Addr × Value)}(r:KT H kvs xs)(k:List Key){b:Addr}{y:V}{u:Value}(hb:H b=some (.tup (k.map kV)))(ry:RelV y u) :
    KT H (cB kvs k y) (storedH xs k b u):=by
 have e:(kvs.any fun kv=>decide (kv.1=k))=(atKey xs k).isSome:=by
  rw[kS,(r.val k).isSome_eq,Option.isSome_map]
 unfold cB storedH;rw[e];by_cases q:(atKey xs k).isSome=true
 ·rw[if_pos q,if_pos q];exact r.repl k ry
 ·rw[if_neg q,if_neg q];exact Paired.snoc r ⟨rfl,hb,ry⟩
theorem KT.keeps{H H':Hp}{kvs:List (List Key × V)}{xs:List (List Key × Addr × Value)}(r:KT H kvs xs)(ht:∀ b ys,H b=some (.tup ys)->H' b=some (.tup ys)):KT H' kvs xs:=
 Paired.mapP r fun _ _ z=>⟨z.1,ht _ _ z.2.1,z.2.2⟩
section
variable {P:Program}{w:World}{H:Hp}{h:Heap}{a:Addr}
theorem qx{u:HO}(ok:HOk P w H h)(e:Rd H a u):ObjOk P w H h a u:=e.ok ok
theorem mW{kvs:List (Key × V)}(ok:HOk P w H h)(e:Rd H a (.dK kvs)):kvs.length<=sizeLine/\(a == sysModules)=false/\∃ vs,KV kvs vs/\h.DictOf (bB P w) a vs:=
 show ObjOk P w H h a (.dK kvs) from qx ok e
theorem vc{kvs:List (Key × V)}(ok:HOk P w H h)(e:H a=some (.dK kvs)):kvs.length<=sizeLine/\(a == sysModules)=false/\∃ vs,KV kvs vs/\h.DictOf (bB P w) a vs:=mW ok (.inl e)
theorem kT{ks:List Key}(ok:HOk P w H h)(e:H a=some (.tup (ks.map kV))):(tupleKind (bB P w)).is h ks a:=by
 obtain ⟨_,its,r,o,h1,h2,n,h3⟩:=(show ObjOk P w H h a (.tup (ks.map kV)) from ok a _ e)
 exact ⟨o,its.toArray,n,h1,h2,h3,by simpa using jY r⟩
theorem mX{kvs:List (List Key × V)}(ok:HOk P w H h)(e:Rd H a (.dT kvs)):kvs.length<=sizeLine/\(a == sysModules)=false ∧
    ∃ xs,KT H kvs xs/\h.DictOfH (tupleKind (bB P w)) a xs:=by
 obtain ⟨z,y,xs,r,o,es,ep,h1,h2,h3,h4,h5⟩:=(show ObjOk P w H h a (.dT kvs) from qx ok e)
 refine ⟨z,y,xs,r,o,es,ep,h1,h2,h3,h4,fun x hx=>?_,h5⟩;have all:∀ {l:List (List Key × V)} {m:List (List Key × Addr × Value)},KT H l m->∀ x∈m,(tupleKind (bB P w)).is h x.1 x.2.1:=by
  intro l m q;induction q with
  |nil=>intro x hx;exact nomatch hx
  | @cons p q ps qs hq t ih=>
   intro x hx;rcases List.mem_cons.mp hx with e | hx
   ·subst e
    exact kT ok (by rw[<- hq.1];exact hq.2.1)
   ·exact ih x hx
 exact all r x hx
theorem vd{kvs:List (List Key × V)}(ok:HOk P w H h)(e:H a=some (.dT kvs)):kvs.length<=sizeLine/\(a == sysModules)=false ∧
    ∃ xs,KT H kvs xs/\h.DictOfH (tupleKind (bB P w)) a xs:=mX ok (.inl e)
end
def DGet(H:Hp)(a:Addr)(y:V)(r:Option V):Prop:=
 (∃ kvs k,Rd H a (.dK kvs)/\y=kV k/\r=cD kvs k)\/∃ kvs k b,Rd H a (.dT kvs)/\y=.ref b/\H b=some (.tup (k.map kV))/\r=cD kvs k
def DPut(H:Hp)(a:Addr)(y v:V)(H':Hp):Prop:=
 (∃ kvs k,H a=some (.dK kvs)/\y=kV k/\kvs.length<sizeLine/\H'=upd H a (.dK (cB kvs k v))) ∨
 ∃ kvs k b,H a=some (.dT kvs)/\y=.ref b/\H b=some (.tup (k.map kV))/\kvs.length<sizeLine/\H'=upd H a (.dT (cB kvs k v))
theorem DGet.t{H:Hp}{a b:Addr}{kvs:List (List Key × V)}{k:List Key}(e:H a=some (.dT kvs))(eb:H b=some (.tup (k.map kV))):DGet H a (.ref b) (cD kvs k):=.inr ⟨kvs,k,b,.inl e,rfl,eb,rfl⟩
theorem DPut.t{H:Hp}{a b:Addr}{kvs:List (List Key × V)}{k:List Key}{v:V}(e:H a=some (.dT kvs))(eb:H b=some (.tup (k.map kV)))(hl:kvs.length<sizeLine) :
    DPut H a (.ref b) v (upd H a (.dT (cB kvs k v))):=.inr ⟨kvs,k,b,e,rfl,eb,hl,rfl⟩
section
variable {X:Cx}{pins:List (Addr × Obj)}{σ:St}{H:Hp}{s:Shared}{a:Addr}{y v:V}{u r:Value}{o:Option V}{A:Around}{E:Value->Shared->Prop}
theorem Inv.big(I:Inv X pins σ H s):sysModules<s.heap.objs.size:=by
 have h:mainGlobals<s.heap.objs.size:=(I.mod.glob.keeps I.bk).lt;exact Nat.lt_trans (by decide) h
theorem l7{h':Heap}{t':Nat}{ob:HO}(I:Inv X pins σ H s)(mu:Mut (H a))(hs:Heap.SameBut a s.heap h')(he:∃ q,h'.get? a=some q)(new:ObjOk X.prog X.w (upd H a ob) h' a ob) :
    Inv X pins σ (upd H a ob) { s with heap:=h',toks:=t' }:=
 I.write (x:=a) (e:=a) mu (.inl rfl) (fun b q hb z=>(hs.2 b hb).trans z) he new
theorem tL{P:Program}{w:World}{H':Hp}{h':Heap}{kvs:List (Key × V)}{vs:List (Key × Value)}(z:kvs.length<=sizeLine)(hd:(a == sysModules)=false)(rel:KV kvs vs)(dd:h'.DictOf (bB P w) a vs) :
    ObjOk P w H' h' a (.dK kvs):=⟨z,hd,vs,rel,dd⟩
theorem n4{H':Hp}{Q:Unit->Shared->Prop}(hu:A.units+1<cLine)(I:Inv X pins σ H s)(g:DPut H a y v H')(ry:RelV y u)(rv:RelV v r)(h:∀ s',Inv X pins σ H' s'->Q () s') :
    wpAny (model X.prog X.w) A (setItem (.ref a) u r) Q E s:=by
 rcases g with ⟨kvs,k,e,ey,l,eH⟩ | ⟨kvs,k,b,e,ey,eb,l,eH⟩
 ·subst ey eH
  obtain ⟨z,hd,vs,rel,dd⟩:=vc I.hok e;have hz:vs.length<=sizeLine:=by rw[<- rel.length];exact z
  have hl:(cB kvs k v).length<=sizeLine:=by have:=ii kvs k v;omega
  refine wpAny_setItem_pairs (hsz:=hz) (mV ry) dd fun h' dd' hs=>h _ ?_;have he:∃ q,h'.get? a=some q:=let ⟨q,_,_,hq,_⟩:=dd';⟨q,hq⟩;exact l7 I (by rw[e];exact True.intro) hs he (tL hl hd (rel.put k rv) dd')
 ·subst ey eH
  cases (show u=Value.ref b from ry)
  obtain ⟨z,hd,xs,rel,dd⟩:=vd I.hok e;have hz:xs.length<=sizeLine:=by rw[<- Paired.length rel];exact z
  have hl:(cB kvs k v).length<=sizeLine:=by have:=ii kvs k v;omega
  refine wpAny_setItem_heap (hsz:=hz) (tupleKind_room_in1 hu) (kT I.hok eb) dd fun h' dd' hs=>h _ ?_;obtain ⟨q,es,ep,hq,h2,h3,h4,_,h5⟩:=dd';refine l7 I (by rw[e];exact True.intro) hs ⟨q,hq⟩ ⟨hl,hd,_,(rel.put k eb rv).keeps fun c ys ec=>?_,q,es,ep,hq,h2,h3,h4,h5⟩;rw[aH (uP ec e (fun z=>nomatch z))];exact ec
end
section
variable {X:Cx}{pins:List (Addr × Obj)}{σ:St}{H:Hp}{s:Shared}{a:Addr}{kvs:List (Key × V)}{k:Key}{u:Value}{A:Around}{E:Value->Shared->Prop}
end
section
variable {X:Cx}{o i e value:Expr}{pos pos' tpos:Pos}{td ty tv:TE}
end
theorem pM{P:Program}{w:World}{H:Hp}(h:Heap)(hb:sysModules<h.objs.size):ObjOk P w H (h.push { cls:=.type "dict", data:=.dict #[] }) h.objs.size (.dT []):=
 ⟨Nat.zero_le _,beq_eq_false_iff_ne.mpr (Ne.symm (Nat.ne_of_lt hb)),[],.nil,_,#[],0,Heap.get?_push_size _ rfl,⟨rfl,rfl,rfl⟩,rfl,rfl,List.nodup_nil⟩
def tM:TE:=fun _ H Q=>∀ p,H p=none->Q (.ref p) (upd H p (.dT []))
section
variable {X:Cx}{pos:Pos}
theorem pN:PE X (.Dict [] [] pos) tM:=fun pins s σ H Q I h=>
 wpAny_Dict_empty ⟨.ref s.heap.objs.size,_,I.laid (a:=s.heap.objs.size) (o:=.dT []) (t':=s.toks) (fun _ _ q=>Heap.get?_push_of_some _ q) (Nat.le_refl _) (pM s.heap I.big),rfl,h _ (I.hok.fresh (Nat.le_refl _))⟩
end
structure M1 (X:Cx) (o:Expr) (m:Str) (apos:Pos) (e:Expr) (cpos:Pos):Prop where
 base:attributeBase o m X.env (eval o X.env)=eval o X.env
 few:((backTo cpos (starEach [e] X.env)).all (fun x=>!x.1)&&(backToKw cpos (keywordEach [] X.env)).all (fun x=>x.1.isSome)
  && decide (([e]:List Expr).length+([]:List Keyword).length+(if ([]:List Keyword).isEmpty then 0 else 1)<30))=true
 line:(apos.endLine == cpos.line)=true
 trees:backTo cpos (starEach [e] X.env)=[(false,eval e X.env)]
structure M2 (X:Cx) (o:Expr) (m:Str) (apos:Pos) (e f:Expr) (cpos:Pos):Prop where
 base:attributeBase o m X.env (eval o X.env)=eval o X.env
 few:((backTo cpos (starEach [e,f] X.env)).all (fun x=>!x.1)&&(backToKw cpos (keywordEach [] X.env)).all (fun x=>x.1.isSome)
  && decide (([e,f]:List Expr).length+([]:List Keyword).length+(if ([]:List Keyword).isEmpty then 0 else 1)<30))=true
 line:(apos.endLine == cpos.line)=true
 trees:backTo cpos (starEach [e,f] X.env)=[(false,eval e X.env),(false,eval f X.env)]
def IsD(H:Hp)(a:Addr):Prop:=(∃ kvs,Rd H a (.dK kvs))\/∃ kvs,Rd H a (.dT kvs)
theorem tN{X:Cx}{pins:List (Addr × Obj)}{σ:St}{H:Hp}{s:Shared}{a:Addr}(I:Inv X pins σ H s)(d:IsD H a) :
    s.TypeIs (.ref a) "dict" /\ (∀ b,Value.ref a=.ref b->∃ ob,s.heap.get? b=some ob/\ob.dict=none)/\(a == sysModules)=false:=by
 rcases d with ⟨kvs,e⟩ | ⟨kvs,e⟩
 ·obtain ⟨_,hd,vs,_,dd⟩:=mW I.hok e
  refine ⟨dd.typeIs,fun b q=>?_,hd⟩
  cases q
  obtain ⟨ob,_,_,h1,h2,_⟩:=dd;exact ⟨ob,h1,h2.2.1⟩
 ·obtain ⟨_,hd,xs,_,dd⟩:=mX I.hok e
  refine ⟨dd.typeIs,fun b q=>?_,hd⟩
  cases q
  obtain ⟨ob,_,_,h1,h2,_⟩:=dd;exact ⟨ob,h1,h2.2.1⟩
section
variable {X:Cx}{pins:List (Addr × Obj)}{σ:St}{H:Hp}{s:Shared}{a:Addr}{y d:V}{u r:Value}{o:Option V}{A:Around}{E:Value->Shared->Prop}
theorem tP{Q:Value->Shared->Prop}(hu:A.units+1<cLine)(I:Inv X pins σ H s)(g:DGet H a y o)(ry:RelV y u)(rd:RelV d r)(h:∀ w' s',Inv X pins σ H s'->RelV (o.getD d) w'->Q w' s') :
    wpAny (model X.prog X.w) A (call (.builtin "dict.get") [.ref a,u,r]) Q E s:=by
 rcases g with ⟨kvs,k,e,ey,l⟩ | ⟨kvs,k,b,e,ey,eb,l⟩
 ·subst ey
  obtain ⟨z,hd,vs,rel,dd⟩:=mW I.hok e;refine call_meetsIn PySem.F.slot_dict_get dd.typeIs PySem.F.entry_dict_get (PySem.F.args_dict_get_3 _ _ _) (meets_dict_get_default (bB X.prog X.w) a (mV ry) hd r) ⟨_,dd.mapOf,h _ _ (I.tok _) ?_⟩;rw[l];exact (rel.val k).getD rd
 ·subst ey
  cases (show u=Value.ref b from ry)
  obtain ⟨z,hd,xs,rel,dd⟩:=mX I.hok e;refine call_meetsIn PySem.F.slot_dict_get dd.typeIs PySem.F.entry_dict_get (PySem.F.args_dict_get_3 _ _ _) (meetsH_dict_get_default (tupleKind (bB X.prog X.w)) a b hd r) ⟨tupleKind_room_in1 hu,k,xs,kT I.hok eb,dd,h _ _ (I.tok _) ?_⟩;rw[l];exact (rel.val k).getD rd
end
def tQ(td ty tx:TE):TE:=fun σ H Q=>td σ H fun x H1=>∃ a,x=.ref a/\IsD H1 a/\ty σ H1 fun y H2=>tx σ H2 fun z H3=>∃ o,DGet H3 a y o/\Q (o.getD z) H3
section
variable {X:Cx}{o e f:Expr}{apos cpos:Pos}{td ty tx:TE}
theorem kU(hu:X.A.units+1<cLine)(ho:PE X o td)(he:PE X e ty)(hf:PE X f tx)(m:M2 X o "get" apos e f cpos):PE X (.Call (.Attribute o "get" apos) [e,f] [] cpos) (tQ td ty tx):=by
 intro pins s σ H Q I h;refine wpAny_Call_method m.base m.few m.line PySem.F.plainAttrs_dict PySem.F.slot_dict_get PySem.F.type_dict_get (thn (ho pins s σ H _ I h) fun u s1 ⟨x,H1,I1,rx,a,ex,d,q1⟩=>?_);subst ex;obtain rfl:u=Value.ref a:=rx;obtain ⟨t1,t2,_⟩:=tN I1 d;refine ⟨t1,t2,?_⟩;rw[m.trees]
 refine Calls.callWith_builtin rfl (Calls.evalArgs_plain (Calls.spliced_cons (thn (he pins s1 σ H1 _ I1 q1) fun iv s2 ⟨y,H2,I2,ry,q2⟩=>
  Calls.spliced_cons (thn (hf pins s2 σ H2 _ I2 q2) fun fv s3 ⟨z,H3,I3,rz,ov,g,q3⟩=>Calls.spliced_nil ?_))))
 exact tP hu I3 g ry rz fun w' s4 I4 rw'=>⟨_,H3,I4,rw',q3⟩
end
section
variable {X:Cx}{pins:List (Addr × Obj)}{σ:St}{H:Hp}{s:Shared}{a:Addr}{kvs:List (Key × V)}{A:Around}{E:Value->Shared->Prop}
end
section
variable {X:Cx}{pins:List (Addr × Obj)}{σ:St}{H:Hp}{s:Shared}{a:Addr}{y:V}{u:Value}{A:Around}{E:Value->Shared->Prop}
end
end L2
namespace Att
open PySem PySem.W PySem.Calls PyProof.Rows
theorem iQ{P:Params}{h:Heap}:∀ (ns:List Int) (vs:List Value),WellAll P h vs (ns.map WData.int)->IntsAre vs ns:=by
 intro ns;induction ns with
 |nil=>
  intro vs w;rw[List.map_nil] at w
  cases w
  exact .nil
 |cons n ns ih=>
  intro vs w;rw[List.map_cons] at w
  cases w with
  |cons a b=>
   cases a
   exact .cons _ _ (ih _ b)
theorem n6{l:OpenLaw}{n:Nat}(hn:l.most=some n){P:Params}{h:Heap}{args:List WData}{vals:List Value}
    (hpre:l.row.toRowW.claim.pre args=true) (hwl:WellAll P h vals args) :
    ∃ a vs ns,vals=[Value.ref a]/\args=[WData.list (ns.map WData.int)]/\h.get? a=some { cls:=.type "list", data:=.seq vs.toArray }/\IntsAre vs ns/\ns.length<=n:=by
 have hsh:WShape.hasAll [] args [.list .int]=true:=(pre_splitW hpre).1;have hc:l.pre.holds [] { args:=args }=true:=(pre_splitW hpre).2;obtain ⟨d,r,rfl,h1,h2⟩:=hasAllW_cons hsh;obtain rfl:=hasAllW_nil h2;obtain ⟨xs,rfl,h3⟩:=hasW_list h1;obtain ⟨ns,rfl⟩:=items_int h3;have hlen:ns.length<=n:=by
  unfold OpenLaw.pre at hc;have h4:(WTm.not (.lt (.lit (.int (n:Int))) (.len (.arg 0)))).holds [] { args:=[.list (ns.map .int)] }=true:=by
   have h4:=(holds_andW hc).1;rw[hn] at h4;exact h4
  have h5:=condW_of h4 (w_not (w_lt w_lit (w_len_list (w_arg rfl))));rw[List.length_map] at h5;refine Nat.le_of_not_lt fun q=>?_;have q':(n:Int)<((ns.length:Nat):Int):=by omega
  first
   | (rw[decide_eq_true q'] at h5;exact absurd h5 (by decide))
   | (simp at h5;omega)
 cases hwl with
 |cons w1 w2=>
  cases w2
  cases w1 with
  |list ho hall=>exact ⟨_,_,ns,rfl,rfl,ho,iQ ns _ hall,hlen⟩
theorem n8(l:OpenLaw)(args:List WData):l.row.toRowW.claim.post args (.bool true) args=true:=
 postW_of (r:=l.row.toRowW) (X:=(true == true))
  (show WShape.has [] (.bool true) .bool=true by first | rfl | decide | simp[WShape.has,WShape.arms,WShape.armsAll])
  (show (WTm.eq .res (.lit (.bool true))).value [] { args:=args,res:=some (.bool true),after:=args }=some (.bool (true == true)) from w_eq_bool (w_res rfl) w_lit) rfl
theorem attach_call{l:OpenLaw}{n:Nat}{q:Program}{loose:List Str}{XP:(Str->Option Value)->Heap->Prop}{YP:World->Heap->Prop}{d:DefRec}
    (hn:l.most=some n) (hdf:d.params.defaults=[])
    (call:∀ (w:World) (s₀ s₁:Shared) (mg mb:Str->Option Value) (fa:Addr) (o:Obj) (pm cd doc:Value) (a:Addr) (vs:List Value) (ns:List Int),
     Ground q loose [] XP w s₀ mg mb s₁.heap->YP w s₁.heap →
     s₁.heap.get? fa=some o->o.data=.func (docDef d.name d.params d.body d.scope pm cd doc)->s₁.heap.CodeRec cd d.name->mg d.name=some (.ref fa) →
     s₁.heap.get? a=some { cls:=.type "list", data:=.seq vs.toArray }->IntsAre vs ns->ns.length<=n->s₁.gens=#[] →
     codeAny (model l.prog w) callerA (.call (.ref fa) ⟨[.ref a],[]⟩) (fun r s'=>r=.ok (.ret (.bool true))/\OldK s₁.heap s'.heap/\s'.os=s₁.os/\AllBare s'.gens) s₁) :
    WalkO q loose XP YP l.row.toRowW d [] (fun f vs=>PySem.call f vs):=by
 intro w s₀ s₁ mg mb G Y fa o pm cd doc dV kV ho hd hcd hD hmg hg args vals as hpre hlay hrd hwl hlo;obtain rfl:dV=.none:=Dflts.none hD hdf;obtain rfl:kV=.none:=Dflts.noKw hD;obtain ⟨a,vs,ns,rfl,rfl,hobj,hints,hlen⟩:=n6 hn hpre hwl;refine enter_call (codeAny_mono (call w s₀ s₁ mg mb fa o pm cd doc a vs ns G Y ho (fd_plain hd) hcd hmg hobj hints hlen hg) fun r s' hq=>?_);obtain ⟨rfl,h2,h3,h4⟩:=hq
 exact ⟨.inl ⟨.bool true,.bool true,[],rfl,fun _=>rfl,.bool true,n8 l _,fun _=>⟨List.Pairwise.nil,fun _ hm=>(nomatch hm)⟩⟩,h2,h3,h4⟩
section
variable {prog:Program}{w:World}{A:Around}{E:Value->Shared->Prop}{s:Shared}{K:Frag}
end
end Att
namespace L2
open PySem PySem.Spec PyProof.Rows
theorem gq:∀ {vs:List Value} {ns:List Int},IntsAre vs ns->Vals (ns.map V.int) vs
 |_,_,.nil=>.nil
 |_,_,.cons n t h=>.cons ⟨t,rfl⟩ (gq h)
def tR(H:Hp):Prop:=∀ b,H b=none\/∃ o xs,H b=some (.frz o (.lst xs))
theorem pO{P:Program}{w:World}{K:PySem.W.Frag}{mg mb:Str->Option Value}{CX:CXT}{k:Nat}{fa a:Addr}{fd:FuncData}{x:Str}{sp:Sp}{s₁:Shared}{vs:List Value}{ns:List Int}
    (KX:K.In s₁.heap) (hns:s₁.heap.Ns mainGlobals mg) (hb:s₁.heap.Ns builtinsNs mb) (hbb:∀ x:Str,x ≠ "__name__" -> mb x=bootBuiltins x) (hlim:s₁.heap.NoLimit) (hg:s₁.gens=#[])
    (ha:s₁.heap.get? a=some { cls:=.type "list", data:=.seq vs.toArray }) (hi:IntsAre vs ns) (hl:ns.length<=sizeLine) (hr:Room k callerA)
    (F:∀ base:Heap,K.In base->base.Ns mainGlobals mg->FnOk P w K mg base CX k fa fd [x] sp) (hbind:∀ (s:Shared) (u:Value),BindsTo s fd ⟨[u],[]⟩ [(x,u)])
    (hsp:∀ H:Hp,tR H->SqL K H a (ns.map V.int)->sp [.ref a] H (fun v _=>v=.bl true) fun _ _ _=>False)
    (hCX:∀ H e s',CX [] H s₁ (fun _ _ _=>False) e s'->False) :
    codeAny (model P w) callerA (.call (.ref fa) ⟨[.ref a],[]⟩) (fun r s'=>r=.ok (.ret (.bool true))/\OldK s₁.heap s'.heap/\s'.os=s₁.os/\AllBare s'.gens) s₁:=by
 have rv:=gq hi;have lenV:=hi.length;have core:∀ H:Hp,tR H->SqL K H a (ns.map V.int)->HOk P w H s₁.heap->(∀ b,H b≠none->b=a)->(H a≠none->K.lookup a=none) →
     codeAny (model P w) callerA (.call (.ref fa) ⟨[.ref a],[]⟩) (fun r s'=>r=.ok (.ret (.bool true))/\OldK s₁.heap s'.heap/\s'.os=s₁.os/\AllBare s'.gens) s₁:=by
  intro H hO hS hok hA hK;have base_of:∀ {b:Addr} {o:Obj},s₁.heap.get? b=some o->H b=none->(fN s₁.heap H).get? b=some o:=fun e n=>pv e n;have noA:∀ {b:Addr} {o:Obj} {es:Array DictEntry} {ep:Nat},s₁.heap.get? b=some o->o.data=.dict es ep->H b=none:=fun {b o es ep} e d=>by
   cases q:H b with
   |none=>rfl
   |some u=>
    have e':b=a:=hA b (by rw[q];simp);subst e';rw[ha] at e;cases e;have d':Data.seq vs.toArray _=Data.dict es ep:=d
    cases d'
  have nsK:∀ {b:Addr} {m:Str->Option Value},s₁.heap.Ns b m->(fN s₁.heap H).Ns b m:=fun {b m} ⟨o,es,ep,e,d,r⟩=>⟨o,es,ep,base_of e (noA e d),d,r⟩
  have hKb:K.In (fN s₁.heap H):=fun b o e=>base_of (KX b o e) (by
   cases q:H b with
   |none=>rfl
   |some u=>
    have e':b=a:=hA b (by rw[q];simp)
    subst e'
    rw[hK (by rw[q];simp)] at e;cases e)
  have hM:Mod K mg (fN s₁.heap H):=⟨hKb,nsK hns,⟨mb,nsK hb,hbb⟩,let ⟨mc,h1,h2⟩:=hlim;⟨mc,nsK h1,h2⟩⟩
  have e0:Env0 P w K mg (fN s₁.heap H) callerA [] s₁ H:=⟨rfl,hM,fun b o e=>qL e,Nat.le_of_eq (nJ _ _),trivial,fun b hb=>absurd (show b∈([]:List Addr) from hb) (by simp),hok,.of_eq hg⟩
  refine codeAny_mono ((F _ hKb (nsK hns)).run callerA [] s₁ H ⟨[.ref a],[]⟩ [.ref a] [.ref a] _ _ hr e0 (hbind s₁ (.ref a)) (.cons rfl .nil) (hsp H hO hS)) fun r s' h=>?_
  cases r with
  |error e=>exact (hCX H e s' h).elim
  |ok fl=>
   cases fl with
   |next=>exact False.elim h
   |brk=>exact False.elim h
   |cont=>exact False.elim h
   |ret u=>
    obtain ⟨v,H',os,bare,un,hok',r',q⟩:=h;have q':v=.bl true:=q;subst q';obtain rfl:u=Value.bool true:=r';refine ⟨rfl,OldK.of_keep fun b o e=>?_,os,bare⟩
    cases q:H b with
    |none=>exact un.keep b o e q (by intro z;exact absurd (show b∈([]:List Addr) from z) (by simp)) (by simp)
    |some u=>
     rcases hO b with z | ⟨ob,xs,z⟩
     ·rw[q] at z;cases z
     ·have z2:=un.frzs b ob _ z
      obtain ⟨e1,_⟩:=hok b _ z;obtain ⟨e2,_⟩:=hok' b _ z2;rw[e] at e1;cases e1;exact e2
 cases hk:K.lookup a with
 |some o=>
  have e:=KX a o hk;rw[ha] at e
  cases e
  refine core (fun _=>none) (fun _=>.inl rfl) (.inr ⟨_,vs.toArray,_,hk,rfl,rfl,rfl,by rw[List.size_toArray,lenV];exact hl,by simpa using rv⟩) (fun b u z=>by have z':(none:Option HO)=some u:=z;cases z') (fun b z=>absurd rfl z) fun z=>absurd rfl z
 |none=>
  refine core (fun b=>if b=a then some (.frz { cls:=.type "list", data:=.seq vs.toArray } (.lst (ns.map V.int))) else none) (fun b=>?_) (.inl (.inr ⟨{ cls:=.type "list", data:=.seq vs.toArray },if_pos rfl⟩)) (fun b u z=>?_) (fun b z=>?_) fun _=>hk
  ·by_cases hb:b=a
   ·exact .inr ⟨_,_,if_pos hb⟩
   ·exact .inl (if_neg hb)
  ·by_cases hb:b=a
   ·have z':=(if_pos hb).symm.trans z
    cases z'
    subst hb;exact ⟨ha,by rw[List.length_map];exact hl,vs,_,rv,ha⟩
   ·have z':=(if_neg hb).symm.trans z
    cases z'
  ·by_cases hb:b=a
   ·exact hb
   ·exact absurd (if_neg hb) z
def cv(s:Stmt):Arguments:=match s with
 | .FunctionDef _ a _ _ _ _ _ _ _ _=>a
 |_=>{ posonlyargs:=[],args:=[],vararg:=none,kwonlyargs:=[],kw_defaults:=[],kwarg:=none,defaults:=[] }
def bw(s:Stmt):List Stmt:=match s with
 | .FunctionDef _ _ b _ _ _ _ _ _ _=>b
 |_=>[]
def ar(s:Stmt):Scope:=match s with
 | .FunctionDef _ _ _ _ _ _ sc _ _ _=>sc
 |_=>{ kind:=.function,names:=[],isGenerator:=false,isCoroutine:=false }
abbrev E0:XK:=fun _ _ _=>False
structure Fun (K:PySem.W.Frag) (x qual:Str) (st:Stmt) (f:Addr) (fd:FuncData):Prop where
 ex:∃ (oc:Value) (od:Option Addr) (kV doc pm:Value) (an:Option Addr) (cdv ct:Value) (osl:Array (Option Value)),
  fd=PySem.W.fnOf x qual (cv st) (bw st) (ar st) .none kV doc pm an cdv ct/\K.lookup f=some ⟨oc,od,.func fd,osl⟩/\PySem.W.codeIn K cdv qual=true
 kp:PySem.W.keepIn K (.ref f)=true
section
variable {P:Program}{w:World}{K:PySem.W.Frag}{mg:Str->Option Value}{base:Heap}
theorem Fun.binds{x qual:Str}{st:Stmt}{f:Addr}{fd:FuncData}{ps:List Str}(F:Fun K x qual st f fd)
    (h:∀ (kV doc pm:Value) (an:Option Addr) (cdv ct:Value) (us:List Value),us.length=ps.length->bindArgs (PySem.W.fnOf x qual (cv st) (bw st) (ar st) .none kV doc pm an cdv ct) ⟨us,[]⟩=pure (ps.zip us)):Binds K fd ps []:=by
 obtain ⟨oc,od,kV,doc,pm,an,cdv,ct,osl,rfl,lk,hcd⟩:=F.ex;exact .all (h kV doc pm an cdv ct)
theorem iR{x qual:Str}{st:Stmt}{f:Addr}{oc:Value}{od an:Option Addr}{osl:Array (Option Value)}{kV doc pm cdv ct:Value}(l:K.lookup f=some ⟨oc,od,.func (PySem.W.fnOf x qual (cv st) (bw st) (ar st) .none kV doc pm an cdv ct),osl⟩)
    (c:PySem.W.codeIn K cdv qual=true) (k:PySem.W.keepIn K (.ref f)=true):Fun K x qual st f (PySem.W.fnOf x qual (cv st) (bw st) (ar st) .none kV doc pm an cdv ct):=⟨⟨oc,od,kV,doc,pm,an,cdv,ct,osl,rfl,l,c⟩,k⟩
end
section
variable {X:Cx}
end
def Same(H H':Hp):Prop:=∀ b o,H b=some o->H' b=some o
theorem Same.refl(H:Hp):Same H H:=fun _ _ h=>h
theorem Same.trans{H H1 H2:Hp}(a:Same H H1)(b:Same H1 H2):Same H H2:=fun c o h=>b c o (a c o h)
section
variable {X:Cx}
end
section
variable {κ:Type}[DecidableEq κ]
end
end L2
set_option maxHeartbeats 4000000
theorem List.reverseRecOn'{α:Type}{motive:List α->Prop}(l:List α)(nil:motive [])(snoc:∀ xs x,motive xs->motive (xs++[x])):motive l:=by
 have:∀ l:List α,motive l.reverse:=by
  intro l;induction l with
  |nil=>exact nil
  |cons x xs ih=>rw[List.reverse_cons];exact snoc _ _ ih
 simpa using this l.reverse
namespace Mi
open PySem L2
inductive Tg where
 |f | o | b
 deriving DecidableEq
inductive D where
 |non | bl (b:Bool) | int (i:Int) | str (x:Str)
 |lst (t:Tg) (xs:List D) | tup (xs:List D)
 |dic (t:Tg) (kvs:List (List Key × D))
 |ins (t:Tg) (C:Addr) (fs:List (Str × D))
 |exc (C:Value)
 |scr (ns:List Int)
 |slf (a C:Addr) (fs:List (Str × D))
namespace D
def tag:D->Tg
 | .lst t _=>t
 | .dic t _=>t
 | .ins t _ _=>t
 | .slf _ _ _=>.o
 |_=>.f
def rd:D->D
 | .lst .o xs=>.lst .b xs
 | .dic .o xs=>.dic .b xs
 | .ins .o C fs=>.ins .b C fs
 | .slf _ C fs=>.ins .b C fs
 |d=>d
mutual
def fz:D->D
 | .lst _ xs=>.lst .f (fzs xs)
 | .dic _ kvs=>.dic .f (fzk kvs)
 | .tup xs=>.tup (fzs xs)
 | .ins _ C fs=>.ins .f C fs
 | .slf _ C fs=>.ins .f C fs
 |d=>d
def fzs:List D->List D
 | []=>[]
 |x::xs=>fz x::fzs xs
def fzk:List (List Key × D)->List (List Key × D)
 | []=>[]
 | (k,x)::xs=>(k,fz x)::fzk xs
end
def atom:D->Bool
 | .non | .bl _ | .int _ | .str _=>true
 |_=>false
theorem fzs_map:∀ xs:List D,fzs xs=xs.map fz:=by
 intro lc
 cases lc with
 |nil=>
  simp[fzs]
 |cons x xs=>
  simp[fzs,fzs_map xs]
end D
mutual
inductive Rep (H:Hp):V->D->Prop
 |non:Rep H .non .non
 |bl {b}:Rep H (.bl b) (.bl b)
 |int {i}:Rep H (.int i) (.int i)
 |str {x}:Rep H (.str x) (.str x)
 |lst {a xs ds t}:H a=some (.lst xs)->Reps H xs ds->Rep H (.ref a) (.lst t ds)
 |tup {a xs ds}:H a=some (.tup xs)->Reps H xs ds->Rep H (.ref a) (.tup ds)
 |dic {a kvs ks t}:H a=some (.dT kvs)->RepK H kvs ks->Rep H (.ref a) (.dic t ks)
 |ins {a C dx fs ds t}:H a=some (.ins C dx fs)->RepF H fs ds->Rep H (.ref a) (.ins t C ds)
 |scr {a o ns}:H a=some (.frz o (.lst (ns.map V.int)))->Rep H (.ref a) (.scr ns)
 |slf {a C dx fs ds}:H a=some (.ins C dx fs)->RepF H fs ds->Rep H (.ref a) (.slf a C ds)
inductive Reps (H:Hp):List V->List D->Prop
 |nil:Reps H [] []
 |cons {v d vs ds}:Rep H v d->Reps H vs ds->Reps H (v::vs) (d::ds)
inductive RepK (H:Hp):List (List Key × V)->List (List Key × D)->Prop
 |nil:RepK H [] []
 |cons {k v d vs ds}:Rep H v d->RepK H vs ds->RepK H ((k,v)::vs) ((k,d)::ds)
inductive RepF (H:Hp):List (Str × V)->List (Str × D)->Prop
 |nil:RepF H [] []
 |cons {k v d vs ds}:Rep H v d->RepF H vs ds->RepF H ((k,v)::vs) ((k,d)::ds)
end
mutual
theorem Rep.mono{H H':Hp}(s:Same H H'):∀ {v d},Rep H v d->Rep H' v d:=by
 intro _ _ hc
 cases hc with
 |non=>
  exact .non
 |bl=>
  exact .bl
 |int=>
  exact .int
 |str=>
  exact .str
 |lst h r=>
  exact .lst (s _ _ h) (Reps.mono s r)
 |scr h=>
  exact .scr (s _ _ h)
 |slf h r=>
  exact .slf (s _ _ h) (RepF.mono s r)
 |tup h r=>
  exact .tup (s _ _ h) (Reps.mono s r)
 |dic h r=>
  exact .dic (s _ _ h) (RepK.mono s r)
 |ins h r=>
  exact .ins (s _ _ h) (RepF.mono s r)
theorem Reps.mono{H H':Hp}(s:Same H H'):∀ {v d},Reps H v d->Reps H' v d:=by
 intro _ _ hc
 cases hc with
 |nil=>
  exact .nil
 |cons h r=>
  exact .cons (Rep.mono s h) (Reps.mono s r)
theorem RepK.mono{H H':Hp}(s:Same H H'):∀ {v d},RepK H v d->RepK H' v d:=by
 intro _ _ hc
 cases hc with
 |nil=>
  exact .nil
 |cons h r=>
  exact .cons (Rep.mono s h) (RepK.mono s r)
theorem RepF.mono{H H':Hp}(s:Same H H'):∀ {v d},RepF H v d->RepF H' v d:=by
 intro _ _ hc
 cases hc with
 |nil=>
  exact .nil
 |cons h r=>
  exact .cons (Rep.mono s h) (RepF.mono s r)
end
mutual
theorem Rep.fz{H:Hp}:∀ {v d},Rep H v d->Rep H v d.fz:=by
 intro _ _ hc
 cases hc with
 |non=>
  exact .non
 |bl=>
  exact .bl
 |int=>
  exact .int
 |str=>
  exact .str
 |lst h r=>
  exact .lst h (Reps.fz r)
 |tup h r=>
  exact .tup h (Reps.fz r)
 |dic h r=>
  exact .dic h (RepK.fz r)
 |ins h r=>
  exact .ins h r
 |scr h=>
  exact .scr h
 |slf h r=>
  exact .ins h r
theorem Reps.fz{H:Hp}:∀ {v d},Reps H v d->Reps H v (D.fzs d):=by
 intro _ _ hc
 cases hc with
 |nil=>
  exact .nil
 |cons h r=>
  exact .cons (Rep.fz h) (Reps.fz r)
theorem RepK.fz{H:Hp}:∀ {v d},RepK H v d->RepK H v (D.fzk d):=by
 intro _ _ hc
 cases hc with
 |nil=>
  exact .nil
 |cons h r=>
  exact .cons (Rep.fz h) (RepK.fz r)
end
theorem Reps.length{H:Hp}:∀ {vs ds},Reps H vs ds->vs.length=ds.length:=by
 intro _ _ hc
 cases hc with
 |nil=>
  exact rfl
 |cons _ r=>
  simp[Reps.length r]
theorem Reps.get{H:Hp}:∀ {vs ds} {i:Nat} {d},Reps H vs ds->ds[i]?=some d->∃ v,vs[i]?=some v/\Rep H v d:=by
 intro _ _ ic d hc e
 cases hc with
 |nil=>
  simp at e
 |cons h r=>
  cases ic with
  |zero=>
   simp at e;subst e;exact ⟨_,rfl,h⟩
  |succ i=>
   simpa using Reps.get (i:=i) (d:=d) r (by simpa using e)
theorem Reps.append{H:Hp}:∀ {vs ds us es},Reps H vs ds->Reps H us es->Reps H (vs++us) (ds++es):=by
 intro _ _ _ _ hc q
 cases hc with
 |nil=>
  exact q
 |cons h r=>
  exact .cons h (Reps.append r q)
mutual
inductive RepO (Hf H:Hp):List Addr->V->D->Prop
 |fz {v d}:Rep Hf v d->d.tag=.f->RepO Hf H [] v d
 |lst {a xs fp ds}:H a=some (.lst xs)->RepOs Hf H fp xs ds->RepO Hf H (a::fp) (.ref a) (.lst .o ds)
 |dic {a fp kvs ks}:H a=some (.dT kvs)->RepOk Hf H fp kvs ks->RepO Hf H (a::fp) (.ref a) (.dic .o ks)
 |slf {a C dx fs ks}:H a=some (.ins C dx fs)->H dx=some (.own a)->RepF Hf fs ks->RepO Hf H [a,dx] (.ref a) (.slf a C ks)
inductive RepOs (Hf H:Hp):List Addr->List V->List D->Prop
 |nil:RepOs Hf H [] [] []
 |cons {fp v d fps vs ds}:RepO Hf H fp v d->RepOs Hf H fps vs ds->RepOs Hf H (fp++fps) (v::vs) (d::ds)
inductive RepOk (Hf H:Hp):List Addr->List (List Key × V)->List (List Key × D)->Prop
 |nil:RepOk Hf H [] [] []
 |cons {k fp v d fps vs ds}:RepO Hf H fp v d->RepOk Hf H fps vs ds->RepOk Hf H (fp++fps) ((k,v)::vs) ((k,d)::ds)
end
mutual
inductive RepV (Hf H:Hp):V->D->Prop
 |fz {v d}:Rep Hf v d->d.tag=.f->RepV Hf H v d
 |lst {a xs ds t}:t≠.f->H a=some (.lst xs)->RepVs Hf H xs ds->RepV Hf H (.ref a) (.lst t ds)
 |dic {a kvs ks t}:t≠.f->H a=some (.dT kvs)->RepVk Hf H kvs ks->RepV Hf H (.ref a) (.dic t ks)
 |ins {a C dx fs ks t}:t≠.f->H a=some (.ins C dx fs)->RepF Hf fs ks->RepV Hf H (.ref a) (.ins t C ks)
 |slf {a C dx fs ks}:H a=some (.ins C dx fs)->RepF Hf fs ks->RepV Hf H (.ref a) (.slf a C ks)
inductive RepVs (Hf H:Hp):List V->List D->Prop
 |nil:RepVs Hf H [] []
 |cons {v d vs ds}:RepV Hf H v d->RepVs Hf H vs ds->RepVs Hf H (v::vs) (d::ds)
inductive RepVk (Hf H:Hp):List (List Key × V)->List (List Key × D)->Prop
 |nil:RepVk Hf H [] []
 |cons {k v d vs ds}:RepV Hf H v d->RepVk Hf H vs ds->RepVk Hf H ((k,v)::vs) ((k,d)::ds)
end
mutual
theorem RepO.v{Hf H:Hp}:∀ {fp v d},RepO Hf H fp v d->RepV Hf H v d:=by
 intro _ _ _ hc
 cases hc with
 |fz h e=>
  exact .fz h e
 |lst h r=>
  exact .lst (by decide) h (RepOs.v r)
 |dic h r=>
  exact .dic (by decide) h (RepOk.v r)
 |slf h _ r=>
  exact .slf h r
theorem RepOs.v{Hf H:Hp}:∀ {fp v d},RepOs Hf H fp v d->RepVs Hf H v d:=by
 intro _ _ _ hc
 cases hc with
 |nil=>
  exact .nil
 |cons h r=>
  exact .cons (RepO.v h) (RepOs.v r)
theorem RepOk.v{Hf H:Hp}:∀ {fp v d},RepOk Hf H fp v d->RepVk Hf H v d:=by
 intro _ _ _ hc
 cases hc with
 |nil=>
  exact .nil
 |cons h r=>
  exact .cons (RepO.v h) (RepOk.v r)
end
mutual
theorem RepV.rep{Hf H:Hp}(s:Same Hf H):∀ {v d},RepV Hf H v d->Rep H v d:=by
 intro _ _ hc
 cases hc with
 |fz h _=>
  exact h.mono s
 |lst _ h r=>
  exact .lst h (RepVs.rep s r)
 |dic _ h r=>
  exact .dic h (RepVk.rep s r)
 |ins _ h r=>
  exact .ins h (r.mono s)
 |slf h r=>
  exact .slf h (r.mono s)
theorem RepVs.rep{Hf H:Hp}(s:Same Hf H):∀ {v d},RepVs Hf H v d->Reps H v d:=by
 intro _ _ hc
 cases hc with
 |nil=>
  exact .nil
 |cons h r=>
  exact .cons (RepV.rep s h) (RepVs.rep s r)
theorem RepVk.rep{Hf H:Hp}(s:Same Hf H):∀ {v d},RepVk Hf H v d->RepK H v d:=by
 intro _ _ hc
 cases hc with
 |nil=>
  exact .nil
 |cons h r=>
  exact .cons (RepV.rep s h) (RepVk.rep s r)
end
mutual
theorem RepO.keep{Hf H Hf' H':Hp}(s:Same Hf Hf'):∀ {fp v d},RepO Hf H fp v d->(∀ a o,a∈fp->H a=some o->H' a=some o)->RepO Hf' H' fp v d:=by
 intro _ _ _ hc k
 cases hc with
 |fz h e=>
  exact .fz (h.mono s) e
 |lst h r=>
  exact .lst (k _ _ List.mem_cons_self h) (RepOs.keep s r fun a o m=>k a o (List.mem_cons_of_mem _ m))
 |dic h r=>
  exact .dic (k _ _ List.mem_cons_self h) (RepOk.keep s r fun a o m=>k a o (List.mem_cons_of_mem _ m))
 |slf h q r=>
  exact .slf (k _ _ List.mem_cons_self h) (k _ _ (List.mem_cons_of_mem _ List.mem_cons_self) q) (r.mono s)
theorem RepOs.keep{Hf H Hf' H':Hp}(s:Same Hf Hf'):∀ {fp v d},RepOs Hf H fp v d->(∀ a o,a∈fp->H a=some o->H' a=some o)->RepOs Hf' H' fp v d:=by
 intro _ _ _ hc k
 cases hc with
 |nil=>
  exact .nil
 |cons h r=>
  exact .cons (RepO.keep s h fun a o m=>k a o (List.mem_append_left _ m)) (RepOs.keep s r fun a o m=>k a o (List.mem_append_right _ m))
theorem RepOk.keep{Hf H Hf' H':Hp}(s:Same Hf Hf'):∀ {fp v d},RepOk Hf H fp v d->(∀ a o,a∈fp->H a=some o->H' a=some o)->RepOk Hf' H' fp v d:=by
 intro _ _ _ hc k
 cases hc with
 |nil=>
  exact .nil
 |cons h r=>
  exact .cons (RepO.keep s h fun a o m=>k a o (List.mem_append_left _ m)) (RepOk.keep s r fun a o m=>k a o (List.mem_append_right _ m))
end
mutual
theorem RepV.mono{Hf H Hf' H':Hp}(s:Same Hf Hf')(s':Same H H'):∀ {v d},RepV Hf H v d->RepV Hf' H' v d:=by
 intro _ _ hc
 cases hc with
 |fz h e=>
  exact .fz (h.mono s) e
 |lst t h r=>
  exact .lst t (s' _ _ h) (RepVs.mono s s' r)
 |dic t h r=>
  exact .dic t (s' _ _ h) (RepVk.mono s s' r)
 |ins t h r=>
  exact .ins t (s' _ _ h) (r.mono s)
 |slf h r=>
  exact .slf (s' _ _ h) (r.mono s)
theorem RepVs.mono{Hf H Hf' H':Hp}(s:Same Hf Hf')(s':Same H H'):∀ {v d},RepVs Hf H v d->RepVs Hf' H' v d:=by
 intro _ _ hc
 cases hc with
 |nil=>
  exact .nil
 |cons h r=>
  exact .cons (RepV.mono s s' h) (RepVs.mono s s' r)
theorem RepVk.mono{Hf H Hf' H':Hp}(s:Same Hf Hf')(s':Same H H'):∀ {v d},RepVk Hf H v d->RepVk Hf' H' v d:=by
 intro _ _ hc
 cases hc with
 |nil=>
  exact .nil
 |cons h r=>
  exact .cons (RepV.mono s s' h) (RepVk.mono s s' r)
end
mutual
theorem RepO.there{Hf H:Hp}:∀ {fp v d},RepO Hf H fp v d->∀ a∈fp,∃ o,H a=some o:=by
 intro _ _ _ hc a m
 cases hc with
 |fz _ _=>
  simp at m
 |lst h r=>
  rcases List.mem_cons.mp m with e | m
  ·subst e;exact ⟨_,h⟩
  ·exact RepOs.there r a m
 |dic h r=>
  rcases List.mem_cons.mp m with e | m
  ·subst e;exact ⟨_,h⟩
  ·exact RepOk.there r a m
 |slf h q _=>
  simp at m;rcases m with m | m
  ·subst m;exact ⟨_,h⟩
  ·subst m;exact ⟨_,q⟩
theorem RepOs.there{Hf H:Hp}:∀ {fp v d},RepOs Hf H fp v d->∀ a∈fp,∃ o,H a=some o:=by
 intro _ _ _ hc a m
 cases hc with
 |nil=>
  simp at m
 |cons h r=>
  exact (List.mem_append.mp m).elim (RepO.there h a) (RepOs.there r a)
theorem RepOk.there{Hf H:Hp}:∀ {fp v d},RepOk Hf H fp v d->∀ a∈fp,∃ o,H a=some o:=by
 intro _ _ _ hc a m
 cases hc with
 |nil=>
  simp at m
 |cons h r=>
  exact (List.mem_append.mp m).elim (RepO.there h a) (RepOk.there r a)
end
theorem RepVs.get{Hf H:Hp}:∀ {vs ds} {i:Nat} {d},RepVs Hf H vs ds->ds[i]?=some d->∃ v,vs[i]?=some v/\RepV Hf H v d:=by
 intro _ _ ic d hc e
 cases hc with
 |nil=>
  simp at e
 |cons h r=>
  cases ic with
  |zero=>
   simp at e;subst e;exact ⟨_,rfl,h⟩
  |succ i=>
   simpa using RepVs.get (i:=i) (d:=d) r (by simpa using e)
theorem RepOs.length{Hf H:Hp}:∀ {fp vs ds},RepOs Hf H fp vs ds->vs.length=ds.length:=by
 intro _ _ _ hc
 cases hc with
 |nil=>
  exact rfl
 |cons _ r=>
  simp[RepOs.length r]
theorem RepOs.append{Hf H:Hp}:∀ {fp vs ds fq us es},RepOs Hf H fp vs ds->RepOs Hf H fq us es->RepOs Hf H (fp++fq) (vs++us) (ds++es):=by
 intro _ _ _ _ _ _ hc q
 cases hc with
 |nil=>
  exact q
 |cons h r=>
  rw[List.append_assoc];exact .cons h (RepOs.append r q)
def mix(Hf H:Hp)(fp:List Addr):Hp:=fun a=>if a∈fp then H a else Hf a
theorem iS{Hf H:Hp}{fp:List Addr}{a:Addr}(h:a∈fp):mix Hf H fp a=H a:=by unfold mix;rw[if_pos h]
theorem l8{Hf H:Hp}{fp:List Addr}{a:Addr}(h:a∉fp):mix Hf H fp a=Hf a:=by unfold mix;rw[if_neg h]
theorem cj{Hf H:Hp}{fp:List Addr}(s:Same Hf H):Same Hf (mix Hf H fp):=fun a o e=>by
 unfold mix;by_cases h:a∈fp
 ·rw[if_pos h];exact s a o e
 ·rw[if_neg h];exact e
theorem tS{Hf H:Hp}{fp:List Addr}(s:Same Hf H):Same (mix Hf H fp) H:=fun a o e=>by
 unfold mix at e;by_cases h:a∈fp
 ·rw[if_pos h] at e;exact e
 ·rw[if_neg h] at e;exact s a o e
mutual
theorem RepO.froz{Hf H:Hp}(s:Same Hf H):∀ {fp v d} {fq:List Addr},RepO Hf H fp v d->(∀ a∈fp,a∈fq)->Rep (mix Hf H fq) v d.fz:=by
 intro _ _ _ _ hc m
 cases hc with
 |fz h _=>
  exact (h.mono (cj s)).fz
 |lst h r=>
  exact .lst (by rw[iS (m _ List.mem_cons_self)];exact h) (RepOs.froz s r fun a q=>m a (List.mem_cons_of_mem _ q))
 |dic h r=>
  exact .dic (by rw[iS (m _ List.mem_cons_self)];exact h) (RepOk.froz s r fun a q=>m a (List.mem_cons_of_mem _ q))
 |slf h q r=>
  exact .ins (by rw[iS (m _ List.mem_cons_self)];exact h) (r.mono (cj s))
theorem RepOs.froz{Hf H:Hp}(s:Same Hf H):∀ {fp v d} {fq:List Addr},RepOs Hf H fp v d->(∀ a∈fp,a∈fq)->Reps (mix Hf H fq) v (D.fzs d):=by
 intro _ _ _ _ hc m
 cases hc with
 |nil=>
  exact .nil
 |cons h r=>
  exact .cons (RepO.froz s h fun a q=>m a (List.mem_append_left _ q)) (RepOs.froz s r fun a q=>m a (List.mem_append_right _ q))
theorem RepOk.froz{Hf H:Hp}(s:Same Hf H):∀ {fp v d} {fq:List Addr},RepOk Hf H fp v d->(∀ a∈fp,a∈fq)->RepK (mix Hf H fq) v (D.fzk d):=by
 intro _ _ _ _ hc m
 cases hc with
 |nil=>
  exact .nil
 |cons h r=>
  exact .cons (RepO.froz s h fun a q=>m a (List.mem_append_left _ q)) (RepOk.froz s r fun a q=>m a (List.mem_append_right _ q))
end
theorem RepOk.keys{Hf H:Hp}:∀ {kvs:List (List Key × V)} {ks:List (List Key × D)} {fp:List Addr},RepOk Hf H fp kvs ks->kvs.map (·.1)=ks.map (·.1)/\RepOs Hf H fp (kvs.map (·.2)) (ks.map (·.2)):=by
 intro kvs;induction kvs with
 |nil=>intro ks fp r;cases r;exact ⟨rfl,.nil⟩
 |cons p l ih=>
  intro ks fp r
  cases r with
  |cons h t=>
   obtain ⟨e,R⟩:=ih t;exact ⟨by simp only[List.map_cons,e],.cons h R⟩
theorem RepOk.of{Hf H:Hp}:∀ {kvs:List (List Key × V)} {ks:List (List Key × D)} {fp:List Addr},kvs.map (·.1)=ks.map (·.1)->RepOs Hf H fp (kvs.map (·.2)) (ks.map (·.2))->RepOk Hf H fp kvs ks:=by
 intro kvs;induction kvs with
 |nil=>intro ks fp e r;cases ks with | nil=>cases r;exact .nil | cons a b=>simp at e
 |cons p l ih=>
  intro ks fp e r
  cases ks with
  |nil=>simp at e
  |cons q m=>
   obtain ⟨k,v⟩:=p;obtain ⟨k',d⟩:=q;simp only[List.map_cons,List.cons.injEq] at e;obtain ⟨rfl,e⟩:=e;simp only[List.map_cons] at r
   cases r with
   |cons h t=>exact .cons h (ih e t)
inductive Own (Hf H:Hp):List Addr->List (Option V)->List (Option D)->Prop
 |nil:Own Hf H [] [] []
 |skip {fp v vs ds}:Own Hf H fp vs ds->Own Hf H fp (v::vs) (none::ds)
 |cons {fp fq v d vs ds}:RepO Hf H fp v d->Own Hf H fq vs ds->Own Hf H (fp++fq) (some v::vs) (some d::ds)
 |brw {fp v d vs ds}:d.tag=.b->RepV Hf H v d->Own Hf H fp vs ds->Own Hf H fp (some v::vs) (some d::ds)
theorem Own.there{Hf H:Hp}:∀ {fp vs ds},Own Hf H fp vs ds->∀ a∈fp,∃ o,H a=some o:=by
 intro _ _ _ hc a m
 cases hc with
 |nil=>
  simp at m
 |skip r=>
  exact Own.there r a m
 |cons h r=>
  exact (List.mem_append.mp m).elim (h.there a) (Own.there r a)
 |brw _ _ r=>
  exact Own.there r a m
def noB(ds:List (Option D)):Prop:=∀ d,some d∈ds->d.tag≠.b
theorem Own.keep{Hf H Hf' H':Hp}(s:Same Hf Hf'):∀ {fp vs ds},Own Hf H fp vs ds->noB ds->(∀ a o,a∈fp->H a=some o->H' a=some o)->Own Hf' H' fp vs ds:=by
 intro _ _ _ hc n k
 cases hc with
 |nil=>
  exact .nil
 |skip r=>
  exact .skip (Own.keep s r (fun d m=>n d (List.mem_cons_of_mem _ m)) k)
 |cons h r=>
  exact .cons (h.keep s fun a o m=>k a o (List.mem_append_left _ m)) (Own.keep s r (fun d m=>n d (List.mem_cons_of_mem _ m)) fun a o m=>k a o (List.mem_append_right _ m))
 |brw t h r=>
  exact absurd t (n _ List.mem_cons_self)
theorem Own.mono{Hf H Hf' H':Hp}(s:Same Hf Hf')(s':Same H H'):∀ {fp vs ds},Own Hf H fp vs ds->Own Hf' H' fp vs ds:=by
 intro _ _ _ hc
 cases hc with
 |nil=>
  exact .nil
 |skip r=>
  exact .skip (Own.mono s s' r)
 |cons h r=>
  exact .cons (h.keep s fun a o _=>s' a o) (Own.mono s s' r)
 |brw t h r=>
  exact .brw t (h.mono s s') (Own.mono s s' r)
theorem Own.take{Hf H:Hp}:∀ {fp vs ds} {i:Nat} {d},Own Hf H fp vs ds->ds[i]?=some (some d)->d.tag≠.b →
    ∃ v fp1 fp2,vs[i]?=some (some v)/\RepO Hf H fp1 v d/\Own Hf H fp2 vs (ds.set i none)/\fp.Perm (fp1++fp2):=by
 intro _ _ _ ic d hc h n
 cases hc with
 |nil=>
  simp at h
 |skip r=>
  cases ic with
  |zero=>
   simp at h
  |succ i=>
   obtain ⟨v,fp1,fp2,e,q,r',p⟩:=Own.take (i:=i) r (by simpa using h) n;exact ⟨v,fp1,fp2,by simpa using e,q,.skip r',p⟩
 | @cons f1 _ _ _ _ _ q0 r=>
  cases ic with
  |zero=>
   simp at h;subst h;exact ⟨_,_,_,rfl,q0,.skip r,.refl _⟩
  |succ i=>
   obtain ⟨v,fp1,fp2,e,q,r',p⟩:=Own.take (i:=i) r (by simpa using h) n;refine ⟨v,fp1,f1++fp2,by simpa using e,q,.cons q0 r',?_⟩;refine (List.Perm.append_left f1 p).trans ?_;rw[<- List.append_assoc,<- List.append_assoc];exact List.Perm.append_right _ List.perm_append_comm
 |brw t q0 r=>
  cases ic with
  |zero=>
   simp at h;subst h;exact absurd t n
  |succ i=>
   obtain ⟨v,fp1,fp2,e,q,r',p⟩:=Own.take (i:=i) r (by simpa using h) n;exact ⟨v,fp1,fp2,by simpa using e,q,.brw t q0 r',p⟩
theorem Own.getV{Hf H:Hp}:∀ {fp vs ds} {i:Nat} {d},Own Hf H fp vs ds->ds[i]?=some (some d)->∃ v,vs[i]?=some (some v)/\RepV Hf H v d:=by
 intro _ _ _ ic d hc h
 cases hc with
 |nil=>
  simp at h
 |skip r=>
  cases ic with
  |zero=>
   simp at h
  |succ i=>
   simpa using Own.getV (i:=i) r (by simpa using h)
 |cons q r=>
  cases ic with
  |zero=>
   simp at h;subst h;exact ⟨_,rfl,q.v⟩
  |succ i=>
   simpa using Own.getV (i:=i) r (by simpa using h)
 |brw t q r=>
  cases ic with
  |zero=>
   simp at h;subst h;exact ⟨_,rfl,q⟩
  |succ i=>
   simpa using Own.getV (i:=i) r (by simpa using h)
theorem Own.put{Hf H:Hp}{fp1:List Addr}{v:V}{d:D}(q:RepO Hf H fp1 v d):∀ {fp vs ds} {i:Nat},Own Hf H fp vs ds->i<ds.length -> 
    ∃ fp',Own Hf H fp' (vs.set i (some v)) (ds.set i (some d))/\∃ fp2,fp'.Perm (fp1++fp2)/\fp2.Sublist fp:=by
 intro _ _ _ ic hc h
 cases hc with
 |nil=>
  simp at h
 |skip r=>
  cases ic with
  |zero=>
   exact ⟨_,.cons q r,_,.refl _,.refl _⟩
  |succ i=>
   obtain ⟨fp',o,fp2,p,s⟩:=Own.put (i:=i) q r (by simpa using h);exact ⟨fp',.skip o,fp2,p,s⟩
 | @cons f1 _ _ _ _ _ q0 r=>
  cases ic with
  |zero=>
   exact ⟨_,.cons q r,_,.refl _,List.sublist_append_right _ _⟩
  |succ i=>
   obtain ⟨fp',o,fp2,p,s⟩:=Own.put (i:=i) q r (by simpa using h);refine ⟨f1++fp',.cons q0 o,f1++fp2,?_,s.append_left f1⟩;refine (List.Perm.append_left f1 p).trans ?_;rw[<- List.append_assoc,<- List.append_assoc];exact List.Perm.append_right _ List.perm_append_comm
 |brw t q0 r=>
  cases ic with
  |zero=>
   exact ⟨_,.cons q r,_,.refl _,.refl _⟩
  |succ i=>
   obtain ⟨fp',o,fp2,p,s⟩:=Own.put (i:=i) q r (by simpa using h);exact ⟨fp',.brw t q0 o,fp2,p,s⟩
structure Fine (Hs H0 Hf H:Hp) (fp:List Addr):Prop where
 nd:fp.Nodup
 own:∀ a∈fp,Hf a=none/\H0 a=none
 fh:Same Hf H
 zh:Same H0 H
 sf:Same Hs Hf
 new:∀ a o,Hf a=some o->(∃ o',Hs a=some o')\/H0 a=none
def SR(Hs H0 H:Hp)(vs:List (Option V))(ds:List (Option D)):Prop:=∃ Hf fp,Own Hf H fp vs ds/\Fine Hs H0 Hf H fp
theorem Fine.sub{Hs H0 Hf H:Hp}{fp fq:List Addr}(F:Fine Hs H0 Hf H fp)(nd:fq.Nodup)(s:∀ a∈fq,a∈fp):Fine Hs H0 Hf H fq:=
 ⟨nd,fun a m=>F.own a (s a m),F.fh,F.zh,F.sf,F.new⟩
theorem Fine.subl{Hs H0 Hf H:Hp}{fp fq:List Addr}(F:Fine Hs H0 Hf H fp)(s:fq.Sublist fp):Fine Hs H0 Hf H fq:=F.sub (F.nd.sublist s) fun _ m=>s.subset m
theorem Fine.perm{Hs H0 Hf H:Hp}{fp fq:List Addr}(F:Fine Hs H0 Hf H fp)(p:fq.Perm fp):Fine Hs H0 Hf H fq:=F.sub (p.nodup_iff.mpr F.nd) fun _ m=>p.mem_iff.mp m
theorem Fine.froz{Hs H0 Hf H:Hp}{fp fq:List Addr}(F:Fine Hs H0 Hf H (fp++fq)):Fine Hs H0 (mix Hf H fp) H fq:=
 ⟨(List.nodup_append.mp F.nd).2.1,fun a m=>⟨by
  have hn:a∉fp:=fun z=>(List.nodup_append.mp F.nd).2.2 a z a m rfl
  rw[l8 hn];exact (F.own a (List.mem_append_right _ m)).1,(F.own a (List.mem_append_right _ m)).2⟩,tS F.fh,F.zh,F.sf.trans (cj F.fh),fun a o e=>by
  by_cases h:a∈fp
  ·exact .inr (F.own a (List.mem_append_left _ h)).2
  ·rw[l8 h] at e;exact F.new a o e⟩
section
variable {Hs H0 H:Hp}{vs:List (Option V)}{ds:List (Option D)}{v:V}{d:D}
theorem SR.same(S:SR Hs H0 H vs ds):Same H0 H:=let ⟨_,_,_,F⟩:=S;F.zh
theorem SR.drop{v:Option V}{d:Option D}(S:SR Hs H0 H (v::vs) (d::ds)):SR Hs H0 H vs ds:=by
 obtain ⟨Hf,fp,O,F⟩:=S
 cases O with
 |skip r=>exact ⟨Hf,_,r,F⟩
 |cons h r=>exact ⟨Hf,_,r,F.subl (List.sublist_append_right _ _)⟩
 |brw t h r=>exact ⟨Hf,_,r,F⟩
theorem SR.head(S:SR Hs H0 H (some v::vs) (some d::ds)):Rep H v d:=by
 obtain ⟨Hf,fp,O,F⟩:=S
 cases O with
 |cons h r=>exact h.v.rep F.fh
 |brw t h r=>exact h.rep F.fh
theorem SR.atom(S:SR Hs H0 H vs ds)(h:∀ H,Rep H v d)(t:d.tag=.f):SR Hs H0 H (some v::vs) (some d::ds):=by
 obtain ⟨Hf,fp,O,F⟩:=S;exact ⟨Hf,_,.cons (.fz (h Hf) t) O,F⟩
theorem SR.int(S:SR Hs H0 H vs ds){i:Int}:SR Hs H0 H (some (.int i)::vs) (some (.int i)::ds):=S.atom (fun _=>.int) rfl
theorem SR.bl(S:SR Hs H0 H vs ds){i:Bool}:SR Hs H0 H (some (.bl i)::vs) (some (.bl i)::ds):=S.atom (fun _=>.bl) rfl
theorem SR.str(S:SR Hs H0 H vs ds){i:Str}:SR Hs H0 H (some (.str i)::vs) (some (.str i)::ds):=S.atom (fun _=>.str) rfl
theorem SR.non(S:SR Hs H0 H vs ds):SR Hs H0 H (some .non::vs) (some .non::ds):=S.atom (fun _=>.non) rfl
theorem SR.grow{H':Hp}(S:SR Hs H0 H vs ds)(s:Same H H'):SR Hs H0 H' vs ds:=by
 obtain ⟨Hf,fp,O,F⟩:=S;exact ⟨Hf,fp,O.mono (Same.refl _) s,F.nd,F.own,F.fh.trans s,F.zh.trans s,F.sf,F.new⟩
theorem SR.frz(S:SR Hs H0 H (some v::vs) (some d::ds))(t:d.tag≠.b):SR Hs H0 H (some v::vs) (some d.fz::ds):=by
 obtain ⟨Hf,fp,O,F⟩:=S
 cases O with
 |cons h r=>
  refine ⟨mix Hf H _,_,.cons (.fz (h.froz F.fh fun a m=>m) ?_) (r.mono (cj F.fh) (Same.refl _)),F.froz⟩
  cases d<;>rfl
 |brw z h r=>exact absurd z t
theorem SR.get(S:SR Hs H0 H vs ds){i:Nat}(e:ds[i]?=some (some d)):∃ v,vs[i]?=some (some v)/\SR Hs H0 H (some v::vs) (some d.rd::ds):=by
 obtain ⟨Hf,fp,O,F⟩:=S;obtain ⟨v,e',h⟩:=O.getV e;refine ⟨v,e',Hf,fp,?_,F⟩
 cases h with
 |fz h t=>
  have:d.rd=d:=by cases d<;>first | rfl | (cases t;rfl) | cases t
  rw[this];exact Own.cons (fp:=[]) (.fz h t) O
 |lst t h r=>
  rename_i tt;refine .brw ?_ (?_:RepV Hf H _ (D.rd (.lst tt _))) O
  ·cases tt<;>first | rfl | exact absurd rfl t
  ·cases tt<;>first | exact absurd rfl t | exact .lst (by decide) h r
 |dic t h r=>
  rename_i tt;refine .brw ?_ (?_:RepV Hf H _ (D.rd (.dic tt _))) O
  ·cases tt<;>first | rfl | exact absurd rfl t
  ·cases tt<;>first | exact absurd rfl t | exact .dic (by decide) h r
 |ins t h r=>
  rename_i tt;refine .brw ?_ (?_:RepV Hf H _ (D.rd (.ins tt _ _))) O
  ·cases tt<;>first | rfl | exact absurd rfl t
  ·cases tt<;>first | exact absurd rfl t | exact .ins (by decide) h r
 |slf h r=>exact .brw rfl (.ins (by decide) h r) O
end
end Mi
namespace Mi
open PySem L2
def D.asF:D->D
 | .lst _ xs=>.lst .f xs
 | .dic _ xs=>.dic .f xs
 | .ins _ C fs=>.ins .f C fs
 | .slf _ C fs=>.ins .f C fs
 |d=>d
theorem D.asF_tag(d:D):d.asF.tag=.f:=by cases d<;>rfl
theorem D.fz_tag(d:D):d.fz.tag=.f:=by cases d<;>rfl
theorem Rep.asF{H:Hp}{v:V}{d:D}(h:Rep H v d):Rep H v d.asF:=by
 cases h with
 |lst h r=>exact .lst h r
 |dic h r=>exact .dic h r
 |non=>exact .non
 |bl=>exact .bl
 |int=>exact .int
 |str=>exact .str
 |tup h r=>exact .tup h r
 |ins h r=>exact .ins h r
 |scr h=>exact .scr h
 |slf h r=>exact .ins h r
theorem RepOs.ofReps{Hf H:Hp}:∀ {us es},Reps Hf us es->(∀ e∈es,e.tag=.f)->RepOs Hf H [] us es:=by
 intro _ _ hc t
 cases hc with
 |nil=>
  exact .nil
 |cons h r=>
  exact RepOs.cons (fp:=[]) (.fz h (t _ List.mem_cons_self)) (RepOs.ofReps r fun e m=>t e (List.mem_cons_of_mem _ m))
theorem dz(es:List D):∀ e∈D.fzs es,e.tag=.f:=by
 rw[D.fzs_map];intro e m;obtain ⟨x,_,rfl⟩:=List.mem_map.mp m;exact x.fz_tag
section
variable {Hs H0 H Hf:Hp}{vs:List (Option V)}{ds:List (Option D)}{v:V}{d:D}{fp:List Addr}
theorem SR.set(S:SR Hs H0 H (some v::vs) (some d::ds))(t:d.tag≠.b){i:Nat}(hi:i<ds.length):SR Hs H0 H (vs.set i (some v)) (ds.set i (some d)):=by
 obtain ⟨Hf,fp,O,F⟩:=S
 cases O with
 |cons h r=>
  obtain ⟨fp',O',fp2,p,s⟩:=Own.put h r hi;exact ⟨Hf,fp',O',(F.subl (List.Sublist.append_left s _)).perm p⟩
 |brw z h r=>exact absurd z t
theorem SR.only{vs':List (Option V)}{ds':List (Option D)}(S:SR Hs H0 H (some v::vs) (some d::ds)):SR Hs H0 H [some v] [some d]:=by
 obtain ⟨Hf,fp,O,F⟩:=S
 cases O with
 |cons h r=>
  rename_i fp1 fp2;have:=Own.cons h (Own.nil (Hf:=Hf) (H:=H));exact ⟨Hf,_,this,F.subl (by simp)⟩
 |brw z h r=>exact ⟨Hf,[],.brw z h .nil,F.subl (List.nil_sublist _)⟩
theorem SR.move(S:SR Hs H0 H vs ds){i:Nat}(e:ds[i]?=some (some d))(t:d.tag≠.b):∃ v,vs[i]?=some (some v)/\SR Hs H0 H (some v::vs) (some d::ds.set i none):=by
 obtain ⟨Hf,fp,O,F⟩:=S;obtain ⟨v,fp1,fp2,e',h,O',p⟩:=O.take e t;exact ⟨v,e',Hf,_,.cons h O',F.perm p.symm⟩
def hv(us:List V):List (Option V):=us.reverse.map some
def hd(es:List D):List (Option D):=es.reverse.map some
theorem gQ(us:List V)(u:V)(vs:List (Option V)):hv (us++[u])++vs=some u::(hv us++vs):=by simp[hv]
theorem gR(us:List D)(u:D)(vs:List (Option D)):hd (us++[u])++vs=some u::(hd us++vs):=by simp[hd]
theorem Own.takeAll{us:List V}{es:List D}(hl:us.length=es.length)(hb:∀ e∈es,e.tag≠.b)(O:Own Hf H fp (hv us++vs) (hd es++ds)) :
    ∃ fp1 fp2,RepOs Hf H fp1 us es/\Own Hf H fp2 vs ds/\fp.Perm (fp1++fp2):=by
 induction us using List.reverseRecOn' generalizing es fp with
 |nil=>
  have:es=[]:=by cases es with | nil=>rfl | cons x y=>simp at hl
  subst this;exact ⟨[],fp,.nil,by simpa [hv,hd] using O,.refl _⟩
 |snoc us u ih=>
  obtain ⟨es',e,rfl⟩:∃ es' e,es=es'++[e]:=by
   cases es using List.reverseRecOn' with
   |nil=>simp at hl
   |snoc es' e=>exact ⟨es',e,rfl⟩
  rw[gQ,gR] at O;have hl':us.length=es'.length:=by simpa using hl
  cases O with
  |cons h r=>
   rename_i f1 f2;obtain ⟨fp1,fp2,R,O',p⟩:=ih hl' (fun x m=>hb x (List.mem_append_left _ m)) r;have R1:RepOs Hf H (f1++[]) [u] [e]:=.cons h .nil;refine ⟨fp1++f1,fp2,by simpa using R.append R1,O',?_⟩;refine (List.Perm.append_left _ p).trans ?_;rw[<- List.append_assoc];exact List.Perm.append_right _ List.perm_append_comm
  |brw z h r=>exact absurd z (hb e (by simp))
theorem SR.mkList{us:List V}{es:List D}(S:SR Hs H0 H (hv us++vs) (hd es++ds))(hl:us.length=es.length)(hb:∀ e∈es,e.tag≠.b){p:Addr}(hp:H p=none) :
    SR Hs H0 (upd H p (.lst us)) (some (.ref p)::vs) (some (.lst .o es)::ds):=by
 obtain ⟨Hf,fp,O,F⟩:=S;obtain ⟨fp1,fp2,R,O',pm⟩:=O.takeAll hl hb;have F':=F.perm pm.symm;have s:Same H (upd H p (.lst us)):=fun b o e=>by rw[aH (aY e hp)];exact e
 have hnp:p∉fp1++fp2:=fun m=>by
  rcases List.mem_append.mp m with m | m
  ·obtain ⟨o,e⟩:=R.there p m;rw[hp] at e;cases e
  ·obtain ⟨o,e⟩:=O'.there p m;rw[hp] at e;cases e
 have hf0:∀ {H1:Hp},Same H1 H->H1 p=none:=fun {H1} q=>by
  cases e:H1 p with
  |none=>rfl
  |some o=>have:=q p o e;rw[hp] at this;cases this
 refine ⟨Hf,(p::fp1)++fp2,.cons (.lst bg (R.keep (Same.refl _) fun a o _ e=>s a o e)) (O'.mono (Same.refl _) s),?_,?_,F'.fh.trans s,F'.zh.trans s,F'.sf,F'.new⟩
 ·rw[List.cons_append];exact List.nodup_cons.mpr ⟨hnp,F'.nd⟩
 ·intro a m
  rw[List.cons_append] at m;rcases List.mem_cons.mp m with e | m
  ·subst e;exact ⟨hf0 F'.fh,hf0 F'.zh⟩
  ·exact F'.own a m
theorem SR.frozen{us:List V}{es:List D}(S:SR Hs H0 H (hv us++vs) (hd es++ds))(hl:us.length=es.length)(hb:∀ e∈es,e.tag≠.b) :
    ∃ Hf fp,Own Hf H fp vs ds/\Fine Hs H0 Hf H fp/\Reps Hf us (D.fzs es):=by
 obtain ⟨Hf,fp,O,F⟩:=S;obtain ⟨fp1,fp2,R,O',pm⟩:=O.takeAll hl hb;have F':=F.perm pm.symm;exact ⟨mix Hf H fp1,fp2,O'.mono (cj F'.fh) (Same.refl _),F'.froz,R.froz F'.fh fun a m=>m⟩
theorem Fine.fresh(F:Fine Hs H0 Hf H fp){p:Addr}(hp:H p=none):Hf p=none/\H0 p=none:=by
 constructor
 ·cases e:Hf p with
  |none=>rfl
  |some o=>have:=F.fh p o e;rw[hp] at this;cases this
 ·cases e:H0 p with
  |none=>rfl
  |some o=>have:=F.zh p o e;rw[hp] at this;cases this
theorem SR.laidF{o:HO}(O:Own Hf H fp vs ds)(F:Fine Hs H0 Hf H fp){p:Addr}(hp:H p=none)(r:Rep (upd Hf p o) v d)(t:d.tag=.f) :
    SR Hs H0 (upd H p o) (some v::vs) (some d::ds):=by
 obtain ⟨hf,h0⟩:=F.fresh hp;have s:Same H (upd H p o):=fun b o e=>by rw[aH (aY e hp)];exact e
 have sf:Same Hf (upd Hf p o):=fun b o e=>by rw[aH (aY e hf)];exact e
 refine ⟨upd Hf p o,[]++fp,.cons (.fz r t) (O.mono sf s),F.nd,fun a m=>?_,fun b u e=>?_,F.zh.trans s,F.sf.trans sf,fun a u e=>?_⟩
 ·have hne:a≠p:=fun z=>by subst z;obtain ⟨o,e⟩:=O.there a m;rw[hp] at e;cases e
  rw[aH hne];exact F.own a m
 ·by_cases hb:b=p
  ·subst hb;rw[bg] at e ⊢;exact e
  ·rw[aH hb] at e ⊢;exact F.fh b u e
 ·by_cases hb:a=p
  ·subst hb;exact .inr h0
  ·rw[aH hb] at e;exact F.new a u e
theorem SR.mkTup{us:List V}{es:List D}(S:SR Hs H0 H (hv us++vs) (hd es++ds))(hl:us.length=es.length)(hb:∀ e∈es,e.tag≠.b){p:Addr}(hp:H p=none) :
    SR Hs H0 (upd H p (.tup us)) (some (.ref p)::vs) (some (.tup (D.fzs es))::ds):=by
 obtain ⟨Hf,fp,O,F,R⟩:=S.frozen hl hb;have sf:Same Hf (upd Hf p (.tup us)):=fun b o e=>by rw[aH (aY e (F.fresh hp).1)];exact e
 exact SR.laidF O F hp (.tup bg (R.mono sf)) rfl
def D.its:D->Option (List D)
 | .lst .b xs=>if xs.all (fun x=>x.tag == .f) then some xs else none
 | .lst .f xs=>some (xs.map D.asF)
 | .lst .o xs=>some (D.fzs xs)
 | .tup xs=>some (xs.map D.asF)
 |_=>none
theorem Reps.asF{H:Hp}:∀ {us es},Reps H us es->Reps H us (es.map D.asF):=by
 intro _ _ hc
 cases hc with
 |nil=>
  exact .nil
 |cons h r=>
  exact .cons h.asF (Reps.asF r)
theorem RepVs.frozen{Hf H:Hp}:∀ {us es},RepVs Hf H us es->(∀ e∈es,e.tag=.f)->Reps Hf us es:=by
 intro _ _ hc t
 cases hc with
 |nil=>
  exact .nil
 |cons h r=>
  exact .cons (by
        cases h with
        |fz h _=>exact h
        |lst z _ _=>exact absurd (t _ List.mem_cons_self) z
        |dic z _ _=>exact absurd (t _ List.mem_cons_self) z
        |ins z _ _=>exact absurd (t _ List.mem_cons_self) z
        |slf _ _=>exact absurd (t _ List.mem_cons_self) (fun z=>nomatch z)) (RepVs.frozen r fun e m=>t e (List.mem_cons_of_mem _ m))
theorem D.its_tag{d:D}{ys:List D}(h:d.its=some ys):∀ e∈ys,e.tag=.f:=by
 cases d with
 |lst t xs=>
  cases t with
  |f=>simp[D.its] at h;subst h;intro e m;obtain ⟨x,_,rfl⟩:=List.mem_map.mp m;exact x.asF_tag
  |o=>simp[D.its] at h;subst h;exact dz xs
  |b=>
   simp only[D.its] at h;split at h
   ·cases h
    rename_i hall;intro e m;simpa using List.all_eq_true.mp hall e m
   ·cases h
 |tup xs=>simp[D.its] at h;subst h;intro e m;obtain ⟨x,_,rfl⟩:=List.mem_map.mp m;exact x.asF_tag
 |_=>simp[D.its] at h
def D.isL:D->Bool
 | .lst _ _=>true
 |_=>false
theorem Own.items(O:Own Hf H fp (some v::vs) (some d::ds))(F:Fine Hs H0 Hf H fp){ys:List D}(hy:d.its=some ys) :
    ∃ a us,v=.ref a/\(H a=some (if d.isL then .lst us else .tup us))/\∃ Hg fq,Own Hg H fq vs ds/\Fine Hs H0 Hg H fq/\Same Hf Hg/\Reps Hg us ys:=by
 cases d with
 |lst t xs=>
  cases t with
  |f=>
   simp[D.its] at hy;subst hy
   cases O with
   |cons h r=>
    cases h with
    |fz h _=>cases h with | lst h q=>exact ⟨_,_,rfl,F.fh _ _ h,Hf,_,r,F.subl (List.sublist_append_right _ _),Same.refl _,q.asF⟩
   |brw z h r=>cases z
  |o=>
   simp[D.its] at hy;subst hy
   cases O with
   |cons h r=>
    cases h with
    |fz h z=>cases z
    |lst h q=>
     rename_i a xs' fp1;refine ⟨_,_,rfl,h,mix Hf H (a::fp1),_,r.mono (cj F.fh) (Same.refl _),F.froz,cj F.fh,q.froz F.fh fun b m=>List.mem_cons_of_mem _ m⟩
   |brw z h r=>cases z
  |b=>
   simp only[D.its] at hy;split at hy
   ·cases hy
    rename_i hall
    cases O with
    |cons h r=>
     cases h with
     |fz h z=>cases z
    |brw z h r=>
     cases h with
     |fz h z=>cases z
     |lst z h q=>exact ⟨_,_,rfl,h,Hf,_,r,F,Same.refl _,q.frozen fun e m=>by simpa using List.all_eq_true.mp hall e m⟩
   ·cases hy
 |tup xs=>
  simp[D.its] at hy;subst hy
  cases O with
  |cons h r=>
   cases h with
   |fz h _=>cases h with | tup h q=>exact ⟨_,_,rfl,F.fh _ _ h,Hf,_,r,F.subl (List.sublist_append_right _ _),Same.refl _,q.asF⟩
  |brw z h r=>cases z
 |_=>simp[D.its] at hy
theorem SR.items(S:SR Hs H0 H (some v::vs) (some d::ds)){ys:List D}(hy:d.its=some ys) :
    ∃ a us,v=.ref a/\(H a=some (if d.isL then .lst us else .tup us))/\∃ Hf fp,Own Hf H fp vs ds/\Fine Hs H0 Hf H fp/\Reps Hf us ys:=by
 obtain ⟨Hf,fp,O,F⟩:=S;obtain ⟨a,us,e1,e2,Hg,fq,O',F',_,R⟩:=O.items F hy;exact ⟨a,us,e1,e2,Hg,fq,O',F',R⟩
theorem Own.itemsC(O:Own Hf H fp (some v::vs) (some d::ds))(F:Fine Hs H0 Hf H fp){ys:List D}(hy:d.its=some ys)(tb:d.tag≠.b) :
    ∃ a us,v=.ref a/\∃ Hg fq,Own Hg H fq vs ds/\Fine Hs H0 Hg H fq/\Same Hf Hg/\Hg a=some (if d.isL then .lst us else .tup us)/\Reps Hg us ys:=by
 cases d with
 |lst t xs=>
  cases t with
  |f=>
   simp[D.its] at hy;subst hy
   cases O with
   |cons h r=>
    cases h with
    |fz h _=>cases h with | lst h q=>exact ⟨_,_,rfl,Hf,_,r,F.subl (List.sublist_append_right _ _),Same.refl _,h,q.asF⟩
   |brw z h r=>cases z
  |o=>
   simp[D.its] at hy;subst hy
   cases O with
   |cons h r=>
    cases h with
    |fz h z=>cases z
    |lst h q=>
     rename_i a xs' fp1;exact ⟨_,_,rfl,mix Hf H (a::fp1),_,r.mono (cj F.fh) (Same.refl _),F.froz,cj F.fh,by rw[iS List.mem_cons_self];exact h,q.froz F.fh fun b m=>List.mem_cons_of_mem _ m⟩
   |brw z h r=>cases z
  |b=>exact absurd rfl tb
 |tup xs=>
  simp[D.its] at hy;subst hy
  cases O with
  |cons h r=>
   cases h with
   |fz h _=>cases h with | tup h q=>exact ⟨_,_,rfl,Hf,_,r,F.subl (List.sublist_append_right _ _),Same.refl _,h,q.asF⟩
  |brw z h r=>cases z
 |_=>simp[D.its] at hy
def D.el:D->Nat->Option D
 | .lst .f xs,i=>xs[i]?.map D.asF
 | .lst .o xs,i=>xs[i]?
 | .lst .b xs,i=>xs[i]?.map D.rd
 | .tup xs,i=>xs[i]?.map D.asF
 |_,_=>none
theorem RepOs.item{Hf H:Hp}:∀ {fp us es} {i:Nat} {e},RepOs Hf H fp us es->es[i]?=some e->∃ u fp1,us[i]?=some u/\RepO Hf H fp1 u e/\fp1.Sublist fp:=by
 intro _ _ _ ic e hc q
 cases hc with
 |nil=>
  simp at q
 |cons h r=>
  cases ic with
  |zero=>
   simp at q;subst q;exact ⟨_,_,rfl,h,List.sublist_append_left _ _⟩
  |succ i=>
   obtain ⟨u,fp1,a,b,c⟩:=RepOs.item (i:=i) r (by simpa using q);exact ⟨u,fp1,by simpa using a,b,c.trans (List.sublist_append_right _ _)⟩
theorem SR.elem(S:SR Hs H0 H (some v::vs) (some d::ds)){i:Nat}{e:D}(he:d.el i=some e) :
    ∃ a us u,v=.ref a/\(H a=some (if d.isL then .lst us else .tup us))/\us[i]?=some u/\SR Hs H0 H (some u::vs) (some e::ds):=by
 obtain ⟨Hf,fp,O,F⟩:=S
 cases d with
 |lst t xs=>
  cases t with
  |f=>
   simp[D.el] at he;obtain ⟨x,hx,rfl⟩:=he
   cases O with
   |cons h r=>
    cases h with
    |fz h _=>
     cases h with
     |lst h q=>
      obtain ⟨u,hu,ru⟩:=q.get hx;exact ⟨_,_,u,rfl,F.fh _ _ h,hu,Hf,_,.cons (.fz ru.asF x.asF_tag) r,F.subl (by simp)⟩
   |brw z h r=>cases z
  |o=>
   simp[D.el] at he
   cases O with
   |cons h r=>
    cases h with
    |fz h z=>cases z
    |lst h q=>
     obtain ⟨u,fp1,hu,ru,sl⟩:=q.item he;exact ⟨_,_,u,rfl,h,hu,Hf,_,.cons ru r,F.subl (List.Sublist.append_right (sl.trans (List.sublist_cons_self _ _)) _)⟩
   |brw z h r=>cases z
  |b=>
   simp[D.el] at he;obtain ⟨x,hx,rfl⟩:=he
   cases O with
   |cons h r=>
    cases h with
    |fz h z=>cases z
   |brw z h r=>
    cases h with
    |fz h z=>cases z
    |lst z h q=>
     obtain ⟨u,hu,ru⟩:=q.get hx;refine ⟨_,_,u,rfl,h,hu,Hf,?_⟩
     cases ru with
     |fz ru t=>
      have:x.rd=x:=by cases x<;>first | rfl | (cases t;rfl) | cases t
      rw[this];exact ⟨_,.cons (.fz ru t) r,F⟩
     |lst t h' r'=>
      rename_i tt;refine ⟨_,.brw ?_ ?_ r,F⟩
      ·cases tt<;>first | rfl | exact absurd rfl t
      ·cases tt<;>first | exact absurd rfl t | exact .lst (by decide) h' r'
     |dic t h' r'=>
      rename_i tt;refine ⟨_,.brw ?_ ?_ r,F⟩
      ·cases tt<;>first | rfl | exact absurd rfl t
      ·cases tt<;>first | exact absurd rfl t | exact .dic (by decide) h' r'
     |ins t h' r'=>
      rename_i tt;refine ⟨_,.brw ?_ ?_ r,F⟩
      ·cases tt<;>first | rfl | exact absurd rfl t
      ·cases tt<;>first | exact absurd rfl t | exact .ins (by decide) h' r'
     |slf h' r'=>exact ⟨_,.brw rfl (.ins (by decide) h' r') r,F⟩
 |tup xs=>
  simp[D.el] at he;obtain ⟨x,hx,rfl⟩:=he
  cases O with
  |cons h r=>
   cases h with
   |fz h _=>
    cases h with
    |tup h q=>
     obtain ⟨u,hu,ru⟩:=q.get hx;exact ⟨_,_,u,rfl,F.fh _ _ h,hu,Hf,_,.cons (.fz ru.asF x.asF_tag) r,F.subl (by simp)⟩
  |brw z h r=>cases z
 |_=>simp[D.el] at he
theorem SR.told{H':Hp}(O:Own Hf H fp vs ds)(F:Fine Hs H0 Hf H fp)(R:SR Hf H H' [some v] [some d])(t:d.tag≠.b):SR Hs H0 H' (some v::vs) (some d::ds):=by
 obtain ⟨Hg,fq,O',G⟩:=R
 cases O' with
 |cons h r=>
  cases r
  rename_i fq;rw[List.append_nil] at G;have sH:=G.zh;refine ⟨Hg,fq++fp,.cons h (O.mono G.sf sH),?_,fun a m=>?_,G.fh,F.zh.trans sH,F.sf.trans G.sf,fun a o e=>?_⟩
  ·refine List.nodup_append.mpr ⟨G.nd,F.nd,fun a m b n z=>?_⟩
   subst z;obtain ⟨o,e⟩:=O.there a n;rw[(G.own a m).2] at e;cases e
  ·rcases List.mem_append.mp m with m | m
   ·refine ⟨(G.own a m).1,?_⟩
    cases e:H0 a with
    |none=>rfl
    |some o=>have:=F.zh a o e;rw[(G.own a m).2] at this;cases this
   ·refine ⟨?_,(F.own a m).2⟩
    cases e:Hg a with
    |none=>rfl
    |some o=>
     rcases G.new a o e with ⟨o',z⟩ | z
     ·rw[(F.own a m).1] at z;cases z
     ·obtain ⟨o',y⟩:=O.there a m;rw[z] at y;cases y
  ·rcases G.new a o e with ⟨o',z⟩ | z
   ·exact F.new a o' z
   ·refine .inr ?_
    cases q:H0 a with
    |none=>rfl
    |some u=>have:=F.zh a u q;rw[z] at this;cases this
 |brw z h r=>exact absurd z t
end
theorem RepOs.pick{Hf H:Hp}:∀ {fp us es} {k:Nat} {e},RepOs Hf H fp us es->es[k]?=some e →
    ∃ u f1 f2,us[k]?=some u/\RepO Hf H f1 u e/\RepOs Hf H f2 (us.eraseIdx k) (es.eraseIdx k)/\fp.Perm (f1++f2):=by
 intro _ _ _ ic e hc q
 cases hc with
 |nil=>
  simp at q
 | @cons f0 _ _ _ _ _ h r=>
  cases ic with
  |zero=>
   simp at q;subst q;exact ⟨_,_,_,rfl,h,r,.refl _⟩
  |succ k=>
   obtain ⟨u,f1,f2,a,b,c,p⟩:=RepOs.pick (k:=k) r (by simpa using q);refine ⟨u,f1,f0++f2,by simpa using a,b,.cons h c,(List.Perm.append_left f0 p).trans ?_⟩;rw[<- List.append_assoc,<- List.append_assoc];exact List.Perm.append_right _ List.perm_append_comm
theorem Own.fill{Hf H:Hp}{fp1:List Addr}{v:V}{d:D}(q:RepO Hf H fp1 v d):∀ {fp vs ds} {i:Nat},Own Hf H fp vs ds->ds[i]?=some none →
    ∃ fp',Own Hf H fp' (vs.set i (some v)) (ds.set i (some d))/\fp'.Perm (fp1++fp):=by
 intro _ _ _ ic hc h
 cases hc with
 |nil=>
  simp at h
 |skip r=>
  cases ic with
  |zero=>
   exact ⟨_,.cons q r,.refl _⟩
  |succ i=>
   obtain ⟨fp',o,p⟩:=Own.fill (i:=i) q r (by simpa using h);exact ⟨fp',.skip o,p⟩
 | @cons f1 _ _ _ _ _ q0 r=>
  cases ic with
  |zero=>
   simp at h
  |succ i=>
   obtain ⟨fp',o,p⟩:=Own.fill (i:=i) q r (by simpa using h);refine ⟨f1++fp',.cons q0 o,?_⟩;refine (List.Perm.append_left f1 p).trans ?_;rw[<- List.append_assoc,<- List.append_assoc];exact List.Perm.append_right _ List.perm_append_comm
 |brw t q0 r=>
  cases ic with
  |zero=>
   simp at h
  |succ i=>
   obtain ⟨fp',o,p⟩:=Own.fill (i:=i) q r (by simpa using h);exact ⟨fp',.brw t q0 o,p⟩
section
variable {Hs H0 H Hf:Hp}{vs:List (Option V)}{ds:List (Option D)}{v:V}{d:D}{fp:List Addr}
theorem noB.set(n:noB ds){i:Nat}{x:Option D}(h:∀ d,x=some d->d.tag≠.b):noB (ds.set i x):=fun d m=>by
 rcases List.mem_or_eq_of_mem_set m with m | e
 ·exact n d m
 ·exact h d e.symm
theorem Own.write(O:Own Hf H fp vs ds)(n:noB ds)(nd:fp.Nodup){i:Nat}(e:ds[i]?=some (some d))(t:d.tag=.o) :
    ∃ p fpx fpr,vs[i]?=some (some (.ref p))/\RepO Hf H (p::fpx) (.ref p) d/\fp.Perm (p::fpx++fpr) ∧
     ∀ H' d' fq,(∀ a o,a∈fpr->H a=some o->H' a=some o)->RepO Hf H' fq (.ref p) d'->∃ fp',Own Hf H' fp' vs (ds.set i (some d'))/\fp'.Perm (fq++fpr):=by
 obtain ⟨v,fp1,fp2,e',h,O',pm⟩:=O.take e (by rw[t];decide);have hi:i<ds.length:=(List.getElem?_eq_some_iff.mp e).1;have hvi:vs.set i (some v)=vs:=by
  obtain ⟨a,b⟩:=List.getElem?_eq_some_iff.mp e';rw[<- b];exact List.set_getElem_self a
 have fin:∀ H' d' fq,(∀ a o,a∈fp2->H a=some o->H' a=some o)->RepO Hf H' fq v d'->∃ fp',Own Hf H' fp' vs (ds.set i (some d'))/\fp'.Perm (fq++fp2):=fun H' d' fq kp h'=>by
  have O1:Own Hf H' fp2 vs (ds.set i none):=O'.keep (Same.refl _) (n.set fun _ z=>nomatch z) kp;obtain ⟨fp',O2,p2⟩:=O1.fill h' (i:=i) (by simp[hi]);rw[hvi,List.set_set] at O2;exact ⟨fp',O2,p2⟩
 cases h with
 |fz h z=>rw[t] at z;cases z
 |lst h r=>exact ⟨_,_,_,e',.lst h r,pm,fin⟩
 |dic h r=>exact ⟨_,_,_,e',.dic h r,pm,fin⟩
 |slf h q r=>exact ⟨_,[_],_,e',.slf h q r,pm,fin⟩
theorem dA{H:Hp}{p:Addr}{o:HO}{a:Addr}{u:HO}(h:a≠p)(e:H a=some u):upd H p o a=some u:=by rw[aH h];exact e
theorem Fine.wrote(F:Fine Hs H0 Hf H fp){p:Addr}(hp:p∈fp){o:HO}{fq:List Addr}(nd:fq.Nodup)(own:∀ a∈fq,Hf a=none/\H0 a=none):Fine Hs H0 Hf (upd H p o) fq:=by
 have ne:∀ {H1:Hp},H1 p=none->Same H1 H->Same H1 (upd H p o):=fun {H1} hn s a u e=>by
  refine dA (fun z=>?_) (s a u e);subst z;rw[hn] at e;cases e
 exact ⟨nd,own,ne (F.own p hp).1 F.fh,ne (F.own p hp).2 F.zh,F.sf,F.new⟩
theorem SR.append(S:SR Hs H0 H (some v::vs) (some d::ds))(t:d.tag≠.b)(n:noB ds){i:Nat}{xs:List D}(e:ds[i]?=some (some (.lst .o xs))) :
    ∃ p us,vs[i]?=some (some (.ref p))/\H p=some (.lst us)/\us.length=xs.length/\SR Hs H0 (upd H p (.lst (us++[v]))) vs (ds.set i (some (.lst .o (xs++[d])))):=by
 obtain ⟨Hf,fp,O,F⟩:=S
 cases O with
 |brw z h r=>exact absurd z t
 |cons h r=>
  rename_i f0 f1;obtain ⟨p,fpx,fpr,e',q,pm,w⟩:=r.write n (List.nodup_append.mp F.nd).2.1 e rfl
  cases q with
  |lst q R=>
   rename_i us;have pm':(f0++f1).Perm (p::(fpx++f0)++fpr):=by
    refine (List.Perm.append_left f0 pm).trans ?_;rw[List.cons_append,List.cons_append];refine List.perm_middle.trans (List.Perm.cons p ?_);rw[<- List.append_assoc];exact List.Perm.append_right _ List.perm_append_comm
   have F':=F.perm pm'.symm;have hpn:p∉(fpx++f0)++fpr:=by
    have:=F'.nd;rw[List.cons_append] at this;exact (List.nodup_cons.mp this).1
   have hp:p∈f0++f1:=pm'.symm.subset (by simp);have kp:∀ (l:List Addr),(∀ a∈l,a∈(fpx++f0)++fpr)->∀ a o,a∈l->H a=some o->upd H p (.lst (us++[v])) a=some o:=fun l hl a o m z=>
    dA (fun y=>by subst y;exact hpn (hl a m)) z
   have R':RepOs Hf (upd H p (.lst (us++[v]))) (fpx++f0) (us++[v]) (xs++[d]):=by
    have r1:RepOs Hf (upd H p (.lst (us++[v]))) (f0++[]) [v] [d]:=.cons (h.keep (Same.refl _) (kp f0 fun a m=>by simp[m])) .nil;rw[List.append_nil] at r1;exact (R.keep (Same.refl _) (kp fpx fun a m=>by simp[m])).append r1
   obtain ⟨fp',O',p'⟩:=w (upd H p (.lst (us++[v]))) (.lst .o (xs++[d])) (p::(fpx++f0)) (kp fpr fun a m=>by simp[m]) (.lst bg R');refine ⟨p,us,e',q,R.length,Hf,fp',O',F.wrote hp ?_ ?_⟩
   ·exact (p'.nodup_iff).mpr F'.nd
   ·intro a m
    exact F'.own a (p'.subset m)
theorem SR.popAt(S:SR Hs H0 H vs ds)(n:noB ds){i k:Nat}{xs:List D}{x:D}(e:ds[i]?=some (some (.lst .o xs)))(ex:xs[k]?=some x)(tx:x.tag≠.b) :
    ∃ p us u,vs[i]?=some (some (.ref p))/\H p=some (.lst us)/\us.length=xs.length/\us[k]?=some u ∧
     SR Hs H0 (upd H p (.lst (us.eraseIdx k))) (some u::vs) (some x::ds.set i (some (.lst .o (xs.eraseIdx k)))):=by
 obtain ⟨Hf,fp,O,F⟩:=S;obtain ⟨p,fpx,fpr,e',q,pm,w⟩:=O.write n F.nd e rfl
 cases q with
 |lst q R=>
  rename_i us;obtain ⟨u,f1,f2,eu,hu,R2,p2⟩:=R.pick ex;have pm':fp.Perm (f1++(p::f2++fpr)):=by
   refine pm.trans ?_;rw[List.cons_append,List.cons_append];refine List.Perm.trans (List.Perm.cons p ((List.Perm.append_right fpr p2).trans (by rw[List.append_assoc]))) List.perm_middle.symm
  have F':=F.perm pm'.symm;have hp:p∈fp:=pm'.symm.subset (by simp);have nd':=F'.nd;have hpn:p∉f1++(f2++fpr):=by
   have:(p::(f1++(f2++fpr))).Nodup:=(List.perm_middle.nodup_iff).mp (by simpa using nd');exact (List.nodup_cons.mp this).1
  have kp:∀ (l:List Addr),(∀ a∈l,a∈f1++(f2++fpr))->∀ a o,a∈l->H a=some o->upd H p (.lst (us.eraseIdx k)) a=some o:=fun l hl a o m z=>
   dA (fun y=>by subst y;exact hpn (hl a m)) z
  obtain ⟨fp',O',p'⟩:=w (upd H p (.lst (us.eraseIdx k))) (.lst .o (xs.eraseIdx k)) (p::f2) (kp fpr fun a m=>by simp[m]) (.lst bg (R2.keep (Same.refl _) (kp f2 fun a m=>by simp[m])));refine ⟨p,us,u,e',q,R.length,eu,Hf,f1++fp',.cons (hu.keep (Same.refl _) (kp f1 fun a m=>by simp[m])) O',F.wrote hp ?_ ?_⟩
  ·exact ((List.Perm.append_left f1 p').nodup_iff).mpr nd'
  ·intro a m
   exact F'.own a ((List.Perm.append_left f1 p').subset m)
end
end Mi
namespace Mi
open PySem PySem.Spec L2
open PyProof.Rows hiding St
inductive Res (α:Type) where
 |ok (a:α) | exc (C:Value) | bad
abbrev ad:=List (Option D)
namespace Res
def bind{α β:Type}:Res α->(α->Res β)->Res β
 | .ok a,f=>f a
 | .exc C,_=>.exc C
 | .bad,_=>.bad
instance:Monad Res where
 pure:=.ok
 bind:=Res.bind
end Res
def Post{α:Type}(Ex:Value->Prop)(r:Res α)(k:α->Prop):Prop:=
 match r with
 | .ok a=>k a
 | .exc C=>Ex C
 | .bad=>False
theorem Post.bind{α β:Type}{Ex:Value->Prop}{r:Res α}{f:α->Res β}{k:β->Prop}(h:Post Ex (r >>= f) k):Post Ex r fun a=>Post Ex (f a) k:=by
 cases r with
 |ok a=>exact h
 |exc C=>exact h
 |bad=>exact h
theorem Post.imp{α:Type}{Ex:Value->Prop}{r:Res α}{k k':α->Prop}(h:Post Ex r k)(f:∀ a,r=.ok a->k a->k' a):Post Ex r k':=by
 cases r with
 |ok a=>exact f a rfl h
 |exc C=>exact h
 |bad=>exact h
def tvs(ts:List (V × D)):List (Option V):=ts.map fun t=>some t.1
def tds(ts:List (V × D)):List (Option D):=ts.map fun t=>some t.2
theorem gS(ts:List (V × D)):(tvs ts).length=ts.length:=by simp[tvs]
theorem gT(ts:List (V × D)):(tds ts).length=ts.length:=by simp[tds]
def SX(Hs H0 H:Hp)(ts:List (V × D))(σ:St)(ρ:ad):Prop:=SR Hs H0 H (tvs ts++σ) (tds ts++ρ)
def TEF(H0:Hp)(Ex:Value->Prop)(f:ad->Res D):TE:=fun σ H Q=>∃ Hs ρ ts,SX Hs H0 H ts σ ρ ∧
 Post Ex (f ρ) fun d=>∀ v H',SX Hs H0 H' ((v,d)::ts) σ ρ->Q v H'
def TTF(H0:Hp)(Ex:Value->Prop)(f:ad->Res Bool):TT:=fun σ H Q=>∃ Hs ρ ts,SX Hs H0 H ts σ ρ ∧
 Post Ex (f ρ) fun b=>∀ H',SX Hs H0 H' ts σ ρ->Q b H'
def held(us:List V)(es:List D)(ts:List (V × D)):List (V × D):=(us.zip es).reverse++ts
def TAF(H0:Hp)(Ex:Value->Prop)(f:ad->Res (List D)):TA:=fun σ H Q=>∃ Hs ρ ts,SX Hs H0 H ts σ ρ ∧
 Post Ex (f ρ) fun es=>∀ us H',us.length=es.length->SX Hs H0 H' (held us es ts) σ ρ->Q us H'
structure FE (X:Cx) (H0:Hp) (Ex:Value->Prop) (e:Expr) (f:ad->Res D):Prop where
 go:PE X e (TEF H0 Ex f)
structure FT (X:Cx) (H0:Hp) (Ex:Value->Prop) (e:Expr) (f:ad->Res Bool):Prop where
 go:PT X e (TTF H0 Ex f)
structure FA (X:Cx) (H0:Hp) (Ex:Value->Prop) (es:List Expr) (f:ad->Res (List D)):Prop where
 go:PA X es (TAF H0 Ex f)
structure PV (X:Cx) (e:Expr) (i:Nat):Prop where
 go:PE X e (sD i)
theorem mv{X:Cx}(i:Nat){x:Str}{pos:Pos}(hN:X.N[i]?=some x:=by rfl)(hv:Vis X.env.scope x:=by first | exact Or.inl rfl | exact Or.inr (Or.inl rfl) | exact Or.inr (Or.inr rfl))(hd:(x == ("__debug__" : Str))=false:=by decide)
    (hcd:(x == ("__classdict__" : Str))=false:=by decide):PV X (.Name x pos) i:=⟨nK hN hv hd hcd⟩
theorem PE.pre{X:Cx}{e:Expr}{t t':TE}(h:PE X e t)(i:∀ σ H Q,t' σ H Q->t σ H Q):PE X e t':=fun pins s σ H Q I q=>h pins s σ H Q I (i σ H Q q)
theorem PT.pre{X:Cx}{e:Expr}{t t':TT}(h:PT X e t)(i:∀ σ H Q,t' σ H Q->t σ H Q):PT X e t':=fun pins s σ H Q I q=>h pins s σ H Q I (i σ H Q q)
theorem PA.pre{X:Cx}{e:List Expr}{t t':TA}(h:PA X e t)(i:∀ σ H Q,t' σ H Q->t σ H Q):PA X e t':=fun pos pins s σ H Q I q=>h pos pins s σ H Q I (i σ H Q q)
theorem PS.pre{X:Cx}{e:Stmt}{t t':TS}(h:PS X e t)(i:∀ D σ H,t' D σ H->t D σ H):PS X e t':=fun pins s σ H D I q=>h pins s σ H D I (i D σ H q)
theorem PSs.pre{X:Cx}{e:List Stmt}{t t':TS}(h:PSs X e t)(i:∀ D σ H,t' D σ H->t D σ H):PSs X e t':=fun pins s σ H D I q=>h pins s σ H D I (i D σ H q)
section
variable {X:Cx}{Ex:Value->Prop}{H0:Hp}{a b c e:Expr}{f g:ad->Res D}{pos:Pos}
def ac(i:Nat):ad->Res D:=fun ρ=>match ρ[i]? with
 |some (some d)=>.ok d.rd
 |_=>.bad
theorem iA{α:Type}(l r:List α)(i:Nat):(l++r)[l.length+i]?=r[i]?:=by
 rw[List.getElem?_append_right (by omega)];congr 1;omega
theorem ae(i:Nat){x:Str}(h:PV X (.Name x pos) i):FE X H0 Ex (.Name x pos) (ac i):=by
 refine ⟨PE.pre h.go ?_⟩;rintro σ H Q ⟨Hs,ρ,ts,S,p⟩;unfold ac at p;split at p
 ·rename_i d hd
  have e:(tds ts++ρ)[(tds ts).length+i]?=some (some d):=by rw[iA];exact hd
  obtain ⟨v,hv,S'⟩:=SR.get S e;rw[gT,<- gS,iA] at hv;exact ⟨v,hv,p v H S'⟩
 ·exact p.elim
def fC(d:D):ad->Res D:=fun _=>.ok d
theorem ai{i j}:FE X H0 Ex (.Constant (.int i) j pos) (fC (.int i)):=by
 refine ⟨PE.pre sE ?_⟩;rintro σ H Q ⟨Hs,ρ,ts,S,p⟩;exact p _ H S.int
theorem mY{i j}:FE X H0 Ex (.Constant (.bool i) j pos) (fC (.bl i)):=by
 refine ⟨PE.pre uQ ?_⟩;rintro σ H Q ⟨Hs,ρ,ts,S,p⟩;exact p _ H S.bl
theorem cE{x j}:FE X H0 Ex (.Constant (.str x) j pos) (fC (.str x)):=by
 refine ⟨PE.pre nL ?_⟩;rintro σ H Q ⟨Hs,ρ,ts,S,p⟩;exact p _ H S.str
theorem jw{x:Str}{i:Int}{u:Value}(hg:Gl X x)(hm:X.mg x=some u)(r:RelV (.int i) u)(hd:(x == ("__debug__" : Str))=false:=by decide):FE X H0 Ex (.Name x pos) (fC (.int i)):=by
 refine ⟨PE.pre (js hg hm r hd) ?_⟩;rintro σ H Q ⟨Hs,ρ,ts,S,p⟩;exact p _ H S.int
theorem q9{x:Str}{i:Str}{u:Value}(hg:Gl X x)(hm:X.mg x=some u)(r:RelV (.str i) u)(hd:(x == ("__debug__" : Str))=false:=by decide):FE X H0 Ex (.Name x pos) (fC (.str i)):=by
 refine ⟨PE.pre (js hg hm r hd) ?_⟩;rintro σ H Q ⟨Hs,ρ,ts,S,p⟩;exact p _ H S.str
structure FOp (X:Cx) (f:Value->Value->Sem Value) (g:D->D->Res D):Prop where
 go:OpR X f fun x y H Q=>∃ Hs H0 vs ds d1 d2 d,
 SR Hs H0 H (some y::some x::vs) (some d2::some d1::ds)/\g d1 d2=.ok d/\∀ v H',SR Hs H0 H' (some v::vs) (some d::ds)->Q v H'
theorem OpR.pre{f:Value->Value->Sem Value}{r r':R2}(h:OpR X f r)(i:∀ x y H Q,r' x y H Q->r x y H Q):OpR X f r':=fun pins s σ H x y v u Q I a b q=>h pins s σ H x y v u Q I a b (i x y H Q q)
def noX{α:Type}:Res α->Bool
 | .exc _=>false
 |_=>true
def f2(g:D->D->Res D)(fa fb:ad->Res D):ad->Res D:=fun ρ=>fa ρ >>= fun x=>fb ρ >>= fun y=>g x y
theorem kC{H0:Hp}{g:D->D->Res D}(hg:∀ x y,noX (g x y)=true){op:Value->Value->Sem Value}{σ:St}{H:Hp}{Q:VK}{fa fb:ad->Res D}(h:TEF H0 Ex (f2 g fa fb) σ H Q) :
    tOp (fun x y H Q=>∃ Hs H0 vs ds d1 d2 d,SR Hs H0 H (some y::some x::vs) (some d2::some d1::ds)/\g d1 d2=.ok d/\∀ v H',SR Hs H0 H' (some v::vs) (some d::ds)->Q v H') (TEF H0 Ex fa) (TEF H0 Ex fb) σ H Q:=by
 obtain ⟨Hs,ρ,ts,S,p⟩:=h;refine ⟨Hs,ρ,ts,S,(Post.bind p).imp fun d1 _ p1 v1 H1 S1=>⟨Hs,ρ,(v1,d1)::ts,S1,(Post.bind p1).imp fun d2 _ p2 v2 H2 S2=>?_⟩⟩;have hn:=hg d1 d2
 cases e:g d1 d2 with
 |ok d=>rw[e] at p2;exact ⟨Hs,H0,_,_,d1,d2,d,S2,e,p2⟩
 |exc C=>rw[e] at hn;cases hn
 |bad=>rw[e] at p2;exact p2.elim
theorem aA{op:Operator}{g:D->D->Res D}{fa fb:ad->Res D}(ho:FOp X (binaryOp op) g)(hg:∀ x y,noX (g x y)=true)(ha:FE X H0 Ex a fa)(hb:FE X H0 Ex b fb):FE X H0 Ex (.BinOp a op b pos) (f2 g fa fb):=
 ⟨PE.pre (uY ho.go ha.go hb.go) fun _ _ _ h=>kC hg (op:=binaryOp op) h⟩
theorem gr{op:CmpOp}{g:D->D->Res D}{fa fb:ad->Res D}(ho:FOp X (compareOp op) g)(hg:∀ x y,noX (g x y)=true)(ha:FE X H0 Ex a fa)(hb:FE X H0 Ex b fb)(hm:behindInMarks op b=false):FE X H0 Ex (.Compare a [op] [b] pos) (f2 g fa fb):=
 ⟨PE.pre (qT ho.go ha.go hb.go hm) fun _ _ _ h=>kC hg (op:=compareOp op) h⟩
theorem SR.isInt{Hs H0 H:Hp}{vs:List (Option V)}{ds:List (Option D)}{v:V}{i:Int}(S:SR Hs H0 H (some v::vs) (some (.int i)::ds)):v=.int i:=by
 cases S.head;rfl
theorem SR.isBl{Hs H0 H:Hp}{vs:List (Option V)}{ds:List (Option D)}{v:V}{i:Bool}(S:SR Hs H0 H (some v::vs) (some (.bl i)::ds)):v=.bl i:=by
 cases S.head;rfl
theorem SR.isStr{Hs H0 H:Hp}{vs:List (Option V)}{ds:List (Option D)}{v:V}{i:Str}(S:SR Hs H0 H (some v::vs) (some (.str i)::ds)):v=.str i:=by
 cases S.head;rfl
def gI(C:Int->Int->Bool)(g:Int->Int->D):D->D->Res D:=fun x y=>match x,y with
 | .int i,.int j=>if C i j then .ok (g i j) else .bad
 |_,_=>.bad
theorem aE(C:Int->Int->Bool)(g:Int->Int->D):∀ x y,noX (gI C g x y)=true:=by
 intro x y;unfold gI;split
 ·split<;>rfl
 ·rfl
theorem jx{f:Value->Value->Sem Value}{C:Int->Int->Prop}{C':Int->Int->Bool}{g:Int->Int->Int}(h:OpR X f (rI C fun i j=>.int (g i j)))(hc:∀ i j,C' i j=true->C i j):FOp X f (gI C' fun i j=>.int (g i j)):=by
 refine ⟨OpR.pre h ?_⟩;rintro x y H Q ⟨Hs,H0,vs,ds,d1,d2,d,S,e,k⟩;unfold gI at e;split at e
 ·rename_i i j
  split at e
  ·rename_i hcc
   cases e
   cases SR.isInt S
   cases SR.isInt S.drop
   exact ⟨i,j,rfl,rfl,hc i j hcc,k _ H S.drop.drop.int⟩
  ·cases e
 ·cases e
theorem pP{f:Value->Value->Sem Value}{g:Int->Int->Int}(h:OpR X f (rI0 fun i j=>.int (g i j))):FOp X f (gI (fun _ _=>true) fun i j=>.int (g i j)):=by
 refine ⟨OpR.pre h ?_⟩;rintro x y H Q ⟨Hs,H0,vs,ds,d1,d2,d,S,e,k⟩;unfold gI at e;split at e
 ·rename_i i j
  cases e
  cases SR.isInt S
  cases SR.isInt S.drop
  exact ⟨i,j,rfl,rfl,k _ H S.drop.drop.int⟩
 ·cases e
theorem fQ{f:Value->Value->Sem Value}{g:Int->Int->Bool}(h:OpR X f (rI0 fun i j=>.bl (g i j))):FOp X f (gI (fun _ _=>true) fun i j=>.bl (g i j)):=by
 refine ⟨OpR.pre h ?_⟩;rintro x y H Q ⟨Hs,H0,vs,ds,d1,d2,d,S,e,k⟩;unfold gI at e;split at e
 ·rename_i i j
  cases e
  cases SR.isInt S
  cases SR.isInt S.drop
  exact ⟨i,j,rfl,rfl,k _ H S.drop.drop.bl⟩
 ·cases e
def b4:=gI (fun _ _=>true) fun i j=>.int (i - j)
def ck:=gI (fun i j=>(decide (-(2 ^ 64)<i)&&decide (i<2 ^ 64))||(decide (-(2 ^ 64)<j)&&decide (j<2 ^ 64))) fun i j=>.int (i*j)
def iU:=gI (fun _ j=>decide (0<j)&&decide (j<1073741824)) fun i j=>.int (i / j)
def bP:=gI (fun _ j=>decide (0<j)) fun i j=>.int (i % j)
def dLt:=gI (fun _ _=>true) fun i j=>.bl (decide (i<j))
def dLe:=gI (fun _ _=>true) fun i j=>.bl (decide (i<=j))
def dGt:=gI (fun _ _=>true) fun i j=>.bl (decide (j<i))
def dGe:=gI (fun _ _=>true) fun i j=>.bl (decide (j<=i))
theorem dl:FOp X (binaryOp .Sub) b4:=pP sW
theorem dB:FOp X (binaryOp .Mult) ck:=jx sX fun i j h=>by
 simp at h;exact h
theorem l9:FOp X (binaryOp .FloorDiv) iU:=jx qS fun i j h=>by
 simp at h;exact h
theorem cF:FOp X (binaryOp .Mod) bP:=jx sY fun i j h=>by
 simp at h;exact h
theorem iV:FOp X (compareOp .Lt) dLt:=fQ iP
theorem qy:FOp X (compareOp .LtE) dLe:=fQ d6
theorem mZ:FOp X (compareOp .Gt) dGt:=fQ u5
theorem ve:FOp X (compareOp .GtE) dGe:=fQ u6
theorem SR.laidL{Hs H0 H Hf:Hp}{fp:List Addr}{vs:List (Option V)}{ds:List (Option D)}(O:Own Hf H fp vs ds)(F:Fine Hs H0 Hf H fp){us:List V}{es:List D}(R:Reps Hf us es)(ht:∀ e∈es,e.tag=.f){p:Addr}(hp:H p=none) :
    SR Hs H0 (upd H p (.lst us)) (some (.ref p)::vs) (some (.lst .o es)::ds):=by
 obtain ⟨hf,h0⟩:=F.fresh hp;have s:Same H (upd H p (.lst us)):=fun b o e=>by rw[aH (aY e hp)];exact e
 refine ⟨Hf,[p]++fp,.cons (.lst bg (RepOs.ofReps R ht)) (O.mono (Same.refl _) s),?_,?_,F.fh.trans s,F.zh.trans s,F.sf,F.new⟩
 ·refine List.nodup_cons.mpr ⟨fun m=>?_,F.nd⟩
  obtain ⟨o,e⟩:=O.there p m;rw[hp] at e;cases e
 ·intro a m
  rcases List.mem_cons.mp m with e | m
  ·subst e;exact ⟨hf,h0⟩
  ·exact F.own a m
def aJ:D->D->Res D:=fun x y=>match x,y with
 | .int i,.int j=>.ok (.int (i+j))
 | .str i,.str j=>if i.length+j.length<=sizeLine then .ok (.str (i++j)) else .bad
 | .lst t xs,.lst u ys=>match D.its (.lst t xs),D.its (.lst u ys) with
  |some xs',some ys'=>if xs'.length+ys'.length<=sizeLine then .ok (.lst .o (xs'++ys')) else .bad
  |_,_=>.bad
 |_,_=>.bad
theorem aN:∀ x y,noX (aJ x y)=true:=by
 intro x y;unfold aJ;split
 ·rfl
 ·split<;>rfl
 ·split
  ·split<;>rfl
  ·rfl
 ·rfl
theorem bd:FOp X (binaryOp .Add) aJ:=by
 refine ⟨OpR.pre (OpR.or sV (OpR.or mP tK)) ?_⟩;rintro x y H Q ⟨Hs,H0,vs,ds,d1,d2,d,S,e,k⟩;unfold aJ at e;split at e
 ·rename_i i j
  cases e
  cases SR.isInt S
  cases SR.isInt S.drop
  exact .inl ⟨i,j,rfl,rfl,k _ H S.drop.drop.int⟩
 ·rename_i i j
  split at e
  ·rename_i hl
   cases e
   cases SR.isStr S
   cases SR.isStr S.drop
   exact .inr (.inl ⟨i,j,rfl,rfl,hl,k _ H S.drop.drop.str⟩)
  ·cases e
 ·rename_i t xs u ys
  split at e
  ·rename_i xs' ys' hx hy
   split at e
   ·rename_i hl
    cases e
    obtain ⟨Hf,fp,O,F⟩:=S;obtain ⟨a2,us2,rfl,e2,Hg,fq,O1,F1,s1,R2⟩:=O.items F hy;obtain ⟨a1,us1,rfl,e1,Hk,fr,O2,F2,s2,R1⟩:=O1.items F1 hx;refine .inr (.inr ⟨a1,a2,us1,us2,rfl,rfl,e1,e2,by rw[R1.length,R2.length];exact hl,fun p hp=>k _ _ ?_⟩);exact SR.laidL O2 F2 (R1.append (R2.mono s2)) (fun z m=>(List.mem_append.mp m).elim (D.its_tag hx z) (D.its_tag hy z)) hp
   ·cases e
  ·cases e
 ·cases e
structure FIx (X:Cx) (g:D->D->Res D):Prop where
 go:IxR X fun x y H Q=>∃ Hs H0 vs ds d1 d2 d,
 SR Hs H0 H (some y::some x::vs) (some d2::some d1::ds)/\g d1 d2=.ok d/\∀ v H',SR Hs H0 H' (some v::vs) (some d::ds)->Q v H'
theorem rf{g:D->D->Res D}{fa fb:ad->Res D}(ho:FIx X g)(hg:∀ x y,noX (g x y)=true)(ha:FE X H0 Ex a fa)(hb:FE X H0 Ex b fb)(hs:jv b):FE X H0 Ex (.Subscript a b pos) (f2 g fa fb):=
 ⟨PE.pre (vb ho.go ha.go hb.go hs) fun _ _ _ h=>kC hg (op:=fun _ _=>pure .none) h⟩
theorem IxR.pre{r r':R2}(h:IxR X r)(i:∀ x y H Q,r' x y H Q->r x y H Q):IxR X r':=fun v sl pins s σ H x y a u Q I p q w z=>h v sl pins s σ H x y a u Q I p q (i x y H Q w) z
def bq{α:Type}:Option α->Res α
 |some a=>.ok a
 |none=>.bad
def dIx:D->D->Res D:=fun x y=>match x,y with
 | .lst t xs,.int i=>match ixN xs.length i with
  |some j=>bq (D.el (.lst t xs) j)
  |none=>.bad
 | .tup xs,.int i=>match ixN xs.length i with
  |some j=>bq (D.el (.tup xs) j)
  |none=>.bad
 | .str z,.int i=>match atI z.cps.toList i with
  |some c=>if z.length<=sizeLine then .ok (.str ⟨#[c]⟩) else .bad
  |none=>.bad
 | .scr ns,.int i=>match atI ns i with
  |some c=>.ok (.int c)
  |none=>.bad
 |_,_=>.bad
theorem jZ{α:Type}(o:Option α):noX (bq o)=true:=by cases o<;>rfl
theorem kW{α:Type}{o:Option α}{a:α}(h:bq o=.ok a):o=some a:=by
 cases o with
 |some b=>cases h;rfl
 |none=>cases h
theorem rg:∀ x y,noX (dIx x y)=true:=by
 intro x y;unfold dIx;split
 ·split
  ·exact jZ _
  ·rfl
 ·split
  ·exact jZ _
  ·rfl
 ·split
  ·split<;>rfl
  ·rfl
 ·split<;>rfl
 ·rfl
theorem n9{α:Type}{xs:List α}{i:Int}{j:Nat}{v:α}(h:ixN xs.length i=some j)(e:xs[j]?=some v):atI xs i=some v:=by
 unfold atI;rw[h];exact e
theorem tT:FIx X dIx:=by
 refine ⟨IxR.pre tG ?_⟩;rintro x y H Q ⟨Hs,H0,vs,ds,d1,d2,d,S,e,k⟩;unfold dIx at e;split at e
 ·rename_i t xs i
  cases SR.isInt S
  split at e
  ·rename_i j hj
   have he:=kW e;obtain ⟨a,us,u,rfl,h1,h2,S'⟩:=S.drop.elem he;have hl:us.length=xs.length:=by
    have:=S.drop.head
    cases this with
    |lst q R=>
     have h1':H a=some (.lst us):=h1;rw[h1'] at q;cases q;exact R.length
   exact .inl ⟨a,us,i,u,rfl,rfl,SqL.of h1,n9 (by rw[hl];exact hj) h2,k _ H S'⟩
  ·cases e
 ·rename_i xs i
  cases SR.isInt S
  split at e
  ·rename_i j hj
   have he:=kW e;obtain ⟨a,us,u,rfl,h1,h2,S'⟩:=S.drop.elem he;have hl:us.length=xs.length:=by
    have:=S.drop.head
    cases this with
    |tup q R=>
     have h1':H a=some (.tup us):=h1;rw[h1'] at q;cases q;exact R.length
   exact .inr (.inl ⟨a,us,i,u,rfl,rfl,SqT.of h1,n9 (by rw[hl];exact hj) h2,k _ H S'⟩)
  ·cases e
 ·rename_i z i
  cases SR.isInt S
  split at e
  ·rename_i c hc
   split at e
   ·rename_i hz
    cases e
    cases SR.isStr S.drop
    exact .inr (.inr ⟨z,i,c,rfl,rfl,hz,hc,k _ H S.drop.drop.str⟩)
   ·cases e
  ·cases e
 ·rename_i ns i
  cases SR.isInt S
  split at e
  ·rename_i c hc
   cases e
   have:=S.drop.head
   cases this with
   |scr q=>
    refine .inl ⟨_,_,i,.int c,rfl,rfl,.inl (.inr ⟨_,q⟩),?_,k _ H S.drop.drop.int⟩;obtain ⟨j,h1,h2,_⟩:=gP hc;unfold atI at hc ⊢;rw[List.length_map]
    cases hj:ixN ns.length i with
    |none=>rw[hj] at hc;cases hc
    |some j=>
     rw[hj] at hc;have hc:ns[j]?=some c:=hc;show (ns.map V.int)[j]?=some (V.int c);rw[List.getElem?_map,hc];rfl
  ·cases e
 ·cases e
theorem aD{fa fb:ad->Res D}(ha:FE X H0 Ex a fa)(hb:FE X H0 Ex b fb)(hs:jv b:=by intro _ _;rfl):FE X H0 Ex (.Subscript a b pos) (f2 dIx fa fb):=rf tT rg ha hb hs
theorem pQ{us:List V}{es:List D}{ts:List (V × D)}(h:us.length=es.length):tvs (held us es ts)=hv us++tvs ts:=by
 have:(us.zip es).map (fun t=>some t.1)=us.map some:=by
  induction us generalizing es with
  |nil=>rfl
  |cons u us ih=>
   cases es with
   |nil=>simp at h
   |cons e es=>simp[ih (es:=es) (by simpa using h)]
 simp[tvs,held,hv,<- this]
theorem pR{us:List V}{es:List D}{ts:List (V × D)}(h:us.length=es.length):tds (held us es ts)=hd es++tds ts:=by
 have:(us.zip es).map (fun t=>some t.2)=es.map some:=by
  induction us generalizing es with
  |nil=>
   cases es with
   |nil=>rfl
   |cons e es=>simp at h
  |cons u us ih=>
   cases es with
   |nil=>simp at h
   |cons e es=>simp[ih (es:=es) (by simpa using h)]
 simp[tds,held,hd,<- this]
theorem SX.held{Hs H0 H:Hp}{us:List V}{es:List D}{ts:List (V × D)}{σ:St}{ρ:ad}(h:us.length=es.length)(S:SX Hs H0 H (held us es ts) σ ρ):SR Hs H0 H (hv us++(tvs ts++σ)) (hd es++(tds ts++ρ)):=by
 unfold SX at S;rw[pQ h,pR h,List.append_assoc,List.append_assoc] at S;exact S
def ag:ad->Res (List D):=fun _=>.ok []
def aa(f:ad->Res D)(g:ad->Res (List D)):ad->Res (List D):=fun ρ=>f ρ >>= fun d=>g ρ >>= fun ds=>.ok (d::ds)
theorem aj:FA X H0 Ex [] ag:=by
 refine ⟨PA.pre dk ?_⟩;rintro σ H Q ⟨Hs,ρ,ts,S,p⟩;exact p [] H rfl S
theorem af{es:List Expr}{fe:ad->Res D}{fs:ad->Res (List D)}(he:FE X H0 Ex e fe)(hr:FA X H0 Ex es fs)(hs:starEach (e::es) X.env=(false,eval e X.env)::starEach es X.env:=by rfl):FA X H0 Ex (e::es) (aa fe fs):=by
 refine ⟨PA.pre (b8 he.go hr.go hs) ?_⟩;rintro σ H Q ⟨Hs,ρ,ts,S,p⟩;refine ⟨Hs,ρ,ts,S,(Post.bind p).imp fun d _ p1 v H1 S1=>⟨Hs,ρ,(v,d)::ts,S1,(Post.bind p1).imp fun ds _ p2 us H2 hl S2=>?_⟩⟩;refine p2 (v::us) H2 (by simp[hl]) ?_;have:held (v::us) (d::ds) ts=held us ds ((v,d)::ts):=by simp[held]
 rw[this];exact S2
def nb(es:List D):Bool:=es.all fun e=>!(e.tag == .b)
theorem iW{es:List D}(h:nb es=true):∀ e∈es,e.tag≠.b:=fun e m=>by
 have:=List.all_eq_true.mp h e m;simpa using this
def b5(fa:ad->Res (List D)):ad->Res D:=fun ρ=>fa ρ >>= fun es=>if nb es&&decide (es.length<=sizeLine) then .ok (.lst .o es) else .bad
def bC(fa:ad->Res (List D)):ad->Res D:=fun ρ=>fa ρ >>= fun es=>if nb es&&decide (es.length<=sizeLine) then .ok (.tup (D.fzs es)) else .bad
theorem cG{es:List Expr}{fa:ad->Res (List D)}(h:FA X H0 Ex es fa):FE X H0 Ex (.List es pos) (b5 fa):=by
 refine ⟨PE.pre (tu h.go) ?_⟩;rintro σ H Q ⟨Hs,ρ,ts,S,p⟩;refine ⟨Hs,ρ,ts,S,(Post.bind p).imp fun ds _ p1 us H1 hl S1=>?_⟩;split at p1
 ·rename_i hc
  simp at hc;exact ⟨by rw[hl];exact hc.2,fun q hq=>p1 _ _ ((SX.held hl S1).mkList hl (iW hc.1) hq)⟩
 ·exact p1.elim
theorem cr{es:List Expr}{fa:ad->Res (List D)}{x1}(h:FA X H0 Ex es fa):FE X H0 Ex (.Tuple es x1 pos) (bC fa):=by
 refine ⟨PE.pre (tq h.go) ?_⟩;rintro σ H Q ⟨Hs,ρ,ts,S,p⟩;refine ⟨Hs,ρ,ts,S,(Post.bind p).imp fun ds _ p1 us H1 hl S1=>?_⟩;split at p1
 ·rename_i hc
  simp at hc;exact ⟨by rw[hl];exact hc.2,fun q hq=>p1 _ _ ((SX.held hl S1).mkTup hl (iW hc.1) hq)⟩
 ·exact p1.elim
structure FCall (X:Cx) (f:Value) (g:List D->Res D):Prop where
 go:CallR X f fun us H Q=>∃ Hs H0 vs ds es d,us.length=es.length ∧
 SR Hs H0 H (hv us++vs) (hd es++ds)/\g es=.ok d/\∀ v H',SR Hs H0 H' (some v::vs) (some d::ds)->Q v H'
theorem CallR.pre{f:Value}{r r':List V->Hp->VK->Prop}(h:CallR X f r)(i:∀ x H Q,r' x H Q->r x H Q):CallR X f r':=fun pins s σ H x y Q I a q=>h pins s σ H x y Q I a (i x H Q q)
def fCB(g:List D->Res D)(fa:ad->Res (List D)):ad->Res D:=fun ρ=>fa ρ >>= g
theorem oa{H0:Hp}{g:List D->Res D}{fa:ad->Res (List D)}(hg:∀ es,noX (g es)=true){σ:St}{H:Hp}{Q:VK}(h:TEF H0 Ex (fCB g fa) σ H Q) :
    tCB (fun us H Q=>∃ Hs H0 vs ds es d,us.length=es.length/\SR Hs H0 H (hv us++vs) (hd es++ds)/\g es=.ok d/\∀ v H',SR Hs H0 H' (some v::vs) (some d::ds)->Q v H') (TAF H0 Ex fa) σ H Q:=by
 obtain ⟨Hs,ρ,ts,S,p⟩:=h;refine ⟨Hs,ρ,ts,S,(Post.bind p).imp fun es _ p1 us H1 hl S1=>?_⟩;have hn:=hg es
 cases e:g es with
 |ok d=>rw[e] at p1;exact ⟨Hs,H0,_,_,es,d,hl,SX.held hl S1,e,p1⟩
 |exc C=>rw[e] at hn;cases hn
 |bad=>rw[e] at p1;exact p1.elim
theorem aO{id:String}{x:Str}{p:Pos}{es:List Expr}{g:List D->Res D}{fa:ad->Res (List D)}(hc:FCall X (.builtin id) g)(hn:∀ es,noX (g es)=true)(hg:Gl X x)(hm:X.mg x=none)(hv:bootBuiltins x=some (.builtin id))(ha:FA X H0 Ex (e::es) fa)
    (hn':x ≠ "__name__" := by decide) (hdb:(x == ("__debug__" : Str))=false:=by decide) (h1:starEach (e::es) X.env=(false,eval e X.env)::starEach es X.env:=by rfl) (h2:(backTo pos (starEach es X.env)).any (·.1)=false:=by rfl):FE X H0 Ex (.Call (.Name x p) (e::es) [] pos) (fCB g fa):=
 ⟨PE.pre (kO hc.go hg hm hv ha.go hn' hdb h1 h2) fun _ _ _ h=>oa hn h⟩
end
end Mi
namespace Mi
open PySem PySem.Spec L2
open PyProof.Rows hiding St
inductive FOut where
 |nx (ρ:ad) | rt (d:D) | bk (ρ:ad) | ct (ρ:ad) | exc (C:Value) | bad
def SS(Hs H0 H:Hp)(σ:St)(ρ:ad):Prop:=SR Hs H0 H σ ρ/\noB ρ
def PostS(Hs H0:Hp)(Ex:Value->Prop)(D:Ends)(r:FOut):Prop:=
 match r with
 | .nx ρ=>∀ σ H,SS Hs H0 H σ ρ->D.nx σ H
 | .rt d=>∀ v H,SR Hs H0 H [some v] [some d]->D.rt v H
 | .bk ρ=>∀ σ H,SS Hs H0 H σ ρ->D.bk σ H
 | .ct ρ=>∀ σ H,SS Hs H0 H σ ρ->D.ct σ H
 | .exc C=>Ex C
 | .bad=>False
def TSF(H0:Hp)(Ex:Value->Prop)(g:ad->FOut):TS:=fun D σ H=>∃ Hs ρ,SS Hs H0 H σ ρ/\PostS Hs H0 Ex D (g ρ)
structure FS (X:Cx) (H0:Hp) (Ex:Value->Prop) (st:Stmt) (g:ad->FOut):Prop where
 go:PS X st (TSF H0 Ex g)
structure FSs (X:Cx) (H0:Hp) (Ex:Value->Prop) (st:List Stmt) (g:ad->FOut):Prop where
 go:PSs X st (TSF H0 Ex g)
def aft{α:Type}(r:Res α)(k:α->FOut):FOut:=
 match r with
 | .ok a=>k a
 | .exc C=>.exc C
 | .bad=>.bad
theorem PostS.aft{α:Type}{Hs H0:Hp}{Ex:Value->Prop}{D:Ends}{r:Res α}{k:α->FOut}(h:PostS Hs H0 Ex D (aft r k)):Post Ex r fun a=>PostS Hs H0 Ex D (k a):=by
 cases r with
 |ok a=>exact h
 |exc C=>exact h
 |bad=>exact h
section
variable {X:Cx}{Ex:Value->Prop}{H0:Hp}{e:Expr}{f:ad->Res D}{g g1 g2:ad->FOut}{pos:Pos}{st:Stmt}{sts:List Stmt}
def aR:ad->FOut:=fun ρ=>.nx ρ
def av(g1 g2:ad->FOut):ad->FOut:=fun ρ=>match g1 ρ with
 | .nx ρ'=>g2 ρ'
 |r=>r
theorem ba:FSs X H0 Ex [] aR:=⟨PSs.pre qP fun D σ H ⟨Hs,ρ,S,p⟩=>p σ H S⟩
theorem rh{H0:Hp}{D:Ends}{σ:St}{H:Hp}(h:TSF H0 Ex (av g1 g2) D σ H):sM (TSF H0 Ex g1) (TSF H0 Ex g2) D σ H:=by
 obtain ⟨Hs,ρ,S,p⟩:=h;refine ⟨Hs,ρ,S,?_⟩;unfold av at p
 cases e:g1 ρ with
 |nx ρ'=>rw[e] at p;exact fun σ' H' S'=>⟨Hs,ρ',S',p⟩
 |rt d=>rw[e] at p;exact p
 |bk ρ'=>rw[e] at p;exact p
 |ct ρ'=>rw[e] at p;exact p
 |exc C=>rw[e] at p;exact p
 |bad=>rw[e] at p;exact p
theorem am(h1:FS X H0 Ex st g1)(h2:FSs X H0 Ex sts g2):FSs X H0 Ex (st::sts) (av g1 g2):=⟨PSs.pre (pA h1.go h2.go) fun _ _ _ h=>rh h⟩
theorem ax(h1:FS X H0 Ex st g1):FSs X H0 Ex [st] g1:=⟨qQ h1.go⟩
def bW(f:ad->Res D):ad->FOut:=fun ρ=>aft (f ρ) fun _=>.nx ρ
theorem dC(he:FE X H0 Ex e f)(hs:swapsWith e none pos.line X.env=pure false:=by rfl):FS X H0 Ex (.Expr e pos) (bW f):=by
 refine ⟨PS.pre (gO he.go hs) ?_⟩;rintro D σ H ⟨Hs,ρ,⟨S,n⟩,p⟩;exact ⟨Hs,ρ,[],S,(PostS.aft p).imp fun d _ p1 v H1 S1=>p1 σ H1 ⟨S1.drop,n⟩⟩
def br(f:ad->Res D):ad->FOut:=fun ρ=>aft (f ρ) fun d=>if d.tag=.b then .bad else .rt d
theorem bo(he:FE X H0 Ex e f):FS X H0 Ex (.Return (some e) pos) (br f):=by
 refine ⟨PS.pre (kL he.go) ?_⟩;rintro D σ H ⟨Hs,ρ,⟨S,n⟩,p⟩;refine ⟨Hs,ρ,[],S,(PostS.aft p).imp fun d _ p1 v H1 S1=>?_⟩;split at p1
 ·exact p1.elim
 ·exact p1 v H1 (SR.only (vs':=[]) (ds':=[]) S1)
def m4(i:Nat):ad->FOut:=fun ρ=>match ρ[i]? with
 |some (some d)=>.rt d
 |_=>.bad
theorem rj(i:Nat){x:Str}{p':Pos}(h:PV X (.Name x p') i):FS X H0 Ex (.Return (some (.Name x p')) pos) (m4 i):=by
 refine ⟨PS.pre (kL h.go) ?_⟩;rintro D σ H ⟨Hs,ρ,⟨S,n⟩,p⟩;unfold m4 at p;split at p
 ·rename_i d hd
  obtain ⟨v,hv,S'⟩:=S.move hd (n d (List.mem_of_getElem? hd));exact ⟨v,hv,p v H (SR.only (vs':=[]) (ds':=[]) S')⟩
 ·exact p.elim
def gIf(t:ad->Res Bool)(g1 g2:ad->FOut):ad->FOut:=fun ρ=>aft (t ρ) fun b=>if b=true then g1 ρ else g2 ρ
theorem bI{c:Expr}{a b:List Stmt}{t:ad->Res Bool}(hc:FT X H0 Ex c t)(ha:FSs X H0 Ex a g1)(hb:FSs X H0 Ex b g2):FS X H0 Ex (.If c a b pos) (gIf t g1 g2):=by
 refine ⟨PS.pre (uV hc.go ha.go hb.go) ?_⟩;rintro D σ H ⟨Hs,ρ,⟨S,n⟩,p⟩;refine ⟨Hs,ρ,[],S,(PostS.aft p).imp fun b _ p1 H1 S1=>?_⟩
 cases b with
 |true=>rw[if_pos rfl] at p1 ⊢;exact ⟨Hs,ρ,⟨S1,n⟩,p1⟩
 |false=>rw[if_neg Bool.false_ne_true] at p1 ⊢;exact ⟨Hs,ρ,⟨S1,n⟩,p1⟩
def ay(i:Nat)(f:ad->Res D):ad->FOut:=fun ρ=>aft (f ρ) fun d=>if d.tag=.b\/ρ.length<=i then .bad else .nx (ρ.set i (some d))
theorem SR.set0{Hs H0 H:Hp}{v:V}{d:D}{σ:St}{ρ:ad}(S:SX Hs H0 H [(v,d)] σ ρ)(t:d.tag≠.b)(n:noB ρ){i:Nat}(hi:i<ρ.length):SS Hs H0 H (σ.set i (some v)) (ρ.set i (some d)):=
 ⟨SR.set S t hi,n.set fun d' e=>by cases e;exact t⟩
theorem rk{H0:Hp}{i:Nat}{D:Ends}{σ:St}{H:Hp}(h:TSF H0 Ex (ay i f) D σ H):pD (TEF H0 Ex f) (kz i) D σ H:=by
 obtain ⟨Hs,ρ,⟨S,n⟩,p⟩:=h;refine ⟨Hs,ρ,[],S,(PostS.aft p).imp fun d _ p1 v H1 S1=>?_⟩;split at p1
 ·exact p1.elim
 ·rename_i hc
  exact p1 _ H1 (SR.set0 S1 (fun z=>hc (.inl z)) n (by omega))
theorem aK{i:Nat}{x:Str}{pos':Pos}(hN:X.N.Nodup)(hi:X.N[i]?=some x)(hx:Loc X.env.scope x)(he:FE X H0 Ex e f)(hs:swapsWith e (some (.Name x pos')) pos.line X.env=pure false:=by rfl)(hf:X.fn x=true\/X.env.scope.names.lookup x=some .local:=by first | exact .inl rfl | exact .inr rfl | assumption) :
    FS X H0 Ex (.Assign [.Name x pos'] e pos) (ay i f):=⟨PS.pre (sR hN hi hx he.go hs hf) fun _ _ _ h=>rk h⟩
def fFz(f:ad->Res D):ad->Res D:=fun ρ=>f ρ >>= fun d=>if d.tag=.b then .bad else .ok d.fz
theorem be(he:FE X H0 Ex e f):FE X H0 Ex e (fFz f):=by
 refine ⟨PE.pre he.go ?_⟩;rintro σ H Q ⟨Hs,ρ,ts,S,p⟩;refine ⟨Hs,ρ,ts,S,(Post.bind p).imp fun d _ p1 v H1 S1=>?_⟩;split at p1
 ·exact p1.elim
 ·rename_i hc
  exact p1 v H1 (SR.frz S1 hc)
def frzAt(i:Nat)(ρ:ad):ad:=match ρ[i]? with
 |some (some d)=>ρ.set i (some d.fz)
 |_=>ρ
theorem SR.frzAt{Hs H0 H:Hp}{σ:St}{ρ:ad}(S:SR Hs H0 H σ ρ)(n:noB ρ)(i:Nat):SS Hs H0 H σ (frzAt i ρ):=by
 unfold Mi.frzAt;split
 ·rename_i d hd
  obtain ⟨v,hv,S'⟩:=S.move hd (n d (List.mem_of_getElem? hd));have S1:=S'.frz (n d (List.mem_of_getElem? hd));have hi:i<ρ.length:=(List.getElem?_eq_some_iff.mp hd).1;have S2:=SR.set S1 (by rw[d.fz_tag];decide) (i:=i) (by simpa using hi);rw[List.set_set] at S2;have hvi:σ.set i (some v)=σ:=by
   obtain ⟨a,b⟩:=List.getElem?_eq_some_iff.mp hv;rw[<- b];exact List.set_getElem_self a
  rw[hvi] at S2;exact ⟨S2,n.set fun d' e=>by cases e;rw[d.fz_tag];decide⟩
 ·exact ⟨S,n⟩
theorem tU(i:Nat)(h:FS X H0 Ex st g):FS X H0 Ex st (fun ρ=>g (frzAt i ρ)):=by
 refine ⟨PS.pre h.go ?_⟩;rintro D σ H ⟨Hs,ρ,⟨S,n⟩,p⟩;exact ⟨Hs,frzAt i ρ,S.frzAt n i,p⟩
end
end Mi
namespace L2
open PySem PySem.Spec PyProof.Rows
def dD(cells:List (Str × Addr)):List (Str × NameKind)->List (Str × Addr)->List (Str × Addr)
 | [],acc=>acc
 | (n,k)::r,acc=>if k == .free then dD cells r ((n,(cells.lookup n).getD 0)::acc) else dD cells r acc
theorem eP{scope:Scope}{env:Env}(h:∀ x∈scope.names,x.2=.free->∃ c,env.cells.lookup x.1=some c):closureFor scope env=pure (dD env.cells scope.names []):=by
 unfold closureFor;have go:∀ (names:List (Str × NameKind)) (acc:List (Str × Addr)),(∀ x∈names,x.2=.free->∃ c,env.cells.lookup x.1=some c) →
     (forIn names acc (fun (x:Str × NameKind) (r:List (Str × Addr))=>(if (x.2 == NameKind.free)=true then (do let y <- cellOf env x.1;pure (ForInStep.yield ((x.1,y)::r))) else pure (ForInStep.yield r):Sem (ForInStep (List (Str × Addr))))):Sem (List (Str × Addr)))=pure (dD env.cells names acc):=by
  intro names;induction names with
  |nil=>intro acc _;rfl
  |cons x r ih=>
   intro acc hx;obtain ⟨n,k⟩:=x;rw[List.forIn_cons];unfold dD
   cases hk:(k == NameKind.free) with
   |false=>
    simp only[hk,Bool.false_eq_true,if_false];exact ih acc fun y hy=>hx y (List.mem_cons_of_mem _ hy)
   |true=>
    obtain ⟨c,hc⟩:=hx (n,k) List.mem_cons_self (by simpa using hk);simp only[hk,if_true,cellOf,hc,Option.getD_some];exact ih _ fun y hy=>hx y (List.mem_cons_of_mem _ hy)
 have:=go scope.names [] h;simpa using this
theorem bS:∀ (names:List (Str × NameKind)) (n:Nat) (acc:List (Str × Addr)),cellsFrom n names acc=cellsFrom n names []++acc
 | [],_,_=>rfl
 | (x,k)::r,n,acc=>by
  unfold cellsFrom;split
  ·rw[bS r (n+1) ((x,n)::acc),bS r (n+1) [(x,n)]]
   simp
  ·exact bS r n acc
theorem dE:∀ (names:List (Str × NameKind)) (n:Nat) {x:Str} {c:Addr},(x,c)∈cellsFrom n names []->(x,NameKind.cell)∈names
 | [],_,_,_,h=>by simp[cellsFrom] at h
 | (y,k)::r,n,x,c,h=>by
  unfold cellsFrom at h;split at h
  ·rename_i hk
   rw[bS] at h;rcases List.mem_append.mp h with h | h
   ·exact List.mem_cons_of_mem _ (dE r (n+1) h)
   ·simp at h
    rw[h.1];have:k=.cell:=by simpa using hk
    rw[this];exact List.mem_cons_self
  ·exact List.mem_cons_of_mem _ (dE r n h)
theorem iB(cells:List (Str × Addr)):∀ (names:List (Str × NameKind)) (acc:List (Str × Addr)) {x:Str} {c:Addr},(x,c)∈dD cells names acc->((x,NameKind.free)∈names/\c=(cells.lookup x).getD 0)\/(x,c)∈acc
 | [],acc,x,c,h=>.inr h
 | (n,k)::r,acc,x,c,h=>by
  unfold dD at h;split at h
  ·rename_i hk
   rcases iB cells r _ h with ⟨a,b⟩ | h
   ·exact .inl ⟨List.mem_cons_of_mem _ a,b⟩
   ·rcases List.mem_cons.mp h with h | h
    ·cases h
     have:k=.free:=by simpa using hk
     rw[this];exact .inl ⟨List.mem_cons_self,rfl⟩
    ·exact .inr h
  ·rcases iB cells r _ h with ⟨a,b⟩ | h
   ·exact .inl ⟨List.mem_cons_of_mem _ a,b⟩
   ·exact .inr h
theorem iC(cells:List (Str × Addr)):∀ (names:List (Str × NameKind)) (acc:List (Str × Addr)) {x:Str},((x,NameKind.free)∈names\/∃ c,(x,c)∈acc)->∃ c,(x,c)∈dD cells names acc
 | [],acc,x,h=>by
  rcases h with h | h
  ·simp at h
  ·exact h
 | (n,k)::r,acc,x,h=>by
  unfold dD;split
  ·refine iC cells r _ ?_
   rcases h with h | ⟨c,h⟩
   ·rcases List.mem_cons.mp h with h | h
    ·cases h;exact .inr ⟨_,List.mem_cons_self⟩
    ·exact .inl h
   ·exact .inr ⟨c,List.mem_cons_of_mem _ h⟩
  ·rename_i hk
   refine iC cells r _ ?_;rcases h with h | ⟨c,h⟩
   ·rcases List.mem_cons.mp h with h | h
    ·cases h;exact absurd rfl hk
    ·exact .inl h
   ·exact .inr ⟨c,h⟩
theorem eQ{α:Type}:∀ {l:List (Str × α)} {x:Str} {c:α},(x,c)∈l->∃ c',l.lookup x=some c'
 | (k,v)::r,x,c,h=>by
  rw[List.lookup_cons]
  cases hb:x == k with
  |true=>exact ⟨v,rfl⟩
  |false=>
   rcases List.mem_cons.mp h with h | h
   ·cases h;simp at hb
   ·exact eQ h
theorem cH{α:Type}:∀ {l:List (Str × α)} {x:Str} {c:α},(l.map (·.1)).Nodup->(x,c)∈l->l.lookup x=some c
 | (k,v)::r,x,c,nd,h=>by
  rw[List.lookup_cons];rw[List.map_cons] at nd;obtain ⟨n1,n2⟩:=List.nodup_cons.mp nd;rcases List.mem_cons.mp h with h1 | h1
  ·cases h1;simp
  ·have:(x == k)=false:=by
      simp only[beq_eq_false_iff_ne];intro e;exact n1 (e ▸ List.mem_map.mpr ⟨_,h1,rfl⟩)
   rw[this];exact cH n2 h1
theorem iX{α:Type}:∀ (l r:List (Str × α)) (x:Str),(l++r).lookup x=(l.lookup x).or (r.lookup x)
 | [],r,x=>by simp
 | (k,v)::l,r,x=>by
  rw[List.cons_append,List.lookup_cons,List.lookup_cons]
  cases hb:x == k with
  |true=>rfl
  |false=>exact iX l r x
def tV(X:Cx)(scope:Scope)(C:Addr)(cells:List (Str × Addr)):Env:=
 { scope:=relabel scope X.env,locals:=C,globals:=X.env.globals,cells:=cells,qual:=X.env.qual,func:=none,code:=X.env.code,frame:=X.env.frame,builtins:=X.env.builtins }
def cu(X:Cx)(scope:Scope)(N:List Str)(C:Addr)(cells:List (Str × Addr))(s0:Shared)(H0:Hp)(ex:List Addr)(pn:List (Addr × Obj)):Cx where
 prog:=X.prog
 w:=X.w
 K:=X.K
 mg:=X.mg
 base:=X.base
 A:=X.A
 N:=N
 s₀:=s0
 H₀:=H0
 env:=tV X scope C cells
 outer:=X.stack
 stack:=X.stack
 ex:=ex
 fn:=fun x=>decide (scope.names.lookup x=some .cell)
 calm:=X.calm
 pn:=pn
 xe:=fun _ _=>False
structure CompScope (X:Cx) (scope:Scope) (own:List Str) (cap:List (Str × Nat)):Prop where
 kind:scope.kind=.function
 nd:(scope.names.map (·.1)).Nodup
 free:∀ x∈scope.names,x.2=.free->X.env.kindOf x.1=some .cell\/X.env.kindOf x.1=some .free
 capN:∀ p∈cap,X.N[p.2]?=some p.1/\scope.names.lookup p.1=some .free
 ndN:(own++cap.map (·.1)).Nodup
theorem fu{scope:Scope}{env:Env}(x:Str):(relabel scope env).names.lookup x=match scope.names.lookup x with
    |some .free=>if env.scope.kind == ScopeKind.function&&env.kindOf x == some NameKind.cell then some .cell else some .free
    |k=>k:=by
 unfold relabel;show List.lookup x (scope.names.map _)=_;induction scope.names with
 |nil=>rfl
 |cons p r ih=>
  obtain ⟨n,k⟩:=p;rw[List.map_cons,List.lookup_cons,List.lookup_cons];have hfst:(if (k == NameKind.free&&env.scope.kind == ScopeKind.function&&env.kindOf n == some NameKind.cell)=true then (n,NameKind.cell) else (n,k)).1=n:=by split<;>rfl
  show (match x == (if (k == NameKind.free&&env.scope.kind == ScopeKind.function&&env.kindOf n == some NameKind.cell)=true then (n,NameKind.cell) else (n,k)).1 with | true=>some (if (k == NameKind.free&&env.scope.kind == ScopeKind.function&&env.kindOf n == some NameKind.cell)=true then (n,NameKind.cell) else (n,k)).2 | false=>_)=_;rw[hfst]
  cases hx:x == n with
  |false=>exact ih
  |true=>
   have e:x=n:=by simpa using hx
   subst e
   cases k with
   |free=>
    cases hc:(env.scope.kind == ScopeKind.function&&env.kindOf x == some NameKind.cell) with
    |true=>simp only[beq_self_eq_true,Bool.true_and,hc,if_true]
    |false=>simp only[beq_self_eq_true,Bool.true_and,hc,Bool.false_eq_true,if_false]
   |_=>rfl
theorem lT{M:Model}{A:Around}{E:Value->Shared->Prop}{s:Shared}{scope:Scope}{g:Addr}{cl:List (Str × Addr)}{qual:Str}{env:Env}{Q:Env->Shared->Prop}
    (h:∀ h':Heap,h'.Ns s.heap.objs.size (fun _=>none)->(∀ b o,s.heap.get? b=some o->h'.get? b=some o) →
     (∀ x c,(x,c)∈cellsFrom (s.heap.objs.size+1) scope.names []->h'.IsCell c none/\s.heap.objs.size+1<=c)->((cellsFrom (s.heap.objs.size+1) scope.names []).Pairwise fun x y=>x.2≠y.2) →
     Q { scope,locals:=s.heap.objs.size,globals:=g,cells:=cellsFrom (s.heap.objs.size+1) scope.names cl,qual,func:=none,code:=env.code,frame:=env.frame,builtins:=env.builtins } { s with heap:=h' }) :
    wpAny M A (newFunctionEnv scope g cl [] qual none .none (some env)) Q E s:=by
 simp only[newFunctionEnv,Option.isSome_some,if_true];refine wpAny_bind (wpAny_alloc ?_);refine wpAny_bind (wpAny_layCells _ (fun name kind cells=>by cases hkc:kind == NameKind.cell<;>simp[hkc]) _ _ _ _ ?_)
 have ok:=cellsFrom_ok scope.names (s.heap.push { cls:=.type "dict", data:=.dict #[] }) (s.heap.objs.size+1) [] ⟨fun _ _ hm=>(nomatch hm),List.Pairwise.nil⟩ (by rw[Heap.size_push];exact Nat.le_refl _);rw[Heap.size_push] at ok;rw[show ({ s with heap:=s.heap.push { cls:=.type "dict", data:=.dict #[] } }:Shared).heap.objs.size=s.heap.objs.size+1 from Heap.size_push ..]
 refine wpAny_bind (wpAny_pure (wpAny_pure ?_));exact h _ ((Heap.Ns.new s.heap (.type "dict")).keeps (pushCells_keeps _ _)) (fun b o e=>pushCells_keeps _ _ b o (Heap.get?_push_of_some _ e)) (fun x c m=>ok.empty x c m) ok.apart
section
variable {X:Cx}{pins:List (Addr × Obj)}{σ:St}{H:Hp}{s:Shared}{scope:Scope}{own:List Str}{cap:List (Str × Nat)}
abbrev cY(X:Cx)(scope:Scope)(n:Nat):List (Str × Addr):=cellsFrom (n+1) scope.names (dD X.env.cells scope.names [])
theorem bx(I:Inv X pins σ H s)(S:CompScope X scope own cap){n:Nat}{x:Str}{c:Addr}(h:(cY X scope n).lookup x=some c) :
    ((x,c)∈cellsFrom (n+1) scope.names []/\scope.names.lookup x=some .cell)\/(scope.names.lookup x=some .free/\X.env.cells.lookup x=some c):=by
 unfold cY at h;rw[bS,iX] at h
 cases e:(cellsFrom (n+1) scope.names []).lookup x with
 |some c'=>
  rw[e] at h
  cases h
  have m:=PySem.mem_of_lookup e;exact .inl ⟨m,cH S.nd (dE _ _ m)⟩
 |none=>
  rw[e] at h;have h:(dD X.env.cells scope.names []).lookup x=some c:=h;rcases iB _ _ _ (PySem.mem_of_lookup h) with ⟨a,b⟩ | a
  ·have hk:=cH S.nd a
   obtain ⟨c',hc'⟩:=I.ok.has x (S.free _ a rfl);rw[hc'] at b;exact .inr ⟨hk,by rw[hc',b];rfl⟩
  ·simp at a
theorem ij(I:Inv X pins σ H s)(S:CompScope X scope own cap){n:Nat}{x:Str}(h:scope.names.lookup x=some .free):∃ c,(cY X scope n).lookup x=some c/\X.env.cells.lookup x=some c:=by
 have m:=PySem.mem_of_lookup h;obtain ⟨c,hc⟩:=iC X.env.cells scope.names [] (.inl m);obtain ⟨c',hc'⟩:=eQ (l:=cY X scope n) (x:=x) (c:=c) (by unfold cY;rw[bS];exact List.mem_append_right _ hc);rcases bx I S hc' with ⟨_,k⟩ | ⟨_,k⟩
 ·rw[h] at k;cases k
 ·exact ⟨c',hc',k⟩
theorem pS{H3:Hp}{h3:Heap}(I:Inv X pins σ H s)(I3:Inv X pins σ H3 { s with heap:=h3 })(kp3:∀ b o,s.heap.get? b=some o->h3.get? b=some o)(S:CompScope X scope own cap){fp:List Addr}(u3:Un (frs X.stack) fp H H3 s.heap h3)
    (hf:∀ b∈fp,er X pins H b) (he:∀ b∈fp,∃ o,s.heap.get? b=some o) {h':Heap}
    (ns:h'.Ns h3.objs.size (fun _=>none)) (kp:∀ b o,h3.get? b=some o->h'.get? b=some o)
    (cl:∀ x c,(x,c)∈cellsFrom (h3.objs.size+1) scope.names []->h'.IsCell c none/\h3.objs.size+1<=c) (ap:(cellsFrom (h3.objs.size+1) scope.names []).Pairwise fun x y=>x.2≠y.2) (hle:s.heap.objs.size<=h3.objs.size) :
    Inv (cu X scope (own++cap.map (·.1)) h3.objs.size (cY X scope h3.objs.size) s H fp (X.pn++pins)) [] (List.replicate own.length none++cap.map fun p=>(σ[p.2]?).join) H3 { s with heap:=h' }:=by
 have low:∀ x c,X.env.cells.lookup x=some c->c<s.heap.objs.size:=fun x c e=>let ⟨v,q⟩:=I.cell x c e;q.lt;have fresh:∀ a,h3.objs.size<=a->H3 a=none:=fun a h=>I3.hok.fresh h;have notStk:∀ b,b≠X.env.locals->b∉X.fs->b∉frs X.stack:=fun b h1 h2 m=>by
  rcases List.mem_cons.mp (I.stkSub b m) with e | e
  ·exact h1 e
  ·exact h2 e
 refine ⟨⟨I.ok.mod,S.kind,I.ok.glob,I.ok.blt,hle,fun x y c h1 h2=>?_,fun x hx=>?_,fun x c hx h1=>?_,I.ok.hd,I.ok.frames,.inl rfl,fun b hb=>⟨?_,fun x c h1 z=>?_⟩,fun b o e=>I.bs b o e,Nat.le_trans I.ok.bsz I.sz,fun b o e hb=>?_,fun b hb=>?_,I.stack,fun b hb=>I.stkFree b hb⟩,
  rfl,I.bare,u3.trans (Un.kept kp),⟨_,ns,fun i x v h1 h2 hv3=>?_⟩,fun x c h1=>?_,fresh _ (Nat.le_refl _),fun x c h1=>?_,fun p hp=>?_,I3.hok.kept kp,?_⟩
 ·
  rcases bx I S h1 with ⟨m1,k1⟩ | ⟨k1,c1⟩ <;> rcases bx I S h2 with ⟨m2,k2⟩ | ⟨k2,c2⟩
  ·exact name_of_addr ap m1 m2
  ·exact absurd (Nat.lt_of_lt_of_le (low y c c2) hle) (Nat.not_lt.mpr (Nat.le_of_succ_le (cl x c m1).2))
  ·exact absurd (Nat.lt_of_lt_of_le (low x c c1) hle) (Nat.not_lt.mpr (Nat.le_of_succ_le (cl y c m2).2))
  ·exact I.ok.inj x y c c1 c2
 ·have hx:(relabel scope X.env).names.lookup x=some .cell\/(relabel scope X.env).names.lookup x=some .free:=hx
  rw[fu] at hx
  cases e:scope.names.lookup x with
  |none=>rw[e] at hx;simp at hx
  |some k=>
   cases k with
   |free=>obtain ⟨c,a,_⟩:=ij (n:=h3.objs.size) I S e;exact ⟨c,a⟩
   |cell=>
    have q:=PySem.W.cellsFrom_some scope.names (h3.objs.size+1) (dD X.env.cells scope.names []) (.inl e);exact Option.isSome_iff_exists.mp q
   |_=>rw[e] at hx;simp at hx
 ·have hx:scope.names.lookup x=some .cell:=of_decide_eq_true hx
  rcases bx I S h1 with ⟨m1,k1⟩ | ⟨k1,c1⟩
  ·show s.heap.objs.size<=c
   have:=(cl x c m1).2;omega
  ·rw[hx] at k1;cases k1
 ·obtain ⟨o,e⟩:=he b hb
  exact Nat.ne_of_lt (Nat.lt_of_lt_of_le (Heap.lt_size e) hle)
 ·subst z
  rcases bx I S h1 with ⟨m1,k1⟩ | ⟨k1,c1⟩
  ·obtain ⟨o,e⟩:=he c hb
   exact absurd (Nat.lt_of_lt_of_le (Heap.lt_size e) hle) (Nat.not_lt.mpr (Nat.le_of_succ_le (cl x c m1).2))
  ·exact (hf c hb).2.2.2.2.1 x c c1 rfl
 ·rcases (hf b hb).2.2.2.1 with z | z
  ·exact I.ok.noex b o e z
  ·exact absurd (Nat.lt_of_lt_of_le (Heap.lt_size e) (Nat.le_trans I.ok.bsz z)) (Nat.lt_irrefl _)
 ·exact notStk b (hf b hb).2.1 (hf b hb).2.2.1
 ·
  by_cases hi:i<own.length
  ·rw[List.getElem?_append_left (by simpa using hi),List.getElem?_replicate] at h2
   split at h2<;>cases h2
  ·rw[List.getElem?_append_right (by simpa using hi)] at h2
   have h1:(own++cap.map (·.1))[i]?=some x:=h1;rw[List.getElem?_append_right (by omega)] at h1;rw[List.length_replicate] at h2;rw[List.getElem?_map] at h1 h2
   cases e:cap[i - own.length]? with
   |none=>rw[e] at h1;cases h1
   |some p=>
    rw[e] at h1 h2;have e1:p.1=x:=Option.some.inj h1;subst e1;have e2:(σ[p.2]?).join=some v:=Option.some.inj h2;obtain ⟨hN,hk⟩:=S.capN p (List.mem_of_getElem? e);have e3:σ[p.2]?=some (some v):=by
     cases q:σ[p.2]? with
     |none=>rw[q] at e2;cases e2
     |some o=>rw[q] at e2;rw[show o=some v from e2]
    obtain ⟨c,a1,a2⟩:=ij (n:=h3.objs.size) I S hk;have hvis:X.env.kindOf p.1=some .cell\/X.env.kindOf p.1=some .free:=S.free _ (PySem.mem_of_lookup hk) rfl;obtain ⟨m,hn,hl⟩:=I.loc;obtain ⟨u,r,l⟩:=hl p.2 p.1 v hN e3 (by rcases hvis with z | z;exact .inr (.inl z);exact .inr (.inr z));refine ⟨u,r,.inr ⟨?_,c,a1,?_⟩⟩
    ·show (relabel scope X.env).names.lookup p.1=some .cell\/(relabel scope X.env).names.lookup p.1=some .free
     rw[fu,hk]
     cases hb:(X.env.scope.kind == ScopeKind.function&&X.env.kindOf p.1 == some NameKind.cell) with
     |true=>exact .inl (by simp[hb])
     |false=>exact .inr (by simp[hb])
    ·rcases l with ⟨z,_⟩ | ⟨_,c',b1,b2⟩
     ·rcases hvis with y | y<;>rw[y] at z<;>cases z
     ·rw[a2] at b1
      cases b1
      exact (b2.keeps kp3).keeps kp
 ·rcases bx I S h1 with ⟨m1,k1⟩ | ⟨k1,c1⟩
  ·exact ⟨none,(cl x c m1).1⟩
  ·obtain ⟨v,q⟩:=I.cell x c c1
   exact ⟨v,(q.keeps kp3).keeps kp⟩
 ·rcases bx I S h1 with ⟨m1,k1⟩ | ⟨k1,c1⟩
  ·exact fresh c (by have:=(cl x c m1).2;omega)
  ·exact I3.freeC x c c1
 ·have hp:p∈(X.pn++pins)++[]:=hp
  rw[List.append_nil] at hp;obtain ⟨a,b,c,d,e⟩:=I3.pin p hp;exact ⟨kp _ _ a,b,Nat.ne_of_lt (Heap.lt_size a),notStk _ c d,e⟩
 ·show _=(own++cap.map (·.1)).length
  simp
end
section
variable {prog:Program}{w:World}{A:Around}{R:Result->Shared->Prop}{s:Shared}
theorem og{elt target iter:Expr}{ifs:List Expr}{scope:Scope}{pos:Pos}{it acc:Value}{env:Env}(I:Nat->Shared->Prop)
    (turn:∀ n s,I n s->wpAny (model prog w) A (pyNext it) (fun r s₁=>match r with
     |none=>R (.ok .next) s₁
     |some v=>wpAny (model prog w) A (letOwnedTupleGo target it v) (fun _ s₁'=>wpAny (model prog w) A (assign target env v) (fun _ s₂=>
         wpAny (model prog w) A (forIn ifs true fun c r=>if r=true then do let ok <- isTrue c env (eval c env);pure (ForInStep.yield ok) else pure (ForInStep.yield r)) (fun ok s₃=>
          if ok=true then wpAny (model prog w) A (eval elt env) (fun x s₄=>
           wpAny (model prog w) A (call (.builtin "list.append") [acc,x]) (fun _ s₅=>∃ m,m<n/\I m s₅) (fun _ _=>False) s₄) (fun _ _=>False) s₃
          else ∃ m,m<n/\I m s₃) (fun _ _=>False) s₂) (fun _ _=>False) s₁') (fun _ _=>False) s₁) (fun _ _=>False) s)
    (n:Nat) (h:I n s):codeAny (model prog w) A (.compLoop (.ListComp elt [⟨target,iter,ifs,0⟩] scope pos) 0 it acc env) R s:=by
 refine codeAny_loop rfl I (fun n s hI=>?_) n h;show wpAny _ A ((compTurn (.ListComp elt [⟨target,iter,ifs,0⟩] scope pos) 0 it acc env).onRaise (fun x=>do noteFrame x env;theTreesLotGoes x)) _ _ s;refine wpAny_noted ?_;rw[compTurn_list];refine wpAny_bind (wpAny_standAt (wpAny_bind (wpAny_mono (turn n s hI) (fun r s₁ h₁=>?_) fun _ _ h'=>h'.elim)))
 cases r with
 |none=>exact wpAny_pure h₁
 |some v=>
  refine wpAny_bind (wpAny_mono h₁ (fun _ s₁' h₁'=>?_) fun _ _ h'=>h'.elim);refine wpAny_bind (wpAny_mono h₁' (fun _ s₂ h₂=>wpAny_bind (wpAny_mono h₂ (fun ok s₃ h₃=>?_) fun _ _ h'=>h'.elim)) fun _ _ h'=>h'.elim)
  cases ok with
  |false=>exact wpAny_pure ⟨rfl,h₃⟩
  |true=>
   exact wpAny_bind (wpAny_bind (wpAny_mono h₃ (fun x s₄ h₄=>wpAny_bind (wpAny_mono h₄ (fun _ s₅ h₅=>wpAny_pure (wpAny_pure ⟨rfl,h₅⟩)) fun _ _ h'=>h'.elim)) fun _ _ h'=>h'.elim))
end
end L2
namespace Mi
open PySem PySem.Spec L2
open PyProof.Rows hiding St
def Yl(B H:Hp)(x:V)(H':Hp)(d:D):Prop:=d.tag=.f/\((H'=H/\Rep B x d)\/∃ p us ds,H p=none/\H'=upd H p (.tup us)/\x=.ref p/\d=.tup ds/\Reps B us ds)
def dZ(J:It)(B:Hp)(items:List D):Prop:=∀ H,Same B H->∀ i,(∀ d,items[i]?=some d->J.go i H/\∀ x H',J.yld i H x H'->Yl B H x H' d)/\(i=items.length->J.stop i H)
def TIF(H0:Hp)(Ex:Value->Prop)(fi:ad->Res (List D)):TI:=fun σ H R=>∃ Hs ρ ts,SX Hs H0 H ts σ ρ ∧
 Post Ex (fi ρ) fun items=>∀ J H' Hf fp,dZ J Hf items->Own Hf H' fp (tvs ts++σ) (tds ts++ρ)->Fine Hs H0 Hf H' fp->R J H'
structure FI (X:Cx) (H0:Hp) (Ex:Value->Prop) (tg iter:Expr) (fi:ad->Res (List D)):Prop where
 go:PI X tg iter (TIF H0 Ex fi)
theorem PI.pre{X:Cx}{tg e:Expr}{t t':TI}(h:PI X tg e t)(i:∀ σ H Q,t' σ H Q->t σ H Q):PI X tg e t':=fun pins s σ H Q I q=>h pins s σ H Q I (i σ H Q q)
def TGF(H0:Hp)(gt:D->ad->Res ad):TG:=fun v σ H Q=>∃ Hs ρ d ts,SX Hs H0 H ((v,d)::ts) σ ρ/\d.tag≠.b/\noB ρ/\Post (fun _=>False) (gt d ρ) fun ρ'=>∀ σ',SX Hs H0 H ts σ' ρ'->noB ρ'->Q σ' H
structure FG (X:Cx) (H0:Hp) (tg:Expr) (gt:D->ad->Res ad):Prop where
 go:PG X tg (TGF H0 gt)
structure MG (X:Cx) (tg:Expr) (i:Nat):Prop where
 go:PG X tg (kz i)
structure Po (X:Cx):Prop where
 go:PassesOwn (model X.prog X.w) X.A X.env X.xe
theorem PG.pre{X:Cx}{tg:Expr}{t t':TG}(h:PG X tg t)(i:∀ v σ H Q,t' v σ H Q->t v σ H Q):PG X tg t':=fun pins s σ H v u Q I r q=>h pins s σ H v u Q I r (i v σ H Q q)
theorem dU{α:Type}:∀ (l r:List α) (i:Nat) (x:α),(l++r).set (l.length+i) x=l++r.set i x
 | [],r,i,x=>by simp
 |a::l,r,i,x=>by
  have e:(a::l).length+i=(l.length+i)+1:=by simp;omega
  rw[e,List.cons_append,List.set_cons_succ,dU l r i x];rfl
theorem SX.set{Hs H0 H:Hp}{v:V}{d:D}{ts:List (V × D)}{σ:St}{ρ:ad}(S:SX Hs H0 H ((v,d)::ts) σ ρ)(t:d.tag≠.b){i:Nat}(hi:i<ρ.length):SX Hs H0 H ts (σ.set i (some v)) (ρ.set i (some d)):=by
 have S':SR Hs H0 H (some v::(tvs ts++σ)) (some d::(tds ts++ρ)):=S;have:=SR.set S' t (i:=(tds ts).length+i) (by rw[List.length_append];omega);rw[dU,gT,<- gS ts,dU] at this;exact this
section
variable {X:Cx}{Ex:Value->Prop}{H0:Hp}{e iter tg:Expr}{f:ad->Res D}{pos:Pos}
def au(i:Nat):D->ad->Res ad:=fun d ρ=>if ρ.length<=i then .bad else .ok (ρ.set i (some d))
theorem aX{i:Nat}{x:Str}(hN:X.N.Nodup)(hi:X.N[i]?=some x)(hx:Loc X.env.scope x)(hf:X.fn x=true\/X.env.scope.names.lookup x=some .local:=by first | exact .inl rfl | exact .inr rfl | assumption):FG X H0 (.Name x pos) (au i):=by
 refine ⟨PG.pre (lZ hN hi hx hf) ?_⟩;rintro v σ H Q ⟨Hs,ρ,d,ts,S,t,n,p⟩;unfold au at p;split at p
 ·exact p.elim
 ·exact p _ (SX.set S t (by omega)) (n.set fun d' e=>by cases e;exact t)
def ee:List Nat->List D->ad->Res ad
 | [],[],ρ=>.ok ρ
 |i::is,d::ds,ρ=>if ρ.length<=i then .bad else ee is ds (ρ.set i (some d.asF))
 |_,_,_=>.bad
def dN(is:List Nat):D->ad->Res ad:=fun d ρ=>match d with
 | .tup ds=>ee is ds ρ
 |_=>.bad
def wd(H0:Hp)(is:List Nat):TGs:=fun vs σ H Q=>∃ Hs Hf fp ρ ds ts,Own Hf H fp (tvs ts++σ) (tds ts++ρ)/\Fine Hs H0 Hf H fp/\Reps Hf vs ds/\noB ρ/\Post (fun _=>False) (ee is ds ρ) fun ρ'=>∀ σ',SX Hs H0 H ts σ' ρ'->noB ρ'->Q σ' H
structure FGs (X:Cx) (H0:Hp) (es:List Expr) (is:List Nat):Prop where
 go:PGs X es (wd H0 is)
theorem gU{i:Nat}{x:Str}(hN:X.N.Nodup)(hi:X.N[i]?=some x)(hx:Loc X.env.scope x)(hf:X.fn x=true\/X.env.scope.names.lookup x=some .local:=by first | exact .inl rfl | exact .inr rfl | assumption):MG X (.Name x pos) i:=⟨lZ hN hi hx hf⟩
theorem ma:FGs X H0 [] []:=by
 refine ⟨?_⟩;intro pins s σ H vs us Q I r h;refine qR pins s σ H vs us Q I r ?_;obtain ⟨Hs,Hf,fp,ρ,ds,ts,O,F,R,n,p⟩:=h
 cases R with
 |nil=>exact ⟨rfl,p σ ⟨Hf,fp,O,F⟩ n⟩
 |cons a b=>exact p.elim
theorem fR{i:Nat}{is:List Nat}{x:Str}{p:Pos}{es:List Expr}(h1:MG X (.Name x p) i)(h2:FGs X H0 es is)
    (hs:(assignEach (.Name x p::es) X.env).map (·.2)=assign (.Name x p) X.env::(assignEach es X.env).map (·.2):=by rfl):FGs X H0 (.Name x p::es) (i::is):=by
 refine ⟨?_⟩;intro pins s σ H vs us Q I r h;refine pC h1.go h2.go hs pins s σ H vs us Q I r ?_;obtain ⟨Hs,Hf,fp,ρ,ds,ts,O,F,R,n,p⟩:=h
 cases R with
 |nil=>exact p.elim
 |cons a b=>
  rename_i v d vs ds;unfold ee at p;split at p
  ·exact p.elim
  ·rename_i hi
   refine ⟨v,vs,rfl,?_⟩;obtain ⟨fp',O',fp2,pm,sl⟩:=Own.put (.fz a.asF d.asF_tag) O (i:=(tds ts).length+i) (by rw[List.length_append];omega);rw[dU,gT,<- gS ts,dU] at O';exact ⟨Hs,Hf,fp',_,ds,ts,O',(F.subl sl).perm (by simpa using pm),b,n.set fun d' e=>by cases e;rw[d.asF_tag];decide,p⟩
theorem oh{es:List Expr}{k:Nat}{is:List Nat}(hc:X.calm=true)(h:FGs X H0 es is)(hn:(assignEach es X.env).length=is.length:=by rfl)(hst:(assignEach es X.env).findIdx? (·.1)=none:=by rfl):FG X H0 (.Tuple es k pos) (dN is):=by
 refine ⟨PG.pre (sO hc h.go hn hst) ?_⟩;rintro v σ H Q ⟨Hs,ρ,d,ts,S,t,n,p⟩;unfold dN at p;split at p
 ·rename_i ds
  obtain ⟨Hf,fp,O,F⟩:=S
  cases O with
  |brw z h r=>exact absurd z t
  |cons h r=>
   cases h with
   |fz h z=>
    cases h with
    |tup h q=>
     refine ⟨_,_,rfl,SqT.of (F.fh _ _ h),?_,Hs,Hf,_,ρ,ds,ts,r,F.subl (List.sublist_append_right _ _),q,n,p⟩;rw[q.length];have:∀ (is:List Nat) (ds:List D) (ρ:ad) {Ex:Value->Prop} {k:ad->Prop},Post Ex (ee is ds ρ) k->ds.length=is.length:=by
      intro is;induction is with
      |nil=>intro ds ρ Ex k h;cases ds with | nil=>rfl | cons a b=>exact h.elim
      |cons i is ih=>
       intro ds ρ Ex k h
       cases ds with
       |nil=>exact h.elim
       |cons a b=>
        unfold ee at h;split at h
        ·exact h.elim
        ·simp[ih b _ h]
     exact this is ds ρ p
 ·exact p.elim
theorem tW{K:PySem.W.Frag}{B:Hp}{a:Addr}{us:List V}{ds:List D}(h:B a=some (.lst us))(R:Reps B us ds)(t:∀ e∈ds,e.tag=.f):dZ (Itl K a) B ds:=by
 intro H s i;have hl:=R.length;refine ⟨fun d hd=>?_,fun hi=>⟨us,SqL.of (s _ _ h),by omega⟩⟩;obtain ⟨u,hu,ru⟩:=R.get hd;refine ⟨⟨us,u,SqL.of (s _ _ h),hu⟩,fun x H' ⟨e,y⟩=>⟨t d (List.mem_of_getElem? hd),.inl ⟨e,?_⟩⟩⟩;have:=y us (SqL.of (s _ _ h));rw[hu] at this
 cases this
 exact ru
def aB(lo:Int)(n:Nat):List D:=(List.range n).map fun (i:Nat)=>D.int (lo+(i:Int))
theorem tX{lo:Int}{n:Nat}{B:Hp}:dZ (Itr lo n) B (aB lo n):=by
 intro H s i;refine ⟨fun d hd=>?_,fun hi=>(show n<=i from Nat.le_of_eq (by simpa [aB] using hi.symm))⟩;simp only[aB,List.getElem?_map] at hd
 cases e:(List.range n)[i]? with
 |none=>rw[e] at hd;cases hd
 |some j=>
  rw[e] at hd;obtain ⟨h1,h2⟩:=List.getElem?_eq_some_iff.mp e;simp at h1 h2;subst h2;have hd:D.int (lo+(i:Int))=d:=Option.some.inj hd;subst hd;exact ⟨h1,fun x H' ⟨e1,e2⟩=>⟨rfl,.inl ⟨e1,by rw[e2];exact .int⟩⟩⟩
def bz(fa:ad->Res (List D)):ad->Res (List D):=fun ρ=>fa ρ >>= fun es=>match es with
 | [.int j]=>if decide (-(2 ^ 62)<=j)&&decide (j<2 ^ 62) then .ok (aB 0 j.toNat) else .bad
 |_=>.bad
theorem bX{a:Expr}{p:Pos}{fa:ad->Res (List D)}(hg:Gl X "range")(hm:X.mg "range" = none)(ha:FA X H0 Ex [a] fa)(hs:starEach [a] X.env=[(false,eval a X.env)]:=by rfl):FI X H0 Ex tg (.Call (.Name "range" p) [a] [] pos) (bz fa):=by
 refine ⟨PI.pre (nN hg hm ha.go hs) ?_⟩;rintro σ H R ⟨Hs,ρ,ts,S,p⟩;refine ⟨Hs,ρ,ts,S,(Post.bind p).imp fun es _ p1 us H1 hl S1=>?_⟩;split at p1
 ·rename_i j _
  split at p1
  ·rename_i hc
   simp at hc;obtain ⟨u,rfl⟩:∃ u,us=[u]:=by
    cases us with
    |nil=>simp at hl
    |cons u r=>cases r with | nil=>exact ⟨u,rfl⟩ | cons _ _=>simp at hl
   have S2:=SX.held hl S1;simp[hv,hd] at S2
   cases SR.isInt S2
   obtain ⟨Hf,fp,O,F⟩:=S2.drop;exact ⟨j,rfl,by omega,by omega,p1 _ H1 Hf fp tX O F⟩
  ·exact p1.elim
 ·exact p1.elim
def bN(gt:D->ad->Res ad)(gb:ad->FOut):List D->ad->FOut
 | [],ρ=>.nx ρ
 |x::xs,ρ=>match gt x ρ with
  | .ok ρ1=>match gb ρ1 with
   | .nx ρ2=>bN gt gb xs ρ2
   | .ct ρ2=>bN gt gb xs ρ2
   | .bk ρ2=>.nx ρ2
   |r=>r
  |_=>.bad
def b9(fi:ad->Res (List D))(gt:D->ad->Res ad)(gb:ad->FOut):ad->FOut:=fun ρ=>aft (fi ρ) fun items=>bN gt gb items ρ
theorem SR.base{Hs H0 Hf H1 H:Hp}{fp:List Addr}{vs:List (Option V)}{ds:List (Option D)}(F:Fine Hs H0 Hf H1 fp)(S:SR Hf H0 H vs ds):SR Hs H0 H vs ds:=by
 obtain ⟨Hg,fq,O,G⟩:=S;refine ⟨Hg,fq,O,G.nd,G.own,G.fh,G.zh,F.sf.trans G.sf,fun a o e=>?_⟩;rcases G.new a o e with ⟨o',z⟩ | z
 ·exact F.new a o' z
 ·exact .inr z
theorem PostS.base{Hs H0 Hf H1:Hp}{fp:List Addr}(F:Fine Hs H0 Hf H1 fp){D:Ends}{r:FOut}(p:PostS Hs H0 Ex D r):PostS Hf H0 Ex D r:=by
 cases r with
 |nx ρ=>exact fun σ H S=>p σ H ⟨SR.base F S.1,S.2⟩
 |rt d=>exact fun v H S=>p v H (SR.base F S)
 |bk ρ=>exact fun σ H S=>p σ H ⟨SR.base F S.1,S.2⟩
 |ct ρ=>exact fun σ H S=>p σ H ⟨SR.base F S.1,S.2⟩
 |exc C=>exact p
 |bad=>exact p
theorem SR.re{Hs H0 Hf H:Hp}{fp:List Addr}{vs:List (Option V)}{ds:List (Option D)}(O:Own Hf H fp vs ds)(F:Fine Hs H0 Hf H fp):SR Hf H0 H vs ds:=
 ⟨Hf,fp,O,F.nd,F.own,F.fh,F.zh,Same.refl _,fun a o e=>.inl ⟨o,e⟩⟩
theorem SR.yl{B H0 H H':Hp}{vs:List (Option V)}{ds:List (Option D)}{x:V}{d:D}(S:SR B H0 H vs ds)(y:Yl B H x H' d):SR B H0 H' (some x::vs) (some d::ds):=by
 obtain ⟨t,y⟩:=y;obtain ⟨Hf,fp,O,F⟩:=S;rcases y with ⟨rfl,r⟩ | ⟨p,us,es,hp,rfl,rfl,rfl,R⟩
 ·exact ⟨Hf,[]++fp,.cons (.fz (r.mono F.sf) t) O,F⟩
 ·have sf:Same Hf (upd Hf p (.tup us)):=fun b o e=>by rw[aH (aY e (F.fresh hp).1)];exact e
  exact SR.laidF O F hp (.tup bg ((R.mono F.sf).mono sf)) rfl
theorem cI{body:List Stmt}{fi:ad->Res (List D)}{gt:D->ad->Res ad}{gb:ad->FOut}(hp:Po X)(hc:X.calm=true)(hi:FI X H0 Ex tg iter fi)(hg:FG X H0 tg gt)(hb:FSs X H0 Ex body gb)
    (hs:∀ x,foldedSetIterable iter X.env x=pure x:=by intro _;rfl):FS X H0 Ex (.For tg iter body [] pos) (b9 fi gt gb):=by
 refine ⟨PS.pre (sT hp.go hc hi.go hg.go hb.go hs) ?_⟩;rintro D σ H ⟨Hs,ρ,⟨S,n⟩,p⟩;refine ⟨Hs,ρ,[],S,(PostS.aft p).imp fun items _ p1 J H1 Hf fp ok O F=>?_⟩;have p2:=PostS.base F p1;refine ⟨fun i m σ H=>m=items.length - i/\i<=items.length/\∃ ρ',SS Hf H0 H σ ρ'/\PostS Hf H0 Ex D (bN gt gb (items.drop i) ρ'),⟨items.length,by simp,Nat.zero_le _,ρ,⟨SR.re O F,n⟩,by simpa using p2⟩,?_⟩
 rintro i m σ H ⟨rfl,hi,ρ',⟨S,n⟩,p⟩;have sH:Same Hf H:=let ⟨_,_,_,G⟩:=S;G.sf.trans G.fh;obtain ⟨h1,h2⟩:=ok H sH i;by_cases hlt:i<items.length
 ·have hd:items[i]?=some items[i]:=by simp[hlt]
  obtain ⟨go,yl⟩:=h1 _ hd;have hdrop:items.drop i=items[i]::items.drop (i+1):=List.drop_eq_getElem_cons hlt;rw[hdrop] at p;unfold bN at p;refine .inr ⟨go,fun σ' H'=>∃ ρ2,SS Hf H0 H' σ' ρ2/\PostS Hf H0 Ex D (bN gt gb (items.drop (i+1)) ρ2),fun σ' H' ⟨ρ2,S2,q2⟩=>⟨items.length - (i+1),by omega,rfl,hlt,ρ2,S2,q2⟩,fun x H' y=>?_⟩;have S':=SR.yl S (yl x H' y)
  have t:items[i].tag≠.b:=by rw[(yl x H' y).1];decide
  refine ⟨Hf,ρ',items[i],[],S',t,n,?_⟩
  cases e:gt items[i] ρ' with
  |exc C=>rw[e] at p;exact p.elim
  |bad=>rw[e] at p;exact p.elim
  |ok ρ1=>
   rw[e] at p;intro σ1 S1 n1;refine ⟨Hf,ρ1,⟨S1,n1⟩,?_⟩;dsimp only at p
   cases e2:gb ρ1 with
   |nx ρ2=>rw[e2] at p;exact fun σ2 H2 S2=>⟨ρ2,S2,p⟩
   |ct ρ2=>rw[e2] at p;exact fun σ2 H2 S2=>⟨ρ2,S2,p⟩
   |bk ρ2=>rw[e2] at p;exact p
   |rt d=>rw[e2] at p;exact p
   |exc C=>rw[e2] at p;exact p
   |bad=>rw[e2] at p;exact p
 ·have e:i=items.length:=by omega
  subst e;rw[List.drop_length] at p;exact .inl ⟨h2 rfl,p σ H ⟨S,n⟩⟩
end
structure FTs (X:Cx) (H0:Hp) (ifs:List Expr) (ft:ad->Res Bool):Prop where
 go:∀ (pins:List (Addr × Obj)) (s:Shared) (σ:St) (H:Hp) (Q:Bool->Hp->Prop),Inv X pins σ H s->TTF H0 (fun _=>False) ft σ H Q →
 wpAny (model X.prog X.w) X.A (forIn ifs true fun c r=>if r=true then do let ok <- isTrue c X.env (eval c X.env);pure (ForInStep.yield ok) else pure (ForInStep.yield r)) (TP X pins σ Q) X.xe s
def aL:ad->Res Bool:=fun _=>.ok true
theorem bT{X:Cx}:FTs X H0 [] aL:=by
 refine ⟨?_⟩;intro pins s σ H Q I h;obtain ⟨Hs,ρ,ts,S,p⟩:=h;exact wpAny_tests_nil ⟨H,I,p H S⟩
theorem rm{X:Cx}{c:Expr}{ft:ad->Res Bool}(h:FT X H0 (fun _=>False) c ft):FTs X H0 [c] ft:=⟨fun pins s σ H Q I q=>wpAny_tests_one (h.go pins s σ H Q I q)⟩
def aV(gt:D->ad->Res ad)(ft:ad->Res Bool)(fe:ad->Res D):List D->ad->List D->Res (List D)
 | [],_,acc=>.ok acc
 |x::xs,ρ,acc=>gt x ρ >>= fun ρ1=>ft ρ1 >>= fun b=>if b=true then fe ρ1 >>= fun d=>if d.tag=.b\/sizeLine<=acc.length then .bad else aV gt ft fe xs ρ1 (acc++[d]) else aV gt ft fe xs ρ1 acc
def aZ(ρ:ad)(j:Nat):Option D:=match ρ[j]? with
 |some (some d)=>if d.tag=.f then some d else none
 |_=>none
def aF(own:Nat)(cap:List Nat)(fi:ad->Res (List D))(gt:D->ad->Res ad)(ft:ad->Res Bool)(fe:ad->Res D):ad->Res D:=fun ρ=>
 fi ρ >>= fun items=>match aV gt ft fe items (List.replicate own none++cap.map (aZ ρ)) [] with
  | .ok ds=>.ok (.lst .o ds)
  |_=>.bad
theorem gu{Hf H:Hp}{vs:List (Option V)}{ds:List (Option D)}{fp:List Addr}(O:Own Hf H fp vs ds):∀ (n:Nat) (cap:List Nat) (k:Nat),(∀ j∈cap,True) →
    Own Hf H [] (List.replicate n none++cap.map fun j=>(vs[k+j]?).join) (List.replicate n none++cap.map fun j=>aZ (ds.drop k) j)
 | 0,[],_,_=>.nil
 | 0,j::cap,k,h=>by
  have ih:=gu O 0 cap k fun _ _=>trivial;simp only[List.replicate_zero,List.nil_append,List.map_cons] at ih ⊢;unfold aZ;rw[List.getElem?_drop];split
  ·rename_i d hd
   split
   ·rename_i t
    obtain ⟨v,hv,r⟩:=O.getV hd;rw[hv]
    cases r with
    |fz r _=>exact Own.cons (fp:=[]) (.fz r t) ih
    |lst z _ _=>exact absurd t z
    |dic z _ _=>exact absurd t z
    |ins z _ _=>exact absurd t z
    |slf _ _=>cases t
   ·exact .skip ih
  ·exact .skip ih
 |n+1,cap,k,h=>by
  rw[List.replicate_succ,List.replicate_succ];exact .skip (gu O n cap k h)
section
variable {elt target iter:Expr}{ifs:List Expr}{scope:Scope}{pos:Pos}{gt:D->ad->Res ad}{ft:ad->Res Bool}{fe:ad->Res D}
theorem oi{Xc:Cx}(hc:Xc.calm=true)(hx:Xc.xe=fun _ _=>False)(iG:FG Xc Xc.H₀ target gt)(iT:FTs Xc Xc.H₀ ifs ft)(iE:FE Xc Xc.H₀ (fun _=>False) elt fe){J:It}{fpi:List Addr}{it:Addr}{tn:Nat->Heap->Prop}
    (T:Turn Xc.prog Xc.w Xc.K target J fpi it tn) (stat:∀ {H':Hp},(∀ b∈fpi,H' b=none)->∀ b∈fpi,er Xc [] H' b) {items:List D} {B:Hp} (ok:dZ J B items) {out:List D} {Da:Addr} {R:Result->Shared->Prop}
    {σ0:St} {H1:Hp} {s1:Shared} {ρ0:ad} (I0:Inv Xc [] σ0 H1 s1) (st:tn 0 s1.heap) (fr:∀ b∈fpi,H1 b=none) (S0:SR B Xc.H₀ H1 (some (.ref Da)::σ0) (some (.lst .o [])::ρ0)) (n0:noB ρ0) (ho:aV gt ft fe items ρ0 []=.ok out)
    (hR:∀ σ' H' s',Inv Xc [] σ' H' s'->SR B Xc.H₀ H' [some (.ref Da)] [some (.lst .o out)]->R (.ok .next) s') :
    codeAny (model Xc.prog Xc.w) Xc.A (.compLoop (.ListComp elt [⟨target,iter,ifs,0⟩] scope pos) 0 (.ref it) (.ref Da) Xc.env) R s1:=by
 refine og (fun n s'=>∃ i σ' H' ρ' acc,n=items.length - i/\i<=items.length/\Inv Xc [] σ' H' s'/\tn i s'.heap/\(∀ b∈fpi,H' b=none)/\SR B Xc.H₀ H' (some (.ref Da)::σ') (some (.lst .o acc)::ρ')/\noB ρ'/\aV gt ft fe (items.drop i) ρ' acc=.ok out)
  ?_ items.length ⟨0,σ0,H1,ρ0,[],by simp,Nat.zero_le _,I0,st,fr,S0,n0,by simpa using ho⟩
 rintro n s2 ⟨i,σ2,H2,ρ2,acc,rfl,hi,I2,st2,fr2,S2,n2,e2⟩;have sB:Same B H2:=let ⟨_,_,_,G⟩:=S2;G.sf.trans G.fh;obtain ⟨h1,h2⟩:=ok H2 sB i;by_cases hlt:i<items.length
 ·have hd:items[i]?=some items[i]:=by simp[hlt]
  obtain ⟨go,yl⟩:=h1 _ hd;have hdrop:items.drop i=items[i]::items.drop (i+1):=List.drop_eq_getElem_cons hlt;rw[hdrop] at e2;unfold aV at e2;refine thn (T.item Xc rfl rfl rfl hc i [] s2 σ2 H2 (fun _ _=>False) I2 (stat fr2) st2 go) fun r s3 ⟨u,hr,h3⟩=>?_;subst hr;refine thn h3 fun _ s4 ⟨x,H4,I4,r4,y4,st4,fr4⟩=>?_;have Y:=yl x H4 y4
  have S4:SX B Xc.H₀ H4 [(x,items[i]),(.ref Da,.lst .o acc)] σ2 ρ2:=SR.yl S2 Y;have t4:items[i].tag≠.b:=by rw[Y.1];decide
  have I4':=I4.pinned (stat fr4) (T.obj _ _ st4)
  cases eg:gt items[i] ρ2 with
  |exc C=>rw[eg] at e2;cases e2
  |bad=>rw[eg] at e2;cases e2
  |ok ρ3=>
   rw[eg] at e2;have e2:(ft ρ3 >>= fun b=>if b=true then fe ρ3 >>= fun d=>if d.tag=.b\/sizeLine<=acc.length then .bad else aV gt ft fe (items.drop (i+1)) ρ3 (acc++[d]) else aV gt ft fe (items.drop (i+1)) ρ3 acc)=.ok out:=e2
   have again:∀ {σ7:St} {H7:Hp} {s7:Shared} {ρ7:ad} {acc':List D},Inv Xc ([]++gl fpi s4.heap) σ7 H7 s7->SR B Xc.H₀ H7 (some (.ref Da)::σ7) (some (.lst .o acc')::ρ7)->noB ρ7->aV gt ft fe (items.drop (i+1)) ρ7 acc'=.ok out →
       ∃ m,m<items.length - i/\∃ i σ' H' ρ' acc,m=items.length - i/\i<=items.length/\Inv Xc [] σ' H' s7/\tn i s7.heap/\(∀ b∈fpi,H' b=none)/\SR B Xc.H₀ H' (some (.ref Da)::σ') (some (.lst .o acc)::ρ')/\noB ρ'/\aV gt ft fe (items.drop i) ρ' acc=.ok out:=fun {σ7 H7 s7 ρ7 acc'} I7 S7 n7 e7=>by
    refine ⟨items.length - (i+1),by omega,i+1,σ7,H7,ρ7,acc',rfl,hlt,I7.unpinned,T.keep _ _ _ st4 fun b hb o e=>(I7.pin (b,o) (List.mem_append_right _ (List.mem_append_right _ (d5 hb e)))).1,fun b hb=>?_,S7,n7,e7⟩;obtain ⟨o,e,d⟩:=T.obj _ _ st4 b hb;exact (I7.pin (b,o) (List.mem_append_right _ (List.mem_append_right _ (d5 hb e)))).2.1
   refine wpAny_mono (iG.go _ s4 σ2 H4 x u (fun σ' H'=>SX B Xc.H₀ H' [(.ref Da,.lst .o acc)] σ' ρ3/\noB ρ3) I4' r4 ⟨B,ρ2,items[i],[(.ref Da,.lst .o acc)],S4,t4,n2,by rw[eg];exact fun σ' S' n'=>⟨S',n'⟩⟩) (fun _ s5 ⟨σ5,H5,I5,S5,n5⟩=>?_) (fun _ _ z=>by rw[hx] at z;exact z)
   cases eb:ft ρ3 with
   |exc C=>rw[eb] at e2;cases e2
   |bad=>rw[eb] at e2;cases e2
   |ok b=>
    rw[eb] at e2;refine wpAny_mono (iT.go _ s5 σ5 H5 (fun b' H'=>b'=b/\SX B Xc.H₀ H' [(.ref Da,.lst .o acc)] σ5 ρ3) I5 ⟨B,ρ3,[(.ref Da,.lst .o acc)],S5,by rw[eb];exact fun H' S'=>⟨rfl,S'⟩⟩) (fun b' s6 ⟨H6,I6,hb,S6⟩=>?_) (fun _ _ z=>by rw[hx] at z;exact z);subst hb
    cases b' with
    |false=>
     have e2:aV gt ft fe (items.drop (i+1)) ρ3 acc=.ok out:=e2;rw[if_neg Bool.false_ne_true];exact again I6 S6 n5 e2
    |true=>
     have e2:(fe ρ3 >>= fun d=>if d.tag=.b\/sizeLine<=acc.length then .bad else aV gt ft fe (items.drop (i+1)) ρ3 (acc++[d]))=.ok out:=e2;rw[if_pos rfl]
     cases ed:fe ρ3 with
     |exc C=>rw[ed] at e2;cases e2
     |bad=>rw[ed] at e2;cases e2
     |ok d=>
      rw[ed] at e2;have e2:(if d.tag=.b\/sizeLine<=acc.length then .bad else aV gt ft fe (items.drop (i+1)) ρ3 (acc++[d]))=Res.ok out:=e2;split at e2
      ·cases e2
      ·rename_i hcd
       refine wpAny_mono (iE.go _ s6 σ5 H6 (fun v H'=>SX B Xc.H₀ H' [(v,d),(.ref Da,.lst .o acc)] σ5 ρ3) I6 ⟨B,ρ3,[(.ref Da,.lst .o acc)],S6,by rw[ed];exact fun v H' S'=>S'⟩) (fun uv s7 ⟨v,H7,I7,r7,S7⟩=>?_) (fun _ _ z=>by rw[hx] at z;exact z);have nn:noB (some (.lst .o acc)::ρ3):=fun d' m=>by
        rcases List.mem_cons.mp m with e | m
        ·cases e;exact fun z=>nomatch z
        ·exact n5 d' m
       obtain ⟨p,us,hp,hH,hl,S8⟩:=SR.append (vs:=some (.ref Da)::σ5) (ds:=some (.lst .o acc)::ρ3) S7 (fun z=>hcd (.inl z)) nn (i:=0) (xs:=acc) rfl;have hp:p=Da:=by simpa using hp.symm
       subst hp;refine wpAny_mono (gp (X:=Xc) _ s7 σ5 H7 (.ref p) [v] (.ref p) [uv] (fun _ H'=>H'=upd H7 p (.lst (us++[v]))) I7 rfl (.cons r7 .nil) ⟨p,us,v,rfl,rfl,hH,by rw[hl];omega,rfl⟩) (fun _ s8 ⟨_,H8,I8,_,e8⟩=>?_) (fun _ _ z=>by rw[hx] at z;exact z);subst e8;exact again I8 S8 n5 e2
 ·have e:i=items.length:=by omega
  subst e;rw[List.drop_length] at e2;have e2:Res.ok acc=.ok out:=e2
  cases e2
  refine thn (T.done Xc rfl rfl rfl hc _ [] s2 σ2 H2 (fun _ _=>False) I2 (stat fr2) st2 (h2 rfl)) fun r s3 ⟨hr,I3⟩=>?_;subst hr;exact hR σ2 H2 s3 I3 (SR.only (vs':=[]) (ds':=[]) S2)
end
section
variable {X:Cx}{Ex:Value->Prop}{H0:Hp}{elt target iter:Expr}{ifs:List Expr}{scope:Scope}{pos:Pos}{own:List Str}{cap:List (Str × Nat)}
theorem iY{pins:List (Addr × Obj)}{σ:St}{H Hf Hs:Hp}{s:Shared}{fp:List Addr}{ρ:ad}{ts:List (V × D)}{items:List D}{gt:D->ad->Res ad}{ft:ad->Res Bool}{fe:ad->Res D}{it:Addr}{fpi:List Addr}{tn:Nat->Heap->Prop}{J:It}
    (hc:X.calm=true) (CS:CompScope X scope own cap)
    (inner:∀ C cells s0 H0 ex pn,(own++cap.map (·.1)).Nodup->FG (cu X scope (own++cap.map (·.1)) C cells s0 H0 ex pn) H0 target gt/\FTs (cu X scope (own++cap.map (·.1)) C cells s0 H0 ex pn) H0 ifs ft/\FE (cu X scope (own++cap.map (·.1)) C cells s0 H0 ex pn) H0 (fun _=>False) elt fe)
    (I:Inv X pins σ H s) (T:Turn X.prog X.w X.K target J fpi it tn) (st:tn 0 s.heap) (hf:∀ b∈fpi,er X pins H b) (ok:dZ J Hf items)
    (O:Own Hf H fp (tvs ts++σ) (tds ts++ρ)) (F:Fine Hs H0 Hf H fp) {out:List D} (ho:aV gt ft fe items (List.replicate own.length none++cap.map fun p=>aZ ρ p.2) []=.ok out)
    {RR:Value->Addr->Result->Shared->Prop}
    (hRR:∀ D C s' H' m,s'.heap.Ns C m->s.heap.objs.size<=C->(∀ h'',Heap.SameBut C s'.heap h''->Inv X pins σ H' { s' with heap:=h'' }/\H' C=none)->SR Hf H H' [some (.ref D)] [some (.lst .o out)]->RR (.ref D) C (.ok .next) s') :
    wpAny (model X.prog X.w) X.A (newList []) (fun acc s₃=>wpAny (model X.prog X.w) X.A (newFunctionEnv scope X.env.globals (dD X.env.cells scope.names []) [] X.env.qual none .none (some X.env)) (fun cenv s₄=>
     codeAny (model X.prog X.w) X.A (.compStart (.ListComp elt [⟨target,iter,ifs,0⟩] scope pos) 0 (.ref it) acc { cenv with scope:=relabel scope X.env }) (RR acc cenv.locals) s₄) X.xe s₃) X.xe s:=by
 have hfr:H s.heap.objs.size=none:=I.hok.fresh (Nat.le_refl _);refine wpAny_newObj_type ?_ (by show ([]:List Value).toArray.size<=sizeLine;simp);have I3:Inv X pins σ (upd H s.heap.objs.size (.lst [])) { s with heap:=s.heap.push { cls:=.type "list", dict:=none,data:=.seq ([]:List Value).toArray } }:=
  I.laid (t':=s.toks) (fun b u e=>Heap.get?_push_of_some _ e) (Nat.le_refl _) ⟨Nat.zero_le _,[],0,.nil,Heap.get?_push_size _ rfl⟩
 have kp3:∀ b o,s.heap.get? b=some o->(s.heap.push { cls:=.type "list", dict:=none,data:=.seq ([]:List Value).toArray }).get? b=some o:=fun b o e=>Heap.get?_push_of_some _ e;have hsz3:(s.heap.push { cls:=.type "list", dict:=none,data:=.seq ([]:List Value).toArray }).objs.size=s.heap.objs.size+1:=Heap.size_push ..
 generalize s.heap.push { cls:=.type "list", dict:=none,data:=.seq ([]:List Value).toArray }=h3 at I3 kp3 hsz3 ⊢;have hle:s.heap.objs.size<=h3.objs.size:=by rw[hsz3];exact Nat.le_succ _
 refine lT (s:={ s with heap:=h3 }) fun h' ns kp cl ap=>?_;have he:∀ b∈fpi,∃ o,s.heap.get? b=some o:=fun b hb=>let ⟨o,e,_⟩:=T.obj 0 _ st b hb;⟨o,e⟩;have u3:Un (frs X.stack) fpi H (upd H s.heap.objs.size (.lst [])) s.heap h3:=Un.laid kp3 (Nat.le_refl _) hfr;have IC:=pS I I3 kp3 CS u3 hf he ns kp cl ap (by omega)
 obtain ⟨iG,iT,iE⟩:=inner h3.objs.size (cY X scope h3.objs.size) s H fpi (X.pn++pins) CS.ndN;have fpC:∀ {H':Hp},(∀ b∈fpi,H' b=none)->∀ b∈fpi,er (cu X scope (own++cap.map (·.1)) h3.objs.size (cY X scope h3.objs.size) s H fpi (X.pn++pins)) [] H' b:=fun {H'} hn b hb=>by
  obtain ⟨o,e⟩:=he b hb;refine ⟨hn b hb,?_,?_,.inl hb,fun x c hx z=>?_,fun p hp z=>?_⟩
  ·exact Nat.ne_of_lt (Nat.lt_of_lt_of_le (Heap.lt_size e) hle)
  ·show b∉frs X.stack
   intro m;rcases List.mem_cons.mp (I.stkSub b m) with z | z
   ·exact (hf b hb).2.1 z
   ·exact (hf b hb).2.2.1 z
  ·have hx:(cY X scope h3.objs.size).lookup x=some c:=hx
   subst z;rcases bx I CS hx with ⟨m1,k1⟩ | ⟨k1,c1⟩
   ·exact absurd (Nat.lt_of_lt_of_le (Heap.lt_size e) hle) (Nat.not_lt.mpr (Nat.le_of_succ_le (cl x c m1).2))
   ·exact (hf c hb).2.2.2.2.1 x c c1 rfl
  ·have hp:p∈(X.pn++pins)++[]:=hp
   rw[List.append_nil] at hp;exact (hf b hb).2.2.2.2.2 p hp z
 have st':tn 0 h':=T.keep _ _ _ (T.keep _ _ _ st fun b _ o e=>kp3 b o e) fun b _ o e=>kp b o e;have fr':∀ b∈fpi,upd H s.heap.objs.size (.lst []) b=none:=fun b hb=>by
  obtain ⟨o,e⟩:=he b hb;rw[aH (Nat.ne_of_lt (Heap.lt_size e))];exact (hf b hb).1
 have O0:=gu O own.length (cap.map (·.2)) (tds ts).length fun _ _=>trivial;have F0:Fine Hf H Hf H []:=⟨List.nodup_nil,fun _ m=>by simp at m,F.fh,Same.refl _,Same.refl _,fun a o e=>.inl ⟨o,e⟩⟩
 have S0:SR Hf H (upd H s.heap.objs.size (.lst [])) (some (.ref s.heap.objs.size)::(List.replicate own.length none++cap.map fun p=>(σ[p.2]?).join)) (some (.lst .o [])::(List.replicate own.length none++cap.map fun p=>aZ ρ p.2)):=by
  refine SR.laidL (us:=[]) (es:=[]) ?_ F0 .nil (fun _ m=>by simp at m) hfr;rw[List.map_map,List.map_map] at O0;have e1:(fun j=>((tvs ts++σ)[(tds ts).length+j]?).join) ∘ (fun (p:Str × Nat)=>p.2)=fun p=>(σ[p.2]?).join:=by
   funext p;show ((tvs ts++σ)[(tds ts).length+p.2]?).join=_;rw[gT,<- gS ts,iA]
  have e2:(fun j=>aZ ((tds ts++ρ).drop (tds ts).length) j) ∘ (fun (p:Str × Nat)=>p.2)=fun p=>aZ ρ p.2:=by
   funext p;show aZ ((tds ts++ρ).drop (tds ts).length) p.2=_;rw[List.drop_left]
  rw[e1,e2] at O0;exact O0
 have n0:noB (List.replicate own.length none++cap.map fun p=>aZ ρ p.2):=fun d m=>by
  rcases List.mem_append.mp m with m | m
  ·rw[List.mem_replicate] at m;cases m.2
  ·obtain ⟨p,_,e⟩:=List.mem_map.mp m
   unfold aZ at e;split at e
   ·split at e
    ·rename_i t;cases e;rw[t];decide
    ·cases e
   ·cases e
 have loop:=oi (Xc:=cu X scope (own++cap.map (·.1)) h3.objs.size (cY X scope h3.objs.size) s H fpi (X.pn++pins)) (elt:=elt) (target:=target) (iter:=iter) (ifs:=ifs) (scope:=scope) (pos:=pos) hc rfl iG iT iE T fpC ok IC st' fr' S0 n0 ho
  (R:=RR (.ref s.heap.objs.size) h3.objs.size) (fun σ' H' s' I' S'=>?_)
 ·exact codeAny_compStart_list loop (T.self X.A 0 _ _ _ st' loop)
 ·obtain ⟨m,hn,_⟩:=I'.loc
  have hC:H' h3.objs.size=none:=I'.free;refine hRR _ _ s' H' m hn hle (fun h'' sb=>⟨?_,hC⟩) S';have un:Un (frs X.stack) fpi H H' s.heap s'.heap:=I'.base;have hos:s'.os=s.os:=I'.os;have un2:Un (frs X.stack) fpi H H' s.heap h'':=by
   have hne:∀ b o,s.heap.get? b=some o->b≠h3.objs.size:=fun b o e=>Nat.ne_of_lt (Nat.lt_of_lt_of_le (Heap.lt_size e) hle);refine ⟨fun b o e n hb hx=>(sb.2 b (hne b o e)).trans (un.keep b o e n hb hx),fun b o e n hb hx=>?_,un.free,fun b o e hx=>?_,un.tups,un.frzs,un.tbls⟩
   ·obtain ⟨sl,q⟩:=un.slot b o e n hb hx
    exact ⟨sl,(sb.2 b (hne b o e)).trans q⟩
   ·obtain ⟨o',q⟩:=un.there b o e hx
    exact ⟨o',(sb.2 b (hne b o e)).trans q⟩
  have hok:HOk X.prog X.w H' h'':=fun b u e=>by
   refine (I'.hok b u e).stay (fun c v hc q=>(sb.2 c ?_).trans q) (fun _ q=>q) fun _ _ q=>q;rintro rfl;rcases hc with rfl | hc
   ·rw[hC] at e;cases e
   ·rw[hC] at hc;cases hc
  exact I.call' (s':={ s' with heap:=h'' }) (ch:=fpi) hos un2 hok I'.bare fun b hb=>⟨(hf b hb).2.2.2.1,(hf b hb).2.1,(hf b hb).2.2.2.2.1,(hf b hb).2.2.2.2.2⟩
theorem cw{fi:ad->Res (List D)}{gt:D->ad->Res ad}{ft:ad->Res Bool}{fe:ad->Res D}(hc:X.calm=true)(CS:CompScope X scope own cap)(hi:FI X H0 Ex target iter fi)
    (inner:∀ C cells s0 H0 ex pn,(own++cap.map (·.1)).Nodup->FG (cu X scope (own++cap.map (·.1)) C cells s0 H0 ex pn) H0 target gt/\FTs (cu X scope (own++cap.map (·.1)) C cells s0 H0 ex pn) H0 ifs ft/\FE (cu X scope (own++cap.map (·.1)) C cells s0 H0 ex pn) H0 (fun _=>False) elt fe)
    (hs:∀ x,foldedSetIterable iter X.env x=pure x:=by intro _;rfl):FE X H0 Ex (.ListComp elt [⟨target,iter,ifs,0⟩] scope pos) (aF own.length (cap.map (·.2)) fi gt ft fe):=by
 refine ⟨?_⟩;intro pins s σ H Q I h;obtain ⟨Hs,ρ,ts,S,p⟩:=h;rw[eval_ListComp];refine wpAny_comprehension_free (use:=none) rfl hs (eP fun x hx hk=>I.ok.has x.1 (CS.free x hx hk)) CS.kind (fun x hx hl=>by rw[<- hl];exact cH CS.nd hx) ?_
 refine thn (hi.go pins s σ H (fun J H'=>∃ Hf fp items,dZ J Hf items/\Own Hf H' fp (tvs ts++σ) (tds ts++ρ)/\Fine Hs H0 Hf H' fp/\∃ out,aV gt ft fe items (List.replicate own.length none++cap.map fun p=>aZ ρ p.2) []=.ok out/\∀ v H',SX Hs H0 H' ((v,.lst .o out)::ts) σ ρ->Q v H') I ⟨Hs,ρ,ts,S,?_⟩) fun xv s1 h1=>thn h1 fun itv s2 h2=>?_
 ·unfold aF at p
  refine (Post.bind p).imp fun items _ p1 J H' Hf fp ok O F=>?_;rw[List.map_map] at p1
  cases e:aV gt ft fe items (List.replicate own.length none++cap.map fun p=>aZ ρ p.2) [] with
  |ok out=>
   have e':aV gt ft fe items (List.replicate own.length none++cap.map (aZ ρ ∘ fun p=>p.2)) []=.ok out:=e;rw[e'] at p1;exact ⟨Hf,fp,items,ok,O,F,out,e,p1⟩
  |exc C=>
   have e':aV gt ft fe items (List.replicate own.length none++cap.map (aZ ρ ∘ fun p=>p.2)) []=.exc C:=e;rw[e'] at p1;exact p1.elim
  |bad=>
   have e':aV gt ft fe items (List.replicate own.length none++cap.map (aZ ρ ∘ fun p=>p.2)) []=.bad:=e;rw[e'] at p1;exact p1.elim
 ·obtain ⟨it,fpi,tn,J,H2,rfl,I2,T,st,hf,Hf,fp,items,ok,O,F,out,ho,k⟩:=h2
  refine iY (RR:=fun acc C=>compPost (model X.prog X.w) X.A X.xe none (EP X pins σ Q) acc C) hc CS inner I2 T st hf ok O F ho ?_;intro Da C s' H' m hn hC hI S';refine ⟨m,hn,fun h'' sb=>?_⟩;exact ⟨.ref Da,H',(hI h'' sb).1,rfl,k _ H' (SR.told O F S' (fun z=>nomatch z))⟩
end
section
variable {X:Cx}{Ex:Value->Prop}{H0:Hp}{elt target iter:Expr}{ifs:List Expr}{scope:Scope}{pos:Pos}{own:List Str}{cap:List (Str × Nat)}
theorem fS{i:Nat}{x:Str}{px pc:Pos}{fi:ad->Res (List D)}{gt:D->ad->Res ad}{ft:ad->Res Bool}{fe:ad->Res D}(hN:X.N.Nodup)(hi':X.N[i]?=some x)(hx:Loc X.env.scope x)(hc:X.calm=true)(CS:CompScope X scope own cap)(hi:FI X H0 Ex target iter fi)
    (inner:∀ C cells s0 H0 ex pn,(own++cap.map (·.1)).Nodup->FG (cu X scope (own++cap.map (·.1)) C cells s0 H0 ex pn) H0 target gt/\FTs (cu X scope (own++cap.map (·.1)) C cells s0 H0 ex pn) H0 ifs ft/\FE (cu X scope (own++cap.map (·.1)) C cells s0 H0 ex pn) H0 (fun _=>False) elt fe)
    (hsw:swapsWith (.ListComp elt [⟨target,iter,ifs,0⟩] scope pc) (some (.Name x px)) pos.line X.env=pure true:=by rfl)
    (hf:X.fn x=true\/X.env.scope.names.lookup x=some .local:=by first | exact .inl rfl | exact .inr rfl | assumption)
    (hs:∀ x,foldedSetIterable iter X.env x=pure x:=by intro _;rfl):FS X H0 Ex (.Assign [.Name x px] (.ListComp elt [⟨target,iter,ifs,0⟩] scope pc) pos) (ay i (aF own.length (cap.map (·.2)) fi gt ft fe)):=by
 refine ⟨?_⟩;intro pins s σ H En I h;obtain ⟨Hs,ρ,⟨S,n⟩,p⟩:=h;rw[exec_Assign_Name_used _ _ _ _ hsw];refine wpAny_bind (wpAny_standAt (wpAny_bind ?_));show wpAny _ X.A (do let _ <- comprehension (.ListComp elt [⟨target,iter,ifs,0⟩] scope pc) scope X.env _ (newList []) false (eval iter X.env) (some (assign (.Name x px) X.env))) _ _ s
 refine wpAny_bind (wpAny_mono (wpAny_comprehension_free (use:=some (assign (.Name x px) X.env)) (Q:=fun _ s'=>SP X pins En .next s') rfl hs (eP fun x hx hk=>I.ok.has x.1 (CS.free x hx hk)) CS.kind (fun x hx hl=>by rw[<- hl];exact cH CS.nd hx) ?_) (fun _ s' hq=>wpAny_pure (wpAny_pure hq)) fun _ _ e=>e);have p:=PostS.aft p
 refine thn (hi.go pins s σ H (fun J H'=>∃ Hf fp items,dZ J Hf items/\Own Hf H' fp σ ρ/\Fine Hs H0 Hf H' fp/\i<ρ.length/\∃ out,aV gt ft fe items (List.replicate own.length none++cap.map fun p=>aZ ρ p.2) []=.ok out/\∀ σ' H',SS Hs H0 H' σ' (ρ.set i (some (.lst .o out)))->En.nx σ' H') I ⟨Hs,ρ,[],S,?_⟩) fun xv s1 h1=>thn h1 fun itv s2 h2=>?_
 ·unfold aF at p
  refine (Post.bind p).imp fun items _ p1 J H' Hf fp ok O F=>?_;rw[List.map_map] at p1
  cases e:aV gt ft fe items (List.replicate own.length none++cap.map fun p=>aZ ρ p.2) [] with
  |ok out=>
   have e':aV gt ft fe items (List.replicate own.length none++cap.map (aZ ρ ∘ fun p=>p.2)) []=.ok out:=e;rw[e'] at p1;have p1:PostS Hs H0 Ex En (if (D.lst .o out).tag=.b\/ρ.length<=i then .bad else .nx (ρ.set i (some (.lst .o out)))):=p1;split at p1
   ·exact p1.elim
   ·rename_i hcc
    refine ⟨Hf,fp,items,ok,O,F,?_,out,e,p1⟩;by_cases hl:ρ.length<=i
    ·exact absurd (.inr hl) hcc
    ·omega
  |exc C=>
   have e':aV gt ft fe items (List.replicate own.length none++cap.map (aZ ρ ∘ fun p=>p.2)) []=.exc C:=e;rw[e'] at p1;exact p1.elim
  |bad=>
   have e':aV gt ft fe items (List.replicate own.length none++cap.map (aZ ρ ∘ fun p=>p.2)) []=.bad:=e;rw[e'] at p1;exact p1.elim
 ·obtain ⟨it,fpi,tn,J,H2,rfl,I2,T,st,hf2,Hf,fp,items,ok,O,F,hil,out,ho,k⟩:=h2
  refine iY (ts:=[]) (RR:=fun acc C=>compPost (model X.prog X.w) X.A X.xe (some (assign (.Name x px) X.env)) (fun _ s'=>SP X pins En .next s') acc C) hc CS inner I2 T st hf2 ok O F ho ?_;intro Da C s' H' m hn hC hI S';have I':Inv X pins σ H' s':=(hI s'.heap (Heap.SameBut.refl ..)).1;have hHC:H' C=none:=(hI s'.heap (Heap.SameBut.refl ..)).2
  have S'':SX Hs H0 H' [(.ref Da,.lst .o out)] σ ρ:=SR.told O F S' (fun z=>nomatch z);have hCL:C≠X.env.locals:=Nat.ne_of_gt (Nat.lt_of_lt_of_le I2.lt hC);have hCc:∀ y c,X.env.cells.lookup y=some c->c≠C:=fun y c e=>by
   obtain ⟨v,q⟩:=I2.cell y c e;exact Nat.ne_of_lt (Nat.lt_of_lt_of_le q.lt hC)
  show wpAny (model X.prog X.w) X.A (assign (.Name x px) X.env (.ref Da)) _ X.xe s';refine wpAny_assign_Name (jR (v:=.ref Da) I' hN hi' hx rfl (fun s3 I3 ⟨a,sb,ha⟩=>?_) hf);have hCa:C≠a:=by
   rcases ha with ha | ha
   ·rw[ha];exact hCL
   ·exact (hCc x a ha).symm
  refine ⟨m,hn.sameBut sb hCa,fun h'' sb2=>?_⟩;refine ⟨_,H',I3.turned (t':=s3.toks) (it:=C) (fun b o hb e=>(sb2.2 b hb).trans e) hHC hCL (.inr (Nat.le_trans I2.sz hC)) hCc (fun p hp=>?_),k _ H' (SR.set0 S'' (fun z=>nomatch z) n hil)⟩;exact Nat.ne_of_lt (Nat.lt_of_lt_of_le (Heap.lt_size (I2.pin p hp).1) hC)
theorem pT{st:Stmt}{g:ad->FOut}(i:Nat)(h:FS X H0 Ex st g):FS X H0 Ex st (fun ρ=>match g ρ with | .nx ρ'=>.nx (frzAt i ρ') | r=>r):=by
 refine ⟨PS.pre h.go ?_⟩;rintro En σ H ⟨Hs,ρ,S,p⟩;refine ⟨Hs,ρ,S,?_⟩;dsimp only at p
 cases e:g ρ with
 |nx ρ'=>rw[e] at p;exact fun σ' H' S'=>p σ' H' (S'.1.frzAt S'.2 i)
 |rt d=>rw[e] at p;exact p
 |bk ρ'=>rw[e] at p;exact p
 |ct ρ'=>rw[e] at p;exact p
 |exc C=>rw[e] at p;exact p
 |bad=>rw[e] at p;exact p
theorem jy{st:Stmt}{f:ad->Res D}{i:Nat}(h:FS X H0 Ex st (ay i f)):FS X H0 Ex st (ay i (fFz f)):=by
 have h1:=pT i h;have:(fun ρ=>match ay i f ρ with | .nx ρ'=>.nx (frzAt i ρ') | r=>r)=ay i (fFz f):=by
  funext ρ;unfold ay fFz
  cases f ρ with
  |bad=>rfl
  |exc C=>rfl
  |ok d=>
   show (match (if d.tag=.b\/ρ.length<=i then FOut.bad else .nx (ρ.set i (some d))) with | .nx ρ'=>.nx (frzAt i ρ') | r=>r)=aft (if d.tag=.b then .bad else .ok d.fz) _;by_cases hb:d.tag=.b
   ·rw[if_pos (.inl hb),if_pos hb];rfl
   ·rw[if_neg hb]
    show _=(if d.fz.tag=.b\/ρ.length<=i then FOut.bad else .nx (ρ.set i (some d.fz)));by_cases hl:ρ.length<=i
    ·rw[if_pos (.inr hl),if_pos (.inr hl)]
    ·rw[if_neg (fun z=>z.elim hb hl),if_neg (fun z=>z.elim (by rw[d.fz_tag];decide) hl)]
     show FOut.nx (frzAt i (ρ.set i (some d)))=_;unfold frzAt;rw[List.getElem?_set_self (by omega)];show FOut.nx ((List.set ρ i (some d)).set i (some d.fz))=_;rw[List.set_set]
 rw[this] at h1;exact h1
end
def spF(n:Nat)(F:List D->Res D):Sp:=fun vs H Q E=>∃ Hs ds,ds.length=n/\Same Hs H/\Reps Hs vs ds/\(∀ d∈ds,d.tag=.f)/\match F ds with
 | .ok d=>∀ v H',SR Hs H H' [some v] [some d]->Q v H'
 | .exc C=>∀ H',Same H H'->E C none H'
 | .bad=>False
def c0(F:List D->Res D)(es:List D):Res D:=match F (D.fzs es) with
 | .ok d=>if (nb es=true/\d.tag≠.b)\/d.atom=true then .ok d else .bad
 |r=>r
theorem SR.allRep{Hs H0 H:Hp}{vs:List (Option V)}{ds:List (Option D)}:∀ {us:List V} {es:List D},us.length=es.length->SR Hs H0 H (hv us++vs) (hd es++ds)->Reps H us es:=by
 intro us;induction us using List.reverseRecOn' with
 |nil=>intro es hl S;cases es with | nil=>exact .nil | cons a b=>simp at hl
 |snoc us u ih=>
  intro es hl S
  cases es using List.reverseRecOn' with
  |nil=>simp at hl
  |snoc es e=>
   rw[gQ,gR] at S;exact (ih (by simpa using hl) S.drop).append (.cons S.head .nil)
theorem kX{H H':Hp}{v:V}{d:D}(h:Rep H v d)(a:d.atom=true):Rep H' v d:=by
 cases h<;>first | exact .non | exact .bl | exact .int | exact .str | cases a
theorem kY{d:D}(a:d.atom=true):d.tag=.f:=by cases d<;>first | rfl | cases a
theorem eh(es:List D):(D.fzs es).length=es.length:=by rw[D.fzs_map,List.length_map]
section
variable {X:Cx}{Ex:Value->Prop}{H0:Hp}{CX:CXT}{k n:Nat}{f:Addr}{fd:FuncData}{ps:List Str}{F:List D->Res D}{x:Str}{p pos:Pos}{e:Expr}{es:List Expr}
abbrev Exk(H0:Hp)(Ex:Value->Prop):XK:=fun C _ H'=>Ex C/\Same H0 H'
theorem kZ{us:List V}{ds:List D}{Hs H1:Hp}{ts:List (V × D)}{σ:St}{ρ:ad}{Q:VK}(hn:ds.length=n)(hl:us.length=ds.length)(S1:SX Hs H0 H1 (held us ds ts) σ ρ)(p1:Post Ex (c0 F ds) fun d=>∀ v H',SX Hs H0 H' ((v,d)::ts) σ ρ->Q v H') :
    spF n F us H1 Q (Exk H0 Ex):=by
 have S2:=SX.held hl S1;unfold c0 at p1
 cases eF:F (D.fzs ds) with
 |bad=>rw[eF] at p1;exact p1.elim
 |exc C=>
  rw[eF] at p1;exact ⟨H1,D.fzs ds,by rw[eh];exact hn,Same.refl _,(SR.allRep hl S2).fz,dz ds,by rw[eF];exact fun H' s=>⟨p1,S2.same.trans s⟩⟩
 |ok d=>
  rw[eF] at p1;have p1:Post Ex (if (nb ds=true/\d.tag≠.b)\/d.atom=true then Res.ok d else .bad) fun d=>∀ v H',SX Hs H0 H' ((v,d)::ts) σ ρ->Q v H':=p1;split at p1
  ·rename_i hc
   by_cases hb:nb ds=true/\d.tag≠.b
   ·obtain ⟨Hf,fp,O,G,R⟩:=S2.frozen hl (iW hb.1)
    exact ⟨Hf,D.fzs ds,by rw[eh];exact hn,G.fh,R,dz ds,by rw[eF];exact fun v H' S'=>p1 v H' (SR.told O G S' hb.2)⟩
   ·have ha:d.atom=true:=hc.resolve_left hb
    refine ⟨H1,D.fzs ds,by rw[eh];exact hn,Same.refl _,(SR.allRep hl S2).fz,dz ds,?_⟩;rw[eF];intro v H' S';have S3:SX Hs H0 H1 ts σ ρ:=by
     have:∀ (us:List V) (ds:List D),us.length=ds.length->SR Hs H0 H1 (hv us++(tvs ts++σ)) (hd ds++(tds ts++ρ))->SR Hs H0 H1 (tvs ts++σ) (tds ts++ρ):=by
      intro us;induction us using List.reverseRecOn' with
      |nil=>intro es hl S;cases es with | nil=>exact S | cons a b=>simp at hl
      |snoc us u ih=>
       intro es hl S
       cases es using List.reverseRecOn' with
       |nil=>simp at hl
       |snoc es e=>rw[gQ,gR] at S;exact ih es (by simpa using hl) S.drop
     exact this us ds hl S2
    exact p1 v H' ((SR.grow S3 S'.same).atom (fun H=>kX S'.head ha) (kY ha))
  ·exact p1.elim
theorem rn{fa:ad->Res (List D)}(G:FnOk X.prog X.w X.K X.mg X.base CX k f fd ps (spF n F))(hr:Room k X.A)(hg:Gl X x)(hm:X.mg x=some (.ref f))(hk:PySem.W.keepIn X.K (.ref f)=true)(hb:Binds X.K fd ps [])(hx:dS CX X (Exk H0 Ex))
    (ha:FA X H0 Ex (e::es) fa) (hn:(e::es).length=n) (hdb:(x == ("__debug__" : Str))=false:=by decide) (he:starEach (e::es) X.env=(false,eval e X.env)::starEach es X.env:=by rfl) (hpl:(backTo pos (starEach es X.env)).any (·.1)=false:=by rfl) :
    FE X H0 Ex (.Call (.Name x p) (e::es) [] pos) (fun ρ=>fa ρ >>= fun ds=>if ds.length=n then c0 F ds else .bad):=by
 refine ⟨PE.pre (ju (dvs:=[]) (E:=Exk H0 Ex) G hr hg hm hk hb .nil hx ha.go hdb he hpl) ?_⟩;rintro σ H Q ⟨Hs,ρ,ts,S,p⟩;refine ⟨Hs,ρ,ts,S,(Post.bind p).imp fun ds _ p1 us H1 hl S1=>?_⟩;split at p1
 ·rename_i hds
  rw[List.append_nil];exact kZ hds hl S1 p1
 ·exact p1.elim
def a8(N:Nat)(g:ad->FOut)(ds:List D):Res D:=match g (ds.map some++List.replicate (N - ds.length) none) with
 | .rt d=>.ok d
 | .nx _=>.ok .non
 | .exc C=>.exc C
 |_=>.bad
theorem d7{Hs H:Hp}:∀ {vs:List V} {ds:List D} (k:Nat),Reps Hs vs ds->(∀ d∈ds,d.tag=.f)->Own Hs H [] (vs.map some++List.replicate k none) (ds.map some++List.replicate k none)
 |_,_,0,.nil,_=>.nil
 |_,_,k+1,.nil,h=>.skip (d7 k .nil h)
 |_,_,k,.cons r q,h=>Own.cons (fp:=[]) (.fz r (h _ List.mem_cons_self)) (d7 k q fun d m=>h d (List.mem_cons_of_mem _ m))
theorem Fun.okX{P:Program}{w:World}{K:PySem.W.Frag}{mg:Str->Option Value}{base:Heap}{x qual:Str}{st:Stmt}{f:Addr}{fd:FuncData}{N ps:List Str}{k:Nat}{sp:Sp}(F:Fun K x qual st f fd)(S:FnScope N ps (ar st))(len:∀ vs H Q E,sp vs H Q E->vs.length=ps.length)
    (hbody:∀ (cdv:Value) (A:Around) (outer:List Env) (s:Shared) (H:Hp) (vs:List V) (Q:VK) (E:XK),Room k (A.deeper (envOfC qual (ar st) s.heap.objs.size f cdv))->sp vs H Q E →
     ∃ t,PSs (fP CX P w K mg base N qual (ar st) f cdv A outer s H E) (bw st) t/\t { nx:=fun _ H'=>Q .non H',rt:=Q } (dM N vs) H):FnOk P w K mg base CX (k+1) f fd ps sp:=by
 obtain ⟨oc,od,kV,doc,pm,an,cdv,ct,osl,rfl,lk,hcd⟩:=F.ex;exact va lk hcd S len fun A outer s H vs Q E hr hsp=>hbody cdv A outer s H vs Q E hr hsp
theorem md{P:Program}{w:World}{K:PySem.W.Frag}{mg:Str->Option Value}{base:Heap}{x qual:Str}{st:Stmt}{f:Addr}{fd:FuncData}{N ps:List Str}{k:Nat}{F:List D->Res D}(U:Fun K x qual st f fd)(S:FnScope N ps (ar st))
    (hbody:∀ (cdv:Value) (A:Around) (outer:List Env) (s:Shared) (H:Hp) (E:XK) (ds:List D),Room k (A.deeper (envOfC qual (ar st) s.heap.objs.size f cdv))->ds.length=ps.length->(∀ C,F ds=.exc C->∀ H',Same H H'->E C none H') →
     ∃ g,FSs (fP CX P w K mg base N qual (ar st) f cdv A outer s H E) H (fun C=>F ds=.exc C) (bw st) g/\F ds=a8 N.length g ds) :
    FnOk P w K mg base CX (k+1) f fd ps (spF ps.length F):=by
 refine Fun.okX U S (fun vs H Q E h=>?_) (fun cdv A outer s H vs Q E hr h=>?_)
 ·obtain ⟨Hs,ds,hl,_,R,_⟩:=h
  rw[R.length];exact hl
 ·obtain ⟨Hs,ds,hl,sH,R,ht,p⟩:=h
  obtain ⟨g,hg,eF⟩:=hbody cdv A outer s H E ds hr hl (fun C eC H' sh=>by rw[eC] at p;exact p H' sh);refine ⟨_,hg.go,Hs,ds.map some++List.replicate (N.length - ds.length) none,⟨⟨Hs,[],?_,List.nodup_nil,fun _ m=>by simp at m,sH,Same.refl _,Same.refl _,fun a o e=>.inl ⟨o,e⟩⟩,?_⟩,?_⟩
  ·have:=d7 (Hs:=Hs) (H:=H) (N.length - ds.length) R ht
   unfold L2.dM;rw[R.length];exact this
  ·intro d m
   rcases List.mem_append.mp m with m | m
   ·obtain ⟨d',m',e⟩:=List.mem_map.mp m
    cases e
    rw[ht d m'];decide
   ·rw[List.mem_replicate] at m;cases m.2
  ·unfold a8 at eF
   cases eg:g (ds.map some++List.replicate (N.length - ds.length) none) with
   |rt d=>
    rw[eg] at eF;have eF:F ds=.ok d:=eF;rw[eF] at p;exact fun v H' S'=>p v H' S'
   |nx ρ'=>
    rw[eg] at eF;have eF:F ds=.ok .non:=eF;rw[eF] at p;refine fun σ' H' S'=>p .non H' ?_;exact SR.only (vs':=[]) (ds':=[]) S'.1.non
   |exc C=>rw[eg] at eF;exact eF
   |bk ρ'=>rw[eg] at eF;have eF:F ds=.bad:=eF;rw[eF] at p;exact p.elim
   |ct ρ'=>rw[eg] at eF;have eF:F ds=.bad:=eF;rw[eF] at p;exact p.elim
   |bad=>rw[eg] at eF;have eF:F ds=.bad:=eF;rw[eF] at p;exact p.elim
end
section
variable {X:Cx}{Ex:Value->Prop}{H0:Hp}{a b c e:Expr}{rest:List Expr}{f fa fb fc:ad->Res D}{ta tb:ad->Res Bool}{pos:Pos}
def asB:D->Res Bool
 | .bl b=>.ok b
 |_=>.bad
def ftB(f:ad->Res D):ad->Res Bool:=fun ρ=>f ρ >>= asB
theorem k6{d:D}{k:Bool->Prop}(p:Post Ex (asB d) k):∃ b,d=.bl b/\k b:=by
 cases d with
 |bl b=>exact ⟨b,rfl,p⟩
 |_=>exact p.elim
theorem k7(h:FE X H0 Ex e f)(he:∀ whole,isTrue e X.env whole=(do let v <- whole;standAt e.pos;holding [v] (truthy v)):=by intro _;rfl):FT X H0 Ex e (ftB f):=by
 refine ⟨PT.pre (sF h.go he) ?_⟩;rintro σ H Q ⟨Hs,ρ,ts,S,p⟩;refine ⟨Hs,ρ,ts,S,(Post.bind p).imp fun d _ p1 v H1 S1=>?_⟩;obtain ⟨b,rfl,k⟩:=k6 p1;exact ⟨b,SR.isBl S1,k H1 S1.drop⟩
def ft2(g:D->D->Res D)(fa fb:ad->Res D):ad->Res Bool:=fun ρ=>f2 g fa fb ρ >>= asB
theorem bh{op:CmpOp}{g:D->D->Res D}(ho:FOp X (compareOp op) g)(hg:∀ x y,noX (g x y)=true)(ha:FE X H0 Ex a fa)(hb:FE X H0 Ex b fb)(hm:behindInMarks op b=false):FT X H0 Ex (.Compare a [op] [b] pos) (ft2 g fa fb):=by
 refine ⟨PT.pre (qU ho.go ha.go hb.go hm) ?_⟩;rintro σ H Q ⟨Hs,ρ,ts,S,p⟩;refine kC hg (op:=compareOp op) ⟨Hs,ρ,ts,S,(Post.bind p).imp fun d _ p1 v H1 S1=>?_⟩;obtain ⟨b,rfl,k⟩:=k6 p1;exact ⟨b,SR.isBl S1,k H1 S1.drop⟩
def b7(t:ad->Res Bool):ad->Res Bool:=fun ρ=>t ρ >>= fun b=>.ok (!b)
theorem eA(h:FT X H0 Ex a ta):FT X H0 Ex (.UnaryOp .Not a pos) (b7 ta):=by
 refine ⟨PT.pre (sJ h.go) ?_⟩;rintro σ H Q ⟨Hs,ρ,ts,S,p⟩;exact ⟨Hs,ρ,ts,S,(Post.bind p).imp fun b _ p1 H1 S1=>p1 H1 S1⟩
structure FW (X:Cx) (H0:Hp) (Ex:Value->Prop) (e:Expr) (f:ad->Res Bool):Prop where
 go:PW X e (TTF H0 Ex f)
theorem PW.pre{t t':TT}(h:PW X e t)(i:∀ σ H Q,t' σ H Q->t σ H Q):PW X e t':=fun wh pins s σ H Q I q=>h wh pins s σ H Q I (i σ H Q q)
theorem FW.ft(h:FW X H0 Ex e ta):FT X H0 Ex e ta:=⟨PW.pt h.go⟩
theorem fw(h:FT X H0 Ex a ta):FW X H0 Ex (.BoolOp .And [a] pos) ta:=⟨qO h.go⟩
theorem oj(h:FT X H0 Ex a ta):FW X H0 Ex (.BoolOp .Or [a] pos) ta:=⟨sG h.go⟩
def dO(s t:ad->Res Bool):ad->Res Bool:=fun ρ=>s ρ >>= fun b=>if b=true then t ρ else .ok false
def jz(s t:ad->Res Bool):ad->Res Bool:=fun ρ=>s ρ >>= fun b=>if b=true then .ok true else t ρ
theorem gv(ha:FT X H0 Ex a ta)(hb:FW X H0 Ex (.BoolOp .And (b::rest) pos) tb):FW X H0 Ex (.BoolOp .And (a::b::rest) pos) (dO ta tb):=by
 refine ⟨PW.pre (sI ha.go hb.go) ?_⟩;rintro σ H Q ⟨Hs,ρ,ts,S,p⟩;refine ⟨Hs,ρ,ts,S,(Post.bind p).imp fun b _ p1 H1 S1=>?_⟩
 cases b with
 |true=>rw[if_pos rfl] at p1 ⊢;exact ⟨Hs,ρ,ts,S1,p1⟩
 |false=>rw[if_neg Bool.false_ne_true] at p1 ⊢;exact p1 H1 S1
theorem qz(ha:FT X H0 Ex a ta)(hb:FW X H0 Ex (.BoolOp .Or (b::rest) pos) tb):FW X H0 Ex (.BoolOp .Or (a::b::rest) pos) (jz ta tb):=by
 refine ⟨PW.pre (uR ha.go hb.go) ?_⟩;rintro σ H Q ⟨Hs,ρ,ts,S,p⟩;refine ⟨Hs,ρ,ts,S,(Post.bind p).imp fun b _ p1 H1 S1=>?_⟩
 cases b with
 |true=>rw[if_pos rfl] at p1 ⊢;exact p1 H1 S1
 |false=>rw[if_neg Bool.false_ne_true] at p1 ⊢;exact ⟨Hs,ρ,ts,S1,p1⟩
def fT(s t:ad->Res D):ad->Res D:=fun ρ=>s ρ >>= fun d=>asB d >>= fun b=>if b=true then t ρ else .ok (.bl false)
theorem k8{op}(h:FE X H0 Ex a f):FE X H0 Ex (.BoolOp op [a] pos) f:=⟨sK h.go⟩
theorem pU{d:D}{α:Type}{g:Bool->Res α}{k:α->Prop}(p:Post Ex (asB d >>= g) k):∃ b,d=.bl b/\Post Ex (g b) k:=by
 cases d with
 |bl b=>exact ⟨b,rfl,p⟩
 |_=>exact p.elim
theorem iZ(ha:FE X H0 Ex a fa)(hb:FE X H0 Ex (.BoolOp .And (b::rest) pos) fb):FE X H0 Ex (.BoolOp .And (a::b::rest) pos) (fT fa fb):=by
 refine ⟨PE.pre (sL ha.go hb.go) ?_⟩;rintro σ H Q ⟨Hs,ρ,ts,S,p⟩;refine ⟨Hs,ρ,ts,S,(Post.bind p).imp fun d _ p1 v H1 S1=>?_⟩;obtain ⟨b,rfl,k⟩:=pU p1;refine ⟨b,SR.isBl S1,?_⟩
 cases b with
 |true=>rw[if_pos rfl] at k ⊢;exact ⟨Hs,ρ,ts,S1.drop,k⟩
 |false=>rw[if_neg Bool.false_ne_true] at k ⊢;exact k _ H1 S1.drop.bl
def fIf(t:ad->Res Bool)(f g:ad->Res D):ad->Res D:=fun ρ=>t ρ >>= fun b=>if b=true then f ρ else g ρ
theorem k9(hc:FT X H0 Ex c ta)(ha:FE X H0 Ex a fa)(hb:FE X H0 Ex b fb):FE X H0 Ex (.IfExp c a b pos) (fIf ta fa fb):=by
 refine ⟨PE.pre (pz hc.go ha.go hb.go) ?_⟩;rintro σ H Q ⟨Hs,ρ,ts,S,p⟩;refine ⟨Hs,ρ,ts,S,(Post.bind p).imp fun b _ p1 H1 S1=>?_⟩
 cases b with
 |true=>rw[if_pos rfl] at p1 ⊢;exact ⟨Hs,ρ,ts,S1,p1⟩
 |false=>rw[if_neg Bool.false_ne_true] at p1 ⊢;exact ⟨Hs,ρ,ts,S1,p1⟩
def fU:D->Res D
 | .int i=>.ok (.int (-i))
 |_=>.bad
def f1(g:D->Res D)(fa:ad->Res D):ad->Res D:=fun ρ=>fa ρ >>= g
theorem gw(ha:FE X H0 Ex a fa):FE X H0 Ex (.UnaryOp .USub a pos) (f1 fU fa):=by
 refine ⟨PE.pre (uZ sZ ha.go) ?_⟩;rintro σ H Q ⟨Hs,ρ,ts,S,p⟩;refine ⟨Hs,ρ,ts,S,(Post.bind p).imp fun d _ p1 v H1 S1=>?_⟩
 cases d with
 |int i=>exact ⟨i,SR.isInt S1,p1 _ H1 S1.drop.int⟩
 |_=>exact p1.elim
theorem cJ{us:List V}{es:List D}{d:D}(hl:us.length=es.length)(h:es=[d]):∃ u,us=[u]:=by
 subst h
 cases us with
 |nil=>simp at hl
 |cons u r=>cases r with | nil=>exact ⟨u,rfl⟩ | cons _ _=>simp at hl
theorem la{us:List V}{es:List D}{d d':D}(hl:us.length=es.length)(h:es=[d,d']):∃ u w,us=[u,w]:=by
 subst h
 cases us with
 |nil=>simp at hl
 |cons u r=>cases r with | nil=>simp at hl | cons w r=>cases r with | nil=>exact ⟨u,w,rfl⟩ | cons _ _=>simp at hl
def a7:List D->Res D
 | [.lst _ xs]=>.ok (.int xs.length)
 | [.tup xs]=>.ok (.int xs.length)
 | [.str z]=>if z.length<=sizeLine then .ok (.int z.length) else .bad
 | [.scr ns]=>.ok (.int ns.length)
 |_=>.bad
theorem bc:∀ es,noX (a7 es)=true:=by
 intro es;unfold a7;split<;>first | rfl | (split<;>rfl)
theorem bA:FCall X (.builtin "len") a7:=by
 refine ⟨CallR.pre (CallR.or kP kQ) ?_⟩;rintro us H Q ⟨Hs,H0,vs,ds,es,d,hl,S,e,k⟩;unfold a7 at e;split at e
 ·rename_i t xs
  obtain ⟨u,rfl⟩:=cJ hl rfl
  cases e
  have S':SR Hs H0 H (some u::vs) (some (.lst t xs)::ds):=S;have hh:=S'.head
  cases hh with
  |lst q R=>exact .inl ⟨_,_,rfl,.inl (SqL.of q),by rw[R.length];exact k _ H S'.drop.int⟩
 ·rename_i xs
  obtain ⟨u,rfl⟩:=cJ hl rfl
  cases e
  have S':SR Hs H0 H (some u::vs) (some (.tup xs)::ds):=S;have hh:=S'.head
  cases hh with
  |tup q R=>exact .inl ⟨_,_,rfl,.inr (SqT.of q),by rw[R.length];exact k _ H S'.drop.int⟩
 ·rename_i z
  obtain ⟨u,rfl⟩:=cJ hl rfl;split at e
  ·rename_i hz
   cases e
   have S':SR Hs H0 H (some u::vs) (some (.str z)::ds):=S
   cases SR.isStr S'
   exact .inr ⟨z,rfl,hz,k _ H S'.drop.int⟩
  ·cases e
 ·rename_i ns
  obtain ⟨u,rfl⟩:=cJ hl rfl
  cases e
  have S':SR Hs H0 H (some u::vs) (some (.scr ns)::ds):=S;have hh:=S'.head
  cases hh with
  |scr q=>exact .inl ⟨_,_,rfl,.inl (.inl (.inr ⟨_,q⟩)),by rw[List.length_map];exact k _ H S'.drop.int⟩
 ·cases e
def bt:List D->Res D
 | [d]=>match d.its with
  |some ys=>.ok (.lst .o ys)
  |none=>.bad
 |_=>.bad
theorem ci:∀ es,noX (bt es)=true:=by
 intro es;unfold bt;split
 ·split<;>rfl
 ·rfl
theorem dh:FCall X (.type "list") bt:=by
 refine ⟨CallR.pre kR ?_⟩;rintro us H Q ⟨Hs,H0,vs,ds,es,d,hl,S,e,k⟩;unfold bt at e;split at e
 ·rename_i d1
  split at e
  ·rename_i ys hy
   cases e
   obtain ⟨u,rfl⟩:=cJ hl rfl;have S':SR Hs H0 H (some u::vs) (some d1::ds):=S;obtain ⟨a,us,rfl,ha,Hf,fp,O,F,R⟩:=S'.items hy;refine ⟨a,us,rfl,?_,fun l hl=>k _ _ (SR.laidL O F R (D.its_tag hy) hl)⟩
   cases hi:d1.isL with
   |true=>rw[hi] at ha;exact .inl (SqL.of ha)
   |false=>rw[hi] at ha;exact .inr (SqT.of ha)
  ·cases e
 ·cases e
theorem b6{T:String}{x:Str}{p:Pos}{es:List Expr}{g:List D->Res D}{fa:ad->Res (List D)}(hc:FCall X (.type T) g)(hn:∀ es,noX (g es)=true)(hg:Gl X x)(hm:X.mg x=none)(hv:bootBuiltins x=some (.type T))(ha:FA X H0 Ex (e::es) fa)
    (hn':x ≠ "__name__" := by decide) (hdb:(x == ("__debug__" : Str))=false:=by decide) (h1:starEach (e::es) X.env=(false,eval e X.env)::starEach es X.env:=by rfl) (h2:(backTo pos (starEach es X.env)).any (·.1)=false:=by rfl):FE X H0 Ex (.Call (.Name x p) (e::es) [] pos) (fCB g fa):=
 ⟨PE.pre (jW hc.go hg hm hv ha.go hn' hdb h1 h2) fun _ _ _ h=>oa hn h⟩
def fV:List D->Res D
 | [.int i,.int j]=>.ok (.int (if j<i then j else i))
 |_=>.bad
def gW:List D->Res D
 | [.int i,.int j]=>.ok (.int (if j > i then j else i))
 |_=>.bad
theorem ol:∀ es,noX (fV es)=true:=by intro es;unfold fV;split<;>rfl
theorem om:∀ es,noX (gW es)=true:=by intro es;unfold gW;split<;>rfl
theorem rp(hc:X.calm=true):FCall X (.builtin "min") fV:=by
 refine ⟨CallR.pre (nR hc) ?_⟩;rintro us H Q ⟨Hs,H0,vs,ds,es,d,hl,S,e,k⟩;unfold fV at e;split at e
 ·rename_i i j
  cases e
  obtain ⟨u,w,rfl⟩:=la hl rfl;have S':SR Hs H0 H (some w::some u::vs) (some (.int j)::some (.int i)::ds):=S
  cases SR.isInt S'
  cases SR.isInt S'.drop
  exact ⟨i,j,rfl,k _ H S'.drop.drop.int⟩
 ·cases e
theorem rA(hc:X.calm=true):FCall X (.builtin "max") gW:=by
 refine ⟨CallR.pre (nQ hc) ?_⟩;rintro us H Q ⟨Hs,H0,vs,ds,es,d,hl,S,e,k⟩;unfold gW at e;split at e
 ·rename_i i j
  cases e
  obtain ⟨u,w,rfl⟩:=la hl rfl;have S':SR Hs H0 H (some w::some u::vs) (some (.int j)::some (.int i)::ds):=S
  cases SR.isInt S'
  cases SR.isInt S'.drop
  exact ⟨i,j,rfl,k _ H S'.drop.drop.int⟩
 ·cases e
def eB:List D->Res D
 | [.int i]=>.ok (.int i)
 | [.bl k]=>.ok (.int (if k then 1 else 0))
 |_=>.bad
theorem lb:∀ es,noX (eB es)=true:=by intro es;unfold eB;split<;>rfl
theorem oo:FCall X (.type "int") eB:=by
 refine ⟨CallR.pre nS ?_⟩;rintro us H Q ⟨Hs,H0,vs,ds,es,d,hl,S,e,k⟩;unfold eB at e;split at e
 ·rename_i i
  cases e
  obtain ⟨u,rfl⟩:=cJ hl rfl;have S':SR Hs H0 H (some u::vs) (some (.int i)::ds):=S
  cases SR.isInt S'
  exact .inl ⟨i,rfl,k _ H S'.drop.int⟩
 ·rename_i i
  cases e
  obtain ⟨u,rfl⟩:=cJ hl rfl;have S':SR Hs H0 H (some u::vs) (some (.bl i)::ds):=S
  cases SR.isBl S'
  exact .inr ⟨i,rfl,k _ H S'.drop.int⟩
 ·cases e
def de(neg:Bool):D->D->Res D:=fun x y=>match x,y with
 | .int i,.int j=>.ok (.bl (neg != decide (i=j)))
 | .str i,.str j=>.ok (.bl (neg != decide (i=j)))
 | .bl i,.bl j=>.ok (.bl (neg != decide (i=j)))
 |_,_=>.bad
theorem eD(n:Bool):∀ x y,noX (de n x y)=true:=by intro x y;unfold de;split<;>rfl
theorem tY:FOp X (compareOp .Eq) (de false):=by
 refine ⟨OpR.pre u0 ?_⟩;rintro x y H Q ⟨Hs,H0,vs,ds,d1,d2,d,S,e,k⟩;unfold de at e;split at e
 ·rename_i i j
  cases e;cases SR.isInt S;cases SR.isInt S.drop
  refine ⟨rfl,?_⟩;have:decide (V.int i=V.int j)=(false != decide (i=j)):=by simp
  rw[this];exact k _ H S.drop.drop.bl
 ·rename_i i j
  cases e;cases SR.isStr S;cases SR.isStr S.drop
  refine ⟨rfl,?_⟩;have:decide (V.str i=V.str j)=(false != decide (i=j)):=by simp
  rw[this];exact k _ H S.drop.drop.bl
 ·rename_i i j
  cases e;cases SR.isBl S;cases SR.isBl S.drop
  refine ⟨rfl,?_⟩;have:decide (V.bl i=V.bl j)=(false != decide (i=j)):=by simp
  rw[this];exact k _ H S.drop.drop.bl
 ·cases e
theorem i0:FOp X (compareOp .NotEq) (de true):=by
 refine ⟨OpR.pre u4 ?_⟩;rintro x y H Q ⟨Hs,H0,vs,ds,d1,d2,d,S,e,k⟩;unfold de at e;split at e
 ·rename_i i j
  cases e;cases SR.isInt S;cases SR.isInt S.drop
  refine ⟨rfl,?_⟩;have:(!decide (V.int i=V.int j))=(true != decide (i=j)):=by simp
  rw[this];exact k _ H S.drop.drop.bl
 ·rename_i i j
  cases e;cases SR.isStr S;cases SR.isStr S.drop
  refine ⟨rfl,?_⟩;have:(!decide (V.str i=V.str j))=(true != decide (i=j)):=by simp
  rw[this];exact k _ H S.drop.drop.bl
 ·rename_i i j
  cases e;cases SR.isBl S;cases SR.isBl S.drop
  refine ⟨rfl,?_⟩;have:(!decide (V.bl i=V.bl j))=(true != decide (i=j)):=by simp
  rw[this];exact k _ H S.drop.drop.bl
 ·cases e
theorem SR.recv{Hs H0 H:Hp}{σ:St}{ρ:ad}(S:SR Hs H0 H σ ρ){i:Nat}{t:Tg}{xs:List D}(e:ρ[i]?=some (some (.lst t xs))):∃ p us,σ[i]?=some (some (.ref p))/\H p=some (.lst us)/\us.length=xs.length:=by
 obtain ⟨v,hv,S'⟩:=S.get e;have h:=S'.head
 cases t with
 |f=>cases h with | lst q R=>exact ⟨_,_,hv,q,R.length⟩
 |o=>cases h with | lst q R=>exact ⟨_,_,hv,q,R.length⟩
 |b=>cases h with | lst q R=>exact ⟨_,_,hv,q,R.length⟩
def di(i:Nat)(f:ad->Res D):ad->FOut:=fun ρ=>match ρ[i]? with
 |some (some (.lst .o xs))=>aft (f ρ) fun d=>if d.tag=.b\/sizeLine<=xs.length then .bad else .nx (ρ.set i (some (.lst .o (xs++[d]))))
 |_=>.bad
theorem j0{i:Nat}{x:Str}{p1 p2 p3:Pos}(hv:PV X (.Name x p1) i)(he:FE X H0 Ex e f)
    (hbase:attributeBase (.Name x p1) "append" X.env (eval (.Name x p1) X.env)=eval (.Name x p1) X.env:=by rfl)
    (hfew:((backTo p3 (starEach [e] X.env)).all (fun x=>!x.1)&&(backToKw p3 (keywordEach [] X.env)).all (fun x=>x.1.isSome)&&decide (([e]:List Expr).length+([]:List Keyword).length+(if ([]:List Keyword).isEmpty then 0 else 1)<30))=true:=by rfl)
    (hline:(p2.endLine == p3.line)=true:=by rfl) (hplain:(backTo p3 (starEach [] X.env)).any (·.1)=false:=by rfl) (hs1:starEach [e] X.env=(false,eval e X.env)::starEach [] X.env:=by rfl)
    (hsw:swapsWith (.Call (.Attribute (.Name x p1) "append" p2) [e] [] p3) none pos.line X.env=pure false:=by rfl) :
    FS X H0 Ex (.Expr (.Call (.Attribute (.Name x p1) "append" p2) [e] [] p3) pos) (di i f):=by
 refine ⟨PS.pre (gO (kA PySem.F.plainAttrs_list PySem.F.slot_list_append PySem.F.type_list_append gp hv.go (b8 he.go dk hs1) hbase hfew hline hs1 hplain) hsw) ?_⟩;rintro En σ H ⟨Hs,ρ,⟨S,n⟩,p⟩;unfold di at p;split at p
 ·rename_i xs hx
  obtain ⟨q,us,hq,hH,hl⟩:=S.recv hx;refine ⟨.ref q,hq,.inl ⟨rfl,us,SqL.of hH⟩,Hs,ρ,[],S,(PostS.aft p).imp fun d _ p1 v H1 S1=>?_⟩;split at p1
  ·exact p1.elim
  ·rename_i hc
   have S1:SR Hs H0 H1 (some v::σ) (some d::ρ):=S1;obtain ⟨q',us',hq',hH',hl',S2⟩:=S1.append (fun z=>hc (.inl z)) n hx;rw[hq] at hq'
   cases hq'
   refine ⟨q,us',v,rfl,rfl,hH',?_,p1 σ _ ⟨S2,n.set fun d' z=>by cases z;exact fun y=>nomatch y⟩⟩;rw[hl'];exact Nat.lt_of_not_le fun z=>hc (.inr z)
 ·exact p.elim
end
def cQ(ns:List Int):List Int:=ns.mergeSort fun a b=>decide (a<=b)
theorem dm(ns:List Int):(cQ ns).Perm ns:=List.mergeSort_perm ns _
theorem gx(ns:List Int):(cQ ns).Pairwise (·<=·):=by
 have:=List.pairwise_mergeSort (le:=fun a b:Int=>decide (a<=b)) (fun a b c h1 h2=>by simp at *;omega) (fun a b=>by simp;omega) ns;exact this.imp fun h=>by simpa using h
def eE:List D->Option (List Int)
 | []=>some []
 | .int i::r=>(eE r).map (i::·)
 |_=>none
theorem ik:∀ {ds:List D} {ns:List Int},eE ds=some ns->ds=ns.map D.int
 | [],_,h=>by simp[eE] at h;subst h;rfl
 | .int i::r,ns,h=>by
  simp only[eE,Option.map_eq_some_iff] at h;obtain ⟨m,hm,rfl⟩:=h;rw[ik hm];rfl
 | .non::_,_,h | .bl _::_,_,h | .str _::_,_,h | .lst _ _::_,_,h | .tup _::_,_,h | .dic _ _::_,_,h | .ins _ _ _::_,_,h | .exc _::_,_,h | .scr _::_,_,h | .slf _ _ _::_,_,h=>by cases h
theorem m5(ns:List Int):eE (ns.map D.int)=some ns:=by
 induction ns with
 |nil=>rfl
 |cons n ns ih=>simp[eE,ih]
theorem j3{H:Hp}:∀ {us:List V} {ns:List Int},Reps H us (ns.map D.int)->us=ns.map V.int
 |_,[],.nil=>rfl
 |_,n::ns,.cons h r=>by cases h;rw[j3 r];rfl
theorem lf{H:Hp}(ns:List Int):Reps H (ns.map V.int) (ns.map D.int):=by
 induction ns with
 |nil=>exact .nil
 |cons n ns ih=>exact .cons .int ih
section
variable {X:Cx}{Ex:Value->Prop}{H0:Hp}{e:Expr}{pos:Pos}
theorem iD:CallR X (.builtin "sorted") (fun xs H Q=>∃ p ns,xs=[.ref p]/\SqL X.K H p (ns.map V.int)/\ns.length<64/\∀ l,H l=none->Q (.ref l) (upd H l (.lst ((cQ ns).map V.int)))):=by
 intro pins s σ H xs us Q I r h;obtain ⟨p,ns,rfl,hq,h64,q⟩:=h;obtain ⟨u,rfl,rx⟩:=eO r
 cases rx
 obtain ⟨its,rv,pl,hz⟩:=I.list hq;have hI:IntsAre its ns:=mU rv;have hl:=rv.length;rw[List.length_map] at hl hz;refine sorted_ints pl.isList hI (by omega) fun out ns' a1 a2 a3=>?_;have en:ns'=cQ ns:=PySem.W.ksm_same (a2.trans (dm ns).symm) a3 (gx ns);subst en;obtain ⟨e,he⟩:=sortedAll_at s.heap its out;have hfresh:H (s.heap.objs.size+1)=none:=I.hok.fresh (Nat.le_succ _)
 refine ⟨.ref (s.heap.objs.size+1),_,I.laid (t':=s.toks) (fun b o h=>sortedAll_old h) (Nat.le_succ _) (?_:ObjOk X.prog X.w _ _ _ (.lst ((cQ ns).map V.int))),rfl,q _ hfresh⟩;refine ⟨?_,out.toList,e,gq a1,he⟩;rw[List.length_map,(dm ns).length_eq];exact hz
def cm:List D->Res D
 | [d]=>match d.its with
  |some ys=>match eE ys with
   |some ns=>if d.isL=true/\ns.length<64 then .ok (.lst .o ((cQ ns).map D.int)) else .bad
   |none=>.bad
  |none=>.bad
 |_=>.bad
theorem lg:∀ es,noX (cm es)=true:=by
 intro es;unfold cm;split
 ·split
  ·split
   ·split<;>rfl
   ·rfl
  ·rfl
 ·rfl
theorem m7:FCall X (.builtin "sorted") cm:=by
 refine ⟨CallR.pre iD ?_⟩;rintro us H Q ⟨Hs,H0,vs,ds,es,d,hl,S,e,k⟩;unfold cm at e;split at e
 ·rename_i d1
  split at e
  ·rename_i ys hy
   split at e
   ·rename_i ns hn
    split at e
    ·rename_i hc
     cases e
     obtain ⟨u,rfl⟩:=cJ hl rfl;have S':SR Hs H0 H (some u::vs) (some d1::ds):=S;obtain ⟨a,us,rfl,ha,Hf,fp,O,F,R⟩:=S'.items hy;rw[hc.1] at ha;have hys:=ik hn;subst hys;have hus:=j3 R;subst hus;exact ⟨a,ns,rfl,SqL.of ha,hc.2,fun l hl=>k _ _ (SR.laidL O F (lf _) (fun e m=>by obtain ⟨i,_,rfl⟩:=List.mem_map.mp m;rfl) hl)⟩
    ·cases e
   ·cases e
  ·cases e
 ·cases e
def vf(ta:TA):TE:=fun σ H Q=>ta σ H fun vs H1=>∃ j:Int,vs=[.int j]/\∀ p,H1 p=none->Q (.ref p) (upd H1 p (.rng 0 j))
theorem rB{a:Expr}{ta:TA}{p:Pos}(hg:Gl X "range")(hm:X.mg "range" = none)(ha:PA X [a] ta)(hs:starEach [a] X.env=[(false,eval a X.env)]:=by rfl):PE X (.Call (.Name "range" p) [a] [] pos) (vf ta):=by
 intro pins s σ H Q I h;refine Call_ (eo I hg hm boot_range (PyProof.Rows.callWith_type1 (thn (ha pos pins s σ H _ I h) fun us s1 ⟨vs,H1,I1,r1,q1⟩=>?_) hs rfl));obtain ⟨j,e,q⟩:=q1;subst e
 cases r1 with
 |cons r rr=>
  cases rr
  obtain ⟨t,rfl⟩:=r;refine call_range_1 ⟨.ref s1.heap.objs.size,_,I1.laid (fun b o e=>Heap.get?_push_of_some _ e) (Nat.le_refl _) (?_:ObjOk X.prog X.w _ _ _ (.rng 0 j)),rfl,q _ (I1.hok.fresh (Nat.le_refl _))⟩;exact ⟨_,_,_,Heap.get?_push_size _ rfl⟩
theorem ko(hc:X.calm=true):CallR X (.type "list") (fun xs H Q=>∃ p lo hi,xs=[.ref p]/\H p=some (.rng lo hi)/\-(2 ^ 62)<=lo/\lo<2 ^ 62/\-(2 ^ 62)<=hi/\hi<2 ^ 62/\(hi - lo).toNat<=1000000/\∀ l,H l=none->Q (.ref l) (upd H l (.lst ((List.range (hi - lo).toNat).map fun (i:Nat)=>V.int (lo+(i:Int)))))):=by
 intro pins s σ H xs us Q I r h;obtain ⟨p,lo,hi,rfl,hp,h1,h2,h3,h4,h5,q⟩:=h;obtain ⟨u,rfl,rx⟩:=eO r
 cases rx
 obtain ⟨t,u,v,hr⟩:=I.hok p _ hp;have hn:Builtin.Range.rangeSize lo hi 1=((hi - lo).toNat:Nat):=by rw[rangeSize_one];split<;>omega
 refine call_list_range (n:=(hi - lo).toNat) (I.ok.hd hc) (show IsRange s.heap p lo hi 1 t u v from hr) (small_one h1 h2 h3 h4) hn (by omega) fun h' tk acc c' kp e hS=>?_;refine ⟨.ref s.heap.objs.size,_,I.laid kp (Nat.le_refl _) (?_:ObjOk X.prog X.w _ _ _ (.lst _)),rfl,q _ (I.hok.fresh (Nat.le_refl _))⟩;refine ⟨?_,acc.toList,c',?_,by simpa using e⟩
 ·rw[List.length_map,List.length_range,sizeLine_eq];omega
 ·obtain ⟨z1,z2⟩:=hS
  have go:∀ (n k:Nat) (l:List Value),l.length=n->(∀ j v,l[j]?=some v->∃ t,v=Value.int (lo+((k+j:Nat):Int)*1) t)->Vals ((List.range' k n).map fun (i:Nat)=>V.int (lo+(i:Int))) l:=by
   intro n;induction n with
   |zero=>intro k l hl _;cases l with | nil=>exact .nil | cons a b=>simp at hl
   |succ n ih=>
    intro k l hl hv
    cases l with
    |nil=>simp at hl
    |cons a b=>
     rw[List.range'_succ,List.map_cons];obtain ⟨t,ha⟩:=hv 0 a rfl;refine .cons ⟨t,by rw[ha];congr 1;simp⟩ (ih (k+1) b (by simpa using hl) fun j v hj=>?_);obtain ⟨t',hb⟩:=hv (j+1) v (by simpa using hj);exact ⟨t',by rw[hb,show k+(j+1)=k+1+j by omega]⟩
  have:=go (hi - lo).toNat 0 acc.toList (by simpa using z1) fun j v hj=>by
   obtain ⟨t,e⟩:=z2 j v (by simpa using hj);exact ⟨t,by rw[e,Nat.zero_add]⟩
  rw[List.range_eq_range'];exact this
def cx(fa:ad->Res (List D)):ad->Res D:=fun ρ=>bz fa ρ >>= fun items=>if items.length<=1000000 then .ok (.lst .o items) else .bad
theorem m8{H:Hp}(lo:Int)(n:Nat):Reps H ((List.range n).map fun (i:Nat)=>V.int (lo+(i:Int))) (aB lo n):=by
 unfold aB;induction List.range n with
 |nil=>exact .nil
 |cons a b ih=>exact .cons .int ih
theorem j4{a:Expr}{p p' q q':Pos}{fa:ad->Res (List D)}(hc:X.calm=true)(hg:Gl X "range")(hm:X.mg "range" = none)(hgl:Gl X "list")(hml:X.mg "list" = none)(ha:FA X H0 Ex [a] fa)(hs:starEach [a] X.env=[(false,eval a X.env)]:=by rfl)
    (h1:starEach [.Call (.Name "range" p) [a] [] q] X.env=(false,eval (.Call (.Name "range" p) [a] [] q) X.env)::starEach [] X.env:=by rfl) (h2:(backTo q' (starEach [] X.env)).any (·.1)=false:=by rfl) :
    FE X H0 Ex (.Call (.Name "list" p') [.Call (.Name "range" p) [a] [] q] [] q') (cx fa):=by
 refine ⟨PE.pre (jW (ko hc) hgl hml (by decide +kernel) (b8 (rB hg hm ha.go hs) dk h1) (by decide) (by decide) h1 h2) ?_⟩;rintro σ H Q ⟨Hs,ρ,ts,S,pp⟩;unfold cx bz at pp;refine ⟨Hs,ρ,ts,S,(Post.bind (Post.bind pp)).imp fun es _ p1 us H1 hl S1=>?_⟩;split at p1
 ·rename_i j _
  split at p1
  ·rename_i hcc
   simp at hcc;have p1:Post Ex (if (aB 0 j.toNat).length<=1000000 then Res.ok (D.lst .o (aB 0 j.toNat)) else .bad) fun d=>∀ v H',SX Hs H0 H' ((v,d)::ts) σ ρ->Q v H':=p1;split at p1
   ·rename_i hlen
    obtain ⟨u,rfl⟩:=cJ hl rfl;have S2:SR Hs H0 H1 (some u::(tvs ts++σ)) (some (.int j)::(tds ts++ρ)):=SX.held hl S1
    cases SR.isInt S2
    refine ⟨j,rfl,fun r hr=>?_⟩;have sm:Same H1 (upd H1 r (.rng 0 j)):=fun b o e=>by rw[aH (aY e hr)];exact e
    obtain ⟨Hf,fp,O,F⟩:=S2.drop.grow sm;have hlen:j.toNat<=1000000:=by simpa [aB] using hlen
    refine ⟨r,0,j,rfl,bg,by omega,by omega,by omega,by omega,by simpa using hlen,fun l hl=>p1 _ _ ?_⟩;have:=SR.laidL O F (m8 0 (j - 0).toNat) (fun e m=>by obtain ⟨i,_,rfl⟩:=List.mem_map.mp m;rfl) hl;rw[show j - 0=j by omega] at this ⊢;exact this
   ·exact p1.elim
  ·exact p1.elim
 ·exact p1.elim
def vg(h0 h:Heap)(H:Hp)(a:Addr)(C:Value):Prop:=∃ oe vs T oT ts,h.get? a=some oe/\oe.cls=C/\oe.data=.fields vs/\vs[1]?=some (.ref T)/\T≠a/\h.get? T=some oT/\oT.data=.fields ts/\ts[3]?=some .none/\H a=none/\H T=none/\h0.get? a=none/\h0.get? T=none
def CXm(P:Program)(w:World):CXT:=fun outer H s E e s'=>∃ a C H',e=.ref a/\s'.os=s.os/\AllBare s'.gens/\Un (frs outer) [] H H' s.heap s'.heap/\HOk P w H' s'.heap/\vg s.heap s'.heap H' a C/\E C none H'
theorem dr{CX:CXT}{P:Program}{w:World}{K:PySem.W.Frag}{mg:Str->Option Value}{base:Heap}{N:List Str}{qual:Str}{scope:Scope}{f:Addr}{cd:Value}{A:Around}{outer:List Env}{s:Shared}{H:Hp}{E:XK}:Po (fP CX P w K mg base N qual scope f cd A outer s H E):=⟨PassesOwn.leaving⟩
theorem rC{X:Cx}{P:Program}{w:World}:dS (CXm P w) X (fun _ _ _=>False):=fun _ _ _ _ _ _ _ h=>by
 obtain ⟨_,_,_,_,_,_,_,_,_,z⟩:=h;exact z.elim
structure Cal (P:Program) (w:World) (K:PySem.W.Frag) (mg:Str->Option Value) (base:Heap) (x:Str) (n:Nat) (F:List D->Res D) (k:Nat):Prop where
 ex:∃ f fd ps,FnOk P w K mg base (CXm P w) k f fd ps (spF n F)/\mg x=some (.ref f)/\PySem.W.keepIn K (.ref f)=true/\Binds K fd ps []
structure Df (K:PySem.W.Frag) (mg:Str->Option Value) (x:Str) (st:Stmt) (ps:List Str):Prop where
 ex:∃ f fd,Fun K x x st f fd/\mg x=some (.ref f)/\Binds K fd ps []
def ao(n:Nat)(F:List D->Res D)(fa:ad->Res (List D)):ad->Res D:=fun ρ=>fa ρ >>= fun ds=>if ds.length=n then c0 F ds else .bad
theorem CompScope.of{X:Cx}{scope:Scope}{own:List Str}{cap:List (Str × Nat)}(h1:scope.kind=.function)(h2:(scope.names.map (·.1)).Nodup)(h3:(scope.names.all fun x=>!(x.2 == .free)||X.env.kindOf x.1 == some .cell||X.env.kindOf x.1 == some .free)=true)
    (h4:(cap.all fun p=>X.N[p.2]? == some p.1&&scope.names.lookup p.1 == some .free)=true) (h5:(own++cap.map (·.1)).Nodup):CompScope X scope own cap where
 kind:=h1
 nd:=h2
 free:=fun x hx hk=>by
  have:=List.all_eq_true.mp h3 x hx;rw[hk] at this;simp at this;exact this
 capN:=fun p hp=>by
  have:=List.all_eq_true.mp h4 p hp;simp at this;exact this
 ndN:=h5
end
theorem oq{P:Program}{w:World}{H:Hp}{h:Heap}{a:Addr}{o:HO}(x:ObjOk P w H h a o):∃ u,h.get? a=some u:=by
 cases o with
 |lst xs=>obtain ⟨_,_,_,_,e⟩:=x;exact ⟨_,e⟩
 |tup xs=>obtain ⟨_,_,_,o,e,_⟩:=x;exact ⟨_,e⟩
 |dK kvs=>obtain ⟨_,_,_,_,o,_,_,e,_⟩:=x;exact ⟨_,e⟩
 |dT kvs=>obtain ⟨_,_,_,_,o,_,_,e,_⟩:=x;exact ⟨_,e⟩
 |set S n=>obtain ⟨o,_,_,_,e,_⟩:=x;exact ⟨_,e⟩
 |ins C dx fs=>obtain ⟨_,_,_,e,_⟩:=x;exact ⟨_,e⟩
 |own y=>obtain ⟨_,e⟩:=x;exact ⟨_,e⟩
 |xd fs=>obtain ⟨_,⟨_,_,_,e,_⟩,_⟩:=x;exact ⟨_,e⟩
 |rng lo hi=>obtain ⟨_,_,_,e⟩:=x;exact ⟨_,e⟩
 |frz ob u=>obtain ⟨e,_⟩:=x;exact ⟨_,e⟩
 |tbl ps=>exact ⟨_,(show h.get? a=some _ from x)⟩
 |met f y=>exact ⟨_,(show h.get? a=some _ from x)⟩
 |ext φ=>obtain ⟨_,⟨_,e⟩,_⟩:=x;exact ⟨_,e⟩
theorem dW{base h h':Heap}{fs:List Addr}{H1 H':Hp}(u:Un fs [] H1 H' h h'):∀ {l:List Env},(∀ b∈frs l,b∈fs)->(∀ b∈frs l,H1 b=none)->h.FunFrames base l->h'.FunFrames base l
 | [],_,_,_=>trivial
 |env::r,hs,hn,⟨hk,⟨L,o,hf,hb,ho,hd⟩,hr⟩=>by
  have mem:frs (env::r)=L::frs r:=by unfold frs;rw[List.filterMap_cons,hf]
  have hL:L∈frs (env::r):=by rw[mem];exact List.mem_cons_self
  obtain ⟨sl,e⟩:=u.slot L o ho (hn L hL) (hs L hL) (by simp);exact ⟨hk,⟨L,_,hf,hb,e,hd⟩,dW u (fun b m=>hs b (by rw[mem];exact List.mem_cons_of_mem _ m)) (fun b m=>hn b (by rw[mem];exact List.mem_cons_of_mem _ m)) hr⟩
section
variable {P:Program}{w:World}{K:PySem.W.Frag}{mg:Str->Option Value}{base:Heap}{N:List Str}{qual:Str}{scope:Scope}{f:Addr}{cd:Value}{A:Around}{outer:List Env}{s:Shared}{H:Hp}{E:XK}
abbrev cxm(P:Program)(w:World)(K:PySem.W.Frag)(mg:Str->Option Value)(base:Heap)(N:List Str)(qual:Str)(scope:Scope)(f:Addr)(cd:Value)(A:Around)(outer:List Env)(s:Shared)(H:Hp)(E:XK):Cx:=fP (CXm P w) P w K mg base N qual scope f cd A outer s H E
theorem me{pins:List (Addr × Obj)}{σ:St}{H1 H':Hp}{s1 s':Shared}{a:Addr}{C:Value}{Ts:List Addr}{h'':Heap}(I:Inv (cxm P w K mg base N qual scope f cd A outer s H E) pins σ H1 s1)
    (u:Un (frs (cxm P w K mg base N qual scope f cd A outer s H E).stack) [] H1 H' s1.heap s'.heap) (hos:s'.os=s1.os) (bare:AllBare s'.gens) (hok:HOk P w H' s'.heap) (ha:H' a=none) (hna:s1.heap.get? a=none) (hT:∀ T∈Ts,H' T=none/\s1.heap.get? T=none)
    (FF:s'.heap.FunFrames base (cxm P w K mg base N qual scope f cd A outer s H E).stack)
    (L:Heap.Left (PySem.W.hideAll s'.heap (a::(Ts++frs (cxm P w K mg base N qual scope f cd A outer s H E).stack))) (cxm P w K mg base N qual scope f cd A outer s H E).stack a C s'.heap h'') (hE:E C none H'):CXm P w outer H s E (.ref a) { s' with heap:=h'' }:=by
 obtain ⟨st,ff,tr,sl⟩:=L;have ib:Un (frs outer) [] H H1 s.heap s1.heap:=I.base;have kB:∀ b o,s'.heap.get? b=some o->b≠a->b∉Ts->b∉frs (cxm P w K mg base N qual scope f cd A outer s H E).stack->h''.get? b=some o:=fun b o e h1 h2 h3=>st b o (PySem.W.hideAll_get _ e fun m=>by
  rcases List.mem_cons.mp m with z | m
  ·exact h1 z
  ·exact (List.mem_append.mp m).elim h2 h3)
 have frN:∀ b∈frs (cxm P w K mg base N qual scope f cd A outer s H E).stack,H' b=none:=fun b m=>by
  obtain ⟨_,o,ho,_⟩:=I.stack.mem m;exact u.free b o ho (I.stkFree b m) (by simp)
 have eSt:frs (cxm P w K mg base N qual scope f cd A outer s H E).stack=s.heap.objs.size::frs outer:=rfl;have ne1:∀ b o,s.heap.get? b=some o->b≠a/\b∉Ts:=fun b o e=>by
  obtain ⟨o1,e1⟩:=ib.there b o e (by simp);refine ⟨fun z=>?_,fun m=>?_⟩
  ·rw[z,hna] at e1;cases e1
  ·rw[(hT b m).2] at e1;cases e1
 have neL:∀ b o,s.heap.get? b=some o->b≠s.heap.objs.size:=fun b o e=>Nat.ne_of_lt (Heap.lt_size e);refine ⟨a,C,H',rfl,hos.trans I.os,bare,⟨fun b o e n hb _=>?_,fun b o e n hb _=>?_,fun b o e n _=>?_,fun b o e _=>?_,fun b xs e=>u.tups b xs (ib.tups b xs e),fun b o xs e=>u.frzs b o xs (ib.frzs b o xs e),fun b ps e=>?_⟩,fun b ob e=>?_,?_,hE⟩
 ·have nst:b∉frs (cxm P w K mg base N qual scope f cd A outer s H E).stack:=by
     rw[eSt];intro m;rcases List.mem_cons.mp m with z | m
     ·exact neL b o e z
     ·exact hb m
  exact kB b o (u.keep b o (ib.keep b o e n hb (by simp)) (ib.free b o e n (by simp)) nst (by simp)) (ne1 b o e).1 (ne1 b o e).2 nst
 ·have hst:b∈frs (cxm P w K mg base N qual scope f cd A outer s H E).stack:=by rw[eSt];exact List.mem_cons_of_mem _ hb
  obtain ⟨sl1,e1⟩:=ib.slot b o e n hb (by simp);obtain ⟨sl2,e2⟩:=u.slot b _ e1 (ib.free b o e n (by simp)) hst (by simp);obtain ⟨_,o',ho',hd⟩:=FF.mem hst;rw[e2] at ho'
  cases ho'
  obtain ⟨sl3,e3⟩:=sl b _ e2 hd;exact ⟨sl3,e3⟩
 ·obtain ⟨o1,e1⟩:=ib.there b o e (by simp)
  exact u.free b o1 e1 (ib.free b o e n (by simp)) (by simp)
 ·obtain ⟨o1,e1⟩:=ib.there b o e (by simp)
  obtain ⟨o2,e2⟩:=u.there b o1 e1 (by simp);by_cases hst:b∈frs (cxm P w K mg base N qual scope f cd A outer s H E).stack
  ·obtain ⟨_,o',ho',hd⟩:=FF.mem hst
   rw[e2] at ho'
   cases ho'
   obtain ⟨sl3,e3⟩:=sl b _ e2 hd;exact ⟨_,e3⟩
  ·exact ⟨o2,kB b o2 e2 (ne1 b o e).1 (ne1 b o e).2 hst⟩
 ·obtain ⟨m1,e1⟩:=ib.tbls b ps e
  obtain ⟨m2,e2⟩:=u.tbls b _ e1;exact ⟨m1++m2,by rw[e2,Array.append_assoc]⟩
 ·refine (hok b ob e).stay (fun c v hc q=>kB c v q ?_ ?_ ?_) (fun _ q=>q) fun _ _ q=>q
  ·rintro rfl
   rcases hc with rfl | hc
   ·rw[ha] at e;cases e
   ·rw[ha] at hc;cases hc
  ·intro m
   rcases hc with rfl | hc
   ·rw[(hT c m).1] at e;cases e
   ·rw[(hT c m).1] at hc;cases hc
  ·intro m
   have:=frN c m;rcases hc with rfl | hc
   ·rw[this] at e;cases e
   ·rw[this] at hc;cases hc
 ·obtain ⟨oe,vs,T,oT,ts,x1,x2,x3,x4,x5,x6,x7,x8,x9⟩:=tr
  have back:∀ b,s1.heap.get? b=none->s.heap.get? b=none:=fun b hb=>by
   cases q:s.heap.get? b with
   |none=>rfl
   |some o=>obtain ⟨o1,e1⟩:=ib.there b o q (by simp);rw[hb] at e1;cases e1
  refine ⟨oe,vs,T,oT,ts,x1,x2,x3,x4,x6,x7,x8,x9,ha,?_,back a hna,?_⟩
  all_goals
   by_cases hm:T∈Ts
   ·first
       |exact (hT T hm).1
       |exact back T (hT T hm).2
   ·have hst:T∉frs (cxm P w K mg base N qual scope f cd A outer s H E).stack:=fun m=>by
       obtain ⟨_,o',ho',hd⟩:=ff.mem m;rw[x7] at ho'
       cases ho'
       exact hd _ x8
    have hn:s'.heap.get? T=none:=by
     cases q:s'.heap.get? T with
     |none=>rfl
     |some o=>
      have:=PySem.W.hideAll_get (a::(Ts++frs (cxm P w K mg base N qual scope f cd A outer s H E).stack)) q fun m=>by
       rcases List.mem_cons.mp m with z | m
       ·exact x6 z
       ·exact (List.mem_append.mp m).elim hm hst
      rw[this] at x5
      cases x5
    first
     | (cases q:H' T with
        |none=>rfl
        |some o=>obtain ⟨v,e⟩:=oq (hok T o q);rw[hn] at e;cases e)
     | (cases q:s.heap.get? T with
        |none=>rfl
        |some o=>
         obtain ⟨o1,e1⟩:=ib.there T o q (by simp)
         obtain ⟨o2,e2⟩:=u.there T o1 e1 (by simp)
         rw[hn] at e2;cases e2)
theorem rD{Ex:Value->Prop}{H0:Hp}(hE:∀ C H',Ex C->Same H0 H'->E C none H'):dS (CXm P w) (cxm P w K mg base N qual scope f cd A outer s H E) (Exk H0 Ex):=by
 intro pins σ H1 s1 e s' I h;obtain ⟨a,C,H',rfl,hos,bare,u,hok,⟨oe,vs,T,oT,ts,x1,x2,x3,x4,x5,x6,x7,x8,x9,x10,x11,x12⟩,ex,sm⟩:=h;have FF:s'.heap.FunFrames base (cxm P w K mg base N qual scope f cd A outer s H E).stack:=dW u (fun _ m=>m) (fun b m=>I.stkFree b m) I.stack
 show wpAny (model P w) (A.deeper (envOfC qual scope s.heap.objs.size f cd)) (leaving (envOfC qual scope s.heap.objs.size f cd) (.ref a)) _ _ s';refine wpAny_leaving_next (base:=PySem.W.hideAll s'.heap (a::([T]++frs (cxm P w K mg base N qual scope f cd A outer s H E).stack))) (outer:=outer) (L:=s.heap.objs.size) (cls:=C) I.ok.frames ?_ rfl
  ⟨oe,vs,T,oT,ts,x1,x2,x3,x4,PySem.W.hideAll_none _ (by simp),x5,x6,x7,x8⟩ (fun b o e=>PySem.W.of_hideAll _ e) (PySem.W.hideAll_none _ (by simp)) fun h'' L=>?_
 ·exact PySem.W.funFrames_hide FF fun env he b hb=>List.mem_cons_of_mem _ (List.mem_append_right _ (List.mem_filterMap.mpr ⟨env,he,hb⟩))
 ·exact me (Ts:=[T]) I u hos bare hok x9 x11 (fun T' m=>by simp at m;subst m;exact ⟨x10,x12⟩) FF L (hE C H' ex sm)
structure Pa (X:Cx) (H0:Hp) (Ex:Value->Prop):Prop where
 go:dS (CXm X.prog X.w) X (Exk H0 Ex)
theorem aS{Ex:Value->Prop}{H0:Hp}(hE:∀ C H',Ex C->Same H0 H'->E C none H'):Pa (cxm P w K mg base N qual scope f cd A outer s H E) H0 Ex:=⟨rD hE⟩
end
theorem az{X:Cx}{H0:Hp}{Ex:Value->Prop}{x:Str}{n k:Nat}{F:List D->Res D}{p pos:Pos}{e:Expr}{es:List Expr}{fa:ad->Res (List D)}(c:Cal X.prog X.w X.K X.mg X.base x n F k)(hx:Pa X H0 Ex)(hr:Room k X.A)(hg:Gl X x)(ha:FA X H0 Ex (e::es) fa)(hn:(e::es).length=n:=by rfl)
    (hdb:(x == ("__debug__" : Str))=false:=by decide) (he:starEach (e::es) X.env=(false,eval e X.env)::starEach es X.env:=by rfl) (hpl:(backTo pos (starEach es X.env)).any (·.1)=false:=by rfl) :
    FE X H0 Ex (.Call (.Name x p) (e::es) [] pos) (ao n F fa):=by
 obtain ⟨f,fd,ps,G,hm,hk,hb⟩:=c.ex;exact rn G hr hg hm hk hb hx.go ha hn hdb he hpl
def gX:List Value:=[.type "ValueError", .type "Exception", .type "BaseException", .type "object"]
structure XCls (K:PySem.W.Frag) (mg:Str->Option Value) (x:Str) (C:Addr):Prop where
 bound:mg x=some (.ref C)
 obj:∀ h:Heap,K.In h->∃ bm N nm q bs hdct sn sub ab col dd k0 k1 k2 k3 k5 mN,h.get? C=some (excClassObj nm q C N bs bm hdct sn sub ab col dd k0 k1 k2 k3 k5 "ValueError.__new__")/\h.Ns N mN/\mN "__init__" = none/\OwnTail h gX bm
theorem rE{K:PySem.W.Frag}{mg:Str->Option Value}{x:Str}{C:Addr}(hb:mg x=some (.ref C))(hc:PySem.W.excIn K C gX "ValueError.__new__" = true):XCls K mg x C:=by
 refine ⟨hb,fun h hK=>?_⟩;unfold PySem.W.excIn at hc;split at hc
 ·rename_i dd cl sl look
  split at hc
  ·rename_i C2 rest y0 y1 y2 y3 nn y5 hmro hslots
   simp only[Bool.and_eq_true,beq_iff_eq,Bool.not_eq_true'] at hc;have c1:=hc.1.1.1.1.1;have c2:=hc.1.1.1.1.2;have c3:=hc.1.1.1.2;have c4:=hc.1.1.2;have c5:=hc.1.2;have c6:=hc.2;subst c1 c2;have es:sl=#[y0,y1,y2,y3,some (.builtin "ValueError.__new__"),y5]:=Array.ext' hslots;subst es;have ob:=hK _ _ look
   cases cl
   dsimp only at hmro c3 c5 c6;subst hmro c3;exact ⟨rest,_,_,_,_,_,_,_,_,_,_,_,_,_,_,_,_,ob,.of_isNs (PySem.W.isNs_of_in hK c5),PySem.W.nsMap_none_of_in hK c5 c6,PySem.W.tail_of_in hK c4⟩
  ·cases hc
 ·cases hc
section
variable {P:Program}{w:World}{K:PySem.W.Frag}{mg:Str->Option Value}{base:Heap}{N:List Str}{qual:Str}{scope:Scope}{f:Addr}{cd:Value}{A:Around}{outer:List Env}{s:Shared}{H:Hp}{E:XK}
theorem cK{Ex:Value->Prop}{H0:Hp}{x:Str}{C:Addr}{words:Str}{j:Nat}{np p1 cpos pos:Pos}(O:XCls K mg x C)(hE:∀ C H',Ex C->Same H0 H'->E C none H')(hg:Gl (cxm P w K mg base N qual scope f cd A outer s H E) x)(hd:(x == ("__debug__" : Str))=false:=by decide)
    (hs1:starEach [.Constant (.str words) j p1] (cxm P w K mg base N qual scope f cd A outer s H E).env=(false,eval (.Constant (.str words) j p1) (cxm P w K mg base N qual scope f cd A outer s H E).env)::starEach [] (cxm P w K mg base N qual scope f cd A outer s H E).env:=by rfl) :
    FS (cxm P w K mg base N qual scope f cd A outer s H E) H0 Ex (.Raise (some (.Call (.Name x np) [.Constant (.str words) j p1] [] cpos)) none pos) (fun _=>.exc (.ref C)):=by
 refine ⟨?_⟩;intro pins s1 σ H1 En I h;obtain ⟨Hs,ρ,⟨S,n⟩,p⟩:=h;have p:Ex (.ref C):=p;obtain ⟨bm,Na,nm,q,bs,hdct,sn,sub,ab,col,dd,k0,k1,k2,k3,k5,mN,hC,hN,hni,T⟩:=O.obj base I.mod.kin;have FB:=PySem.F.excBase_ValueError
 refine wpAny_Raise_call_subU (C:=C) (nm:=nm) (q:=q) (N:=Na) (bs:=bs) (bm:=bm) (hdct:=hdct) (sn:=sn) (sub:=sub) (ab:=ab) (col:=col) (dd:=dd) (k0:=k0) (k1:=k1) (k2:=k2) (k3:=k3) (k5:=k5)
  FB (by decide) FB (mN:=mN) (T.hasType FB.hasBase) (I.ok.hd rfl) (by rw[hs1];rfl) hni (fo I hg O.bound ⟨rfl,?_⟩ hd)
 rw[hs1];refine Calls.evalArgs_plain ?_;have PAok:=b8 (X:=cxm P w K mg base N qual scope f cd A outer s H E) (e:=.Constant (.str words) j p1) (es:=[]) nL dk hs1;have sp:=PAok cpos pins s1 σ H1 (fun vs H'=>vs.length=1/\H'=H1) I ⟨rfl,rfl⟩;rw[hs1] at sp;refine thn sp fun us s2 ⟨vs,H2,I2,rv,hl,e2⟩=>?_;subst e2;refine ⟨rfl,?_,I2.bk _ _ hC,hN.keeps I2.bk,T.keeps I2.bk,fun h' e hm=>?_⟩
 ·show us.length<=sizeLine
  rw[<- rv.length,hl];decide
 ·have hu:Un (frs (cxm P w K mg base N qual scope f cd A outer s H E).stack) [] H2 H2 s2.heap h':=Un.kept hm.keeps
  have FF:h'.FunFrames base (cxm P w K mg base N qual scope f cd A outer s H E).stack:=dW hu (fun _ m=>m) (fun b m=>I2.stkFree b m) I2.stack;obtain ⟨t,ht,_,_⟩:=hm.there;have hne:H2 e=none:=by
   cases qq:H2 e with
   |none=>rfl
   |some o=>obtain ⟨v,ev⟩:=oq (I2.hok e o qq);rw[hm.new] at ev;cases ev
  show wpAny (model P w) (A.deeper (envOfC qual scope s.heap.objs.size f cd)) (leaving (envOfC qual scope s.heap.objs.size f cd) (.ref e)) _ _ { s2 with heap:=h' }
  refine wpAny_leaving_first (base:=PySem.W.hideAll h' (e::([]++frs (cxm P w K mg base N qual scope f cd A outer s H E).stack))) (outer:=outer) (L:=s.heap.objs.size) I2.ok.frames ?_ rfl ht (fun b o e=>PySem.W.of_hideAll _ e) (PySem.W.hideAll_none _ (by simp)) rfl rfl fun h'' L=>?_
  ·exact PySem.W.funFrames_hide FF fun env he b hb=>List.mem_cons_of_mem _ (List.mem_append_right _ (List.mem_filterMap.mpr ⟨env,he,hb⟩))
  ·exact me (Ts:=[]) (s':={ s2 with heap:=h' }) I2 hu rfl I2.bare (I2.hok.kept hm.keeps) hne hm.new (fun T' m=>by simp at m) FF L (hE _ _ p S.same)
theorem bJ{x:Str}{st:Stmt}{ps:List Str}{k:Nat}{g:ad->FOut}(U:Df K mg x st ps)(S:FnScope N ps (ar st))
    (hbody:∀ (f:Addr) (cdv:Value) (A:Around) (outer:List Env) (s:Shared) (H:Hp) (E:XK) (Ex:Value->Prop),(∀ C H',Ex C->Same H H'->E C none H')->Room k (A.deeper (envOfC x (ar st) s.heap.objs.size f cdv)) →
     FSs (cxm P w K mg base N x (ar st) f cdv A outer s H E) H Ex (bw st) g):Cal P w K mg base x ps.length (a8 N.length g) (k+1):=by
 obtain ⟨f,fd,F,hm,hb⟩:=U.ex;exact ⟨f,fd,ps,md F S fun cdv A outer s H E ds hr hl hx=>⟨g,hbody f cdv A outer s H E _ (fun C H' e sm=>hx C e H' sm) hr,rfl⟩,hm,F.kp,hb⟩
end
def fW(f:Str)(v:D):List (Str × D)->List (Str × D)
 | []=>[(f,v)]
 | (g,u)::r=>if g=f then (g,v)::r else (g,u)::fW f v r
theorem RepF.put{H:Hp}{f:Str}{v:V}{d:D}(h:Rep H v d):∀ {fs:List (Str × V)} {ds:List (Str × D)},RepF H fs ds->RepF H (b3 f v fs) (fW f d ds)
 |_,_,.nil=>.cons h .nil
 |_,_,.cons (k:=g) q r=>by
  unfold b3 fW;split
  ·exact .cons h r
  ·exact .cons q (RepF.put h r)
theorem RepF.look{H:Hp}{f:Str}{d:D}:∀ {fs:List (Str × V)} {ds:List (Str × D)},RepF H fs ds->ds.lookup f=some d->∃ v,fs.lookup f=some v/\Rep H v d
 |_,_,.nil,e=>by simp at e
 |_,_,.cons (k:=g) q r,e=>by
  rw[List.lookup_cons] at e ⊢
  cases hb:f == g with
  |true=>rw[hb] at e;cases e;exact ⟨_,rfl,q⟩
  |false=>rw[hb] at e;exact RepF.look r e
theorem RepF.length{H:Hp}:∀ {fs:List (Str × V)} {ds:List (Str × D)},RepF H fs ds->fs.length=ds.length
 |_,_,.nil=>rfl
 |_,_,.cons _ r=>by simp[RepF.length r]
section
variable {Hs H0 H:Hp}{vs:List (Option V)}{ds:List (Option D)}{v:V}{d:D}
theorem SR.field{C:Addr}{t:Tg}{fs:List (Str × D)}{f:Str}{x:D}(S:SR Hs H0 H (some v::vs) (some (.ins t C fs)::ds))(hx:fs.lookup f=some x) :
    ∃ a dx fvs u,v=.ref a/\H a=some (.ins C dx fvs)/\fvs.lookup f=some u/\SR Hs H0 H (some u::vs) (some x.asF::ds):=by
 obtain ⟨Hf,fp,O,F⟩:=S
 cases O with
 |cons h r=>
  cases h with
  |fz h _=>
   cases h with
   |ins h q=>
    obtain ⟨u,hu,ru⟩:=q.look hx;exact ⟨_,_,_,u,rfl,F.fh _ _ h,hu,Hf,_,.cons (.fz ru.asF x.asF_tag) r,F.subl (by simp)⟩
 |brw z h r=>
  cases h with
  |fz h z'=>rw[z'] at z;cases z
  |ins _ h q=>
   obtain ⟨u,hu,ru⟩:=q.look hx;exact ⟨_,_,_,u,rfl,h,hu,Hf,_,Own.cons (fp:=[]) (.fz ru.asF x.asF_tag) r,F⟩
theorem SR.setField{C p:Addr}{fs:List (Str × D)}{f:Str}{i:Nat}(S:SR Hs H0 H (some v::vs) (some d::ds))(t:d.tag=.f)(n:noB ds)(e:ds[i]?=some (some (.slf p C fs))) :
    ∃ dx fvs,vs[i]?=some (some (.ref p))/\H p=some (.ins C dx fvs)/\fvs.length=fs.length/\SR Hs H0 (upd H p (.ins C dx (b3 f v fvs))) vs (ds.set i (some (.slf p C (fW f d fs)))):=by
 obtain ⟨Hf,fp,O,F⟩:=S
 cases O with
 |brw z h r=>rw[t] at z;cases z
 |cons h r=>
  rename_i f0 f1
  cases h with
  |lst _ _=>cases t
  |dic _ _=>cases t
  |slf _ _ _=>cases t
  |fz hv _=>
   have F:Fine Hs H0 Hf H f1:=F;obtain ⟨q,fpx,fpr,e',rq,pm,w⟩:=r.write n F.nd e rfl
   cases rq with
   |slf hq hdx R=>
    rename_i dx fvs;have F':=F.perm pm.symm;have nd':=F'.nd;have hp:p∈f1:=pm.symm.subset (by simp);have hpn:p∉dx::fpr:=by
     have:(p::(dx::fpr)).Nodup:=by simpa using nd'
     exact (List.nodup_cons.mp this).1
    have kp:∀ a o,a∈dx::fpr->H a=some o->upd H p (.ins C dx (b3 f v fvs)) a=some o:=fun a o m z=>dA (fun y=>by subst y;exact hpn m) z;obtain ⟨fp',O',p'⟩:=w (upd H p (.ins C dx (b3 f v fvs))) (.slf p C (fW f d fs)) [p,dx] (fun a o m z=>kp a o (List.mem_cons_of_mem _ m) z) (.slf bg (kp dx _ List.mem_cons_self hdx) (R.put hv));refine ⟨dx,fvs,e',hq,R.length,Hf,fp',O',F.wrote hp ?_ ?_⟩
    ·exact (p'.nodup_iff).mpr (by simpa using nd')
    ·intro a m
     exact F'.own a (by simpa using p'.subset m)
end
section
variable {X:Cx}{Ex:Value->Prop}{H0:Hp}{e o value:Expr}{f fa fv:ad->Res D}{pos pos':Pos}{fld:Str}{C:Addr}
def cV(C:Addr)(fld:Str):D->Res D
 | .ins _ C' fs=>if C'=C then bq ((fs.lookup fld).map D.asF) else .bad
 |_=>.bad
theorem dt(he:FE X H0 Ex e fa)(c:Cls X.K C)(na:NoAttr X.K C fld)(hb:attributeBase e fld X.env (eval e X.env)=eval e X.env:=by rfl):FE X H0 Ex (.Attribute e fld pos) (f1 (cV C fld) fa):=by
 refine ⟨PE.pre (tm he.go hb) ?_⟩;rintro σ H Q ⟨Hs,ρ,ts,S,p⟩;refine ⟨Hs,ρ,ts,S,(Post.bind p).imp fun d _ p1 v H1 S1=>?_⟩
 cases d with
 |ins t C' fs=>
  by_cases hC:C'=C
  ·subst hC
   have p1:Post Ex (if C'=C' then bq ((fs.lookup fld).map D.asF) else .bad) fun d=>∀ v H',SX Hs H0 H' ((v,d)::ts) σ ρ->Q v H':=p1;rw[if_pos rfl] at p1
   cases el:fs.lookup fld with
   |none=>rw[el] at p1;exact p1.elim
   |some x=>
    rw[el] at p1;have S1:SR Hs H0 H1 (some v::(tvs ts++σ)) (some (.ins t C' fs)::(tds ts++ρ)):=S1;obtain ⟨a,dx,fvs,u,rfl,hH,hu,S2⟩:=S1.field el;exact ⟨a,C',dx,fvs,u,rfl,hH,c,na,hu,p1 u H1 S2⟩
  ·have p1:Post Ex (if C'=C then bq ((fs.lookup fld).map D.asF) else .bad) fun d=>∀ v H',SX Hs H0 H' ((v,d)::ts) σ ρ->Q v H':=p1
   rw[if_neg hC] at p1;exact p1.elim
 |_=>exact p1.elim
def cW(i:Nat)(C:Addr)(fld:Str)(fv:ad->Res D):ad->FOut:=fun ρ=>match ρ[i]? with
 |some (some (.slf p C' fs))=>aft (fv ρ) fun d=>if C'≠C\/d.tag=.b\/1000<=fs.length then .bad else .nx (ρ.set i (some (.slf p C' (fW fld d.fz fs))))
 |_=>.bad
theorem fy{i:Nat}{x:Str}{p1:Pos}(ho:PV X (.Name x p1) i)(hv:FE X H0 Ex value fv)(c:Cls X.K C)(na:NoAttr X.K C fld)(hs:swapsWith value (some (.Attribute (.Name x p1) fld pos')) pos.line X.env=pure false:=by rfl) :
    FS X H0 Ex (.Assign [.Attribute (.Name x p1) fld pos'] value pos) (cW i C fld fv):=by
 refine ⟨PS.pre (tp ho.go hv.go hs) ?_⟩;rintro En σ H ⟨Hs,ρ,⟨S,n⟩,p⟩;unfold cW at p;split at p
 ·rename_i q C' fs hx
  refine ⟨Hs,ρ,[],S,(PostS.aft p).imp fun d _ p1 v H1 S1=>?_⟩;split at p1
  ·exact p1.elim
  ·rename_i hc
   have hC:C'=C:=Decidable.byContradiction fun z=>hc (.inl z);subst hC;have hb:d.tag≠.b:=fun z=>hc (.inr (.inl z));have S1:SR Hs H0 H1 (some v::σ) (some d::ρ):=S1;obtain ⟨dx,fvs,hσ,hH,hl,S2⟩:=(S1.frz hb).setField (f:=fld) d.fz_tag n hx;refine ⟨.ref q,hσ,q,C',dx,fvs,rfl,hH,c,na,?_,p1 σ _ ⟨S2,n.set fun d' z=>by cases z;exact fun y=>nomatch y⟩⟩;rw[hl];exact Nat.lt_of_not_le fun z=>hc (.inr (.inr z))
 ·exact p.elim
def d8(H:Hp)(x dx:Addr):Hp:=fun a=>if a=x\/a=dx then none else H a
theorem nc{H:Hp}{x dx:Addr}:Same (d8 H x dx) H:=fun a o e=>by
 unfold d8 at e;split at e
 ·cases e
 ·exact e
def spI(C:Addr)(n:Nat)(F:Addr->List D->Res (List (Str × D))):Sp:=fun vs H Q E=>∃ Hs us ds x dx,vs=.ref x::us/\ds.length=n/\x≠dx/\H x=some (.ins C dx [])/\H dx=some (.own x)/\Hs x=none/\Hs dx=none/\Same Hs H/\Reps Hs us ds/\(∀ d∈ds,d.tag=.f) ∧
 match F x ds with
 | .ok fs=>∀ H',SR Hs (d8 H x dx) H' [some (.ref x)] [some (.slf x C fs)]->Q .non H'
 | .exc Cx=>∀ H',Same (d8 H x dx) H'->E Cx none H'
 | .bad=>False
def bY(C:Addr)(N:Nat)(g:ad->FOut)(x:Addr)(ds:List D):Res (List (Str × D)):=match g (some (D.slf x C [])::(ds.map some++List.replicate (N - (ds.length+1)) none)) with
 | .nx ρ=>match ρ[0]? with
  |some (some (D.slf y C' fs))=>if y=x/\C'=C then .ok fs else .bad
  |_=>.bad
 | .exc Cx=>.exc Cx
 |_=>.bad
theorem ot{P:Program}{w:World}{K:PySem.W.Frag}{mg:Str->Option Value}{base:Heap}{x qual:Str}{st:Stmt}{f:Addr}{fd:FuncData}{N ps:List Str}{k n:Nat}{g:ad->FOut}(U:Fun K x qual st f fd)(S:FnScope N ps (ar st))(hn:ps.length=n+1)
    (hbody:∀ (cdv:Value) (A:Around) (outer:List Env) (s:Shared) (H H0:Hp) (E:XK) (Ex:Value->Prop),(∀ C H',Ex C->Same H0 H'->E C none H')->Room k (A.deeper (envOfC qual (ar st) s.heap.objs.size f cdv)) →
     FSs (cxm P w K mg base N qual (ar st) f cdv A outer s H E) H0 Ex (bw st) g) :
    FnOk P w K mg base (CXm P w) (k+1) f fd ps (spI C n (bY C N.length g)):=by
 refine Fun.okX U S (fun vs H Q E h=>?_) (fun cdv A outer s H vs Q E hr h=>?_)
 ·obtain ⟨Hs,us,ds,a,da,rfl,hl,_,_,_,_,_,_,R,_⟩:=h
  rw[List.length_cons,R.length,hl,hn]
 ·obtain ⟨Hs,us,ds,a,da,rfl,hl,hne,ha,hda,sa,sda,sH,R,ht,p⟩:=h
  have hg:=hbody cdv A outer s H (d8 H a da) E (fun C'=>bY C N.length g a ds=.exc C') (fun C' H' e sm=>by rw[e] at p;exact p H' sm) hr;refine ⟨_,hg.go,Hs,some (.slf a C [])::(ds.map some++List.replicate (N.length - (ds.length+1)) none),⟨⟨Hs,[a,da]++[],?_,?_,?_,sH,nc,Same.refl _,fun b o e=>.inl ⟨o,e⟩⟩,?_⟩,?_⟩
  ·have:=d7 (Hs:=Hs) (H:=H) (N.length - (ds.length+1)) R ht
   unfold L2.dM;rw[List.length_cons,R.length];exact .cons (.slf ha hda .nil) this
  ·simp[hne]
  ·intro b m
   simp at m;rcases m with rfl | rfl
   ·exact ⟨sa,by unfold d8;rw[if_pos (.inl rfl)]⟩
   ·exact ⟨sda,by unfold d8;rw[if_pos (.inr rfl)]⟩
  ·intro d m
   rcases List.mem_cons.mp m with z | m
   ·cases z;exact fun y=>nomatch y
   rcases List.mem_append.mp m with m | m
   ·obtain ⟨d',m',e⟩:=List.mem_map.mp m
    cases e
    rw[ht d m'];decide
   ·rw[List.mem_replicate] at m;cases m.2
  ·cases eg:g (some (D.slf a C [])::(ds.map some++List.replicate (N.length - (ds.length+1)) none)) with
   |nx ρ'=>
    have e1:bY C N.length g a ds=(match ρ'[0]? with
     |some (some (D.slf y C' fs))=>if y=a/\C'=C then .ok fs else .bad
     |_=>.bad):=by unfold bY;rw[eg]
    rw[e1] at p;split at p
    ·rename_i fs hq
     split at hq
     ·rename_i y C' fs' hy
      split at hq
      ·rename_i hc
       obtain ⟨rfl,rfl⟩:=hc
       cases hq
       intro σ' H' S';obtain ⟨v,hv,S2⟩:=S'.1.move hy (fun z=>nomatch z);have S3:=SR.only (vs':=[]) (ds':=[]) S2;have hh:=S3.head
       cases hh
       exact p H' S3
      ·cases hq
     ·cases hq
    ·rename_i Cx hq
     split at hq
     ·split at hq<;>cases hq
     ·cases hq
    ·exact p.elim
   |exc C'=>show bY C N.length g a ds=.exc C';unfold bY;rw[eg]
   | rt d => have e1 : bY C N.length g a ds = .bad := by unfold bY; rw [eg]
             rw[e1] at p;exact p.elim
   | bk ρ' => have e1 : bY C N.length g a ds = .bad := by unfold bY; rw [eg]
              rw[e1] at p;exact p.elim
   | ct ρ' => have e1 : bY C N.length g a ds = .bad := by unfold bY; rw [eg]
              rw[e1] at p;exact p.elim
   | bad => have e1 : bY C N.length g a ds = .bad := by unfold bY; rw [eg]
            rw[e1] at p;exact p.elim
open Classical in
def dX(F:Addr->List D->Res (List (Str × D)))(ds:List D):Res (List (Str × D)):=if h:∃ r,∀ x,F x ds=r then choose h else .bad
theorem ou{F:Addr->List D->Res (List (Str × D))}{ds:List D}{r:Res (List (Str × D))}(h:∀ x,F x ds=r):dX F ds=r:=by
 unfold dX;rw[dif_pos ⟨r,h⟩];have:=Classical.choose_spec (⟨r,h⟩:∃ r,∀ x,F x ds=r);rw[<- this 0,h 0]
theorem ox{F:Addr->List D->Res (List (Str × D))}{ds:List D}(h:dX F ds≠.bad)(x:Addr):F x ds=dX F ds:=by
 unfold dX at h ⊢;split
 ·rename_i q
  exact Classical.choose_spec q x
 ·rename_i q
  rw[dif_neg q] at h;exact absurd rfl h
structure Mak (P:Program) (w:World) (K:PySem.W.Frag) (mg:Str->Option Value) (base:Heap) (x:Str) (C:Addr) (n:Nat) (F:Addr->List D->Res (List (Str × D))) (k:Nat):Prop where
 ex:∃ f fd ps,FnOk P w K mg base (CXm P w) k f fd ps (spI C n F)/\mg x=some (.ref C)/\Mk K C f/\Binds K fd ps []
def ng(C:Addr)(n:Nat)(F:Addr->List D->Res (List (Str × D)))(fa:ad->Res (List D)):ad->Res D:=fun ρ=>fa ρ >>= fun ds=>if ds.length=n/\nb ds=true then dX F (D.fzs ds) >>= fun fs=>.ok (.ins .f C fs) else .bad
theorem rF{x:Str}{n k:Nat}{F:Addr->List D->Res (List (Str × D))}{p pos:Pos}{e:Expr}{es:List Expr}{fa:ad->Res (List D)}(c:Mak X.prog X.w X.K X.mg X.base x C n F k)(hx:Pa X H0 Ex)(hr:Room (k+1) X.A)(hg:Gl X x)(ha:FA X H0 Ex (e::es) fa)
    (hdb:(x == ("__debug__" : Str))=false:=by decide) (he:starEach (e::es) X.env=(false,eval e X.env)::starEach es X.env:=by rfl) (hpl:(backTo pos (starEach es X.env)).any (·.1)=false:=by rfl) :
    FE X H0 Ex (.Call (.Name x p) (e::es) [] pos) (ng C n F fa):=by
 obtain ⟨f,fd,ps,G,hm,hk,hb⟩:=c.ex;refine ⟨PE.pre (qY (dvs:=[]) (E:=Exk H0 Ex) hk G hr hg hm hb .nil hx.go ha.go hdb he hpl) ?_⟩;rintro σ H Q ⟨Hs,ρ,ts,S,p⟩;refine ⟨Hs,ρ,ts,S,(Post.bind p).imp fun ds _ p1 us H1 hl S1=>?_⟩;split at p1
 ·rename_i hc
  obtain ⟨hn,hnb⟩:=hc;intro a da ha hda hne;rw[List.append_nil];have S2:=SX.held hl S1;obtain ⟨Hf,fp,O,G2,R⟩:=S2.frozen hl (iW hnb);have hfa:Hf a=none:=(G2.fresh ha).1;have hfda:Hf da=none:=(G2.fresh hda).1;have sUp:Same H1 (upd (upd H1 da (.own a)) a (.ins C da [])):=fun b o e=>by
   rw[aH (aY e ha),aH (aY e hda)];exact e
  have hless:d8 (upd (upd H1 da (.own a)) a (.ins C da [])) a da=H1:=by
   funext b;unfold d8;by_cases h1:b=a\/b=da
   ·rw[if_pos h1]
    rcases h1 with rfl | rfl
    ·exact ha.symm
    ·exact hda.symm
   ·rw[if_neg h1,aH (fun z=>h1 (.inl z)),aH (fun z=>h1 (.inr z))]
  have hnbad:dX F (D.fzs ds)≠.bad:=fun z=>by rw[z] at p1;exact p1.elim
  refine ⟨Hf,us,D.fzs ds,a,da,rfl,by rw[eh];exact hn,Ne.symm hne,bg,by rw[aH hne];exact bg,hfa,hfda,G2.fh.trans sUp,R,dz ds,?_⟩;rw[ox hnbad a,hless]
  cases ef:dX F (D.fzs ds) with
  |bad=>exact absurd ef hnbad
  |exc Cx=>rw[ef] at p1;exact fun H' s=>⟨p1,S2.same.trans s⟩
  |ok fs=>
   rw[ef] at p1;intro H' S3;have S4:=S3.frz (fun z=>nomatch z);exact ⟨rfl,p1 _ H' (SR.told O G2 S4 (fun z=>nomatch z))⟩
 ·exact p1.elim
end
section
variable {X:Cx}{Ex:Value->Prop}{H0:Hp}{a b c e tg:Expr}{f fa fb fc:ad->Res D}{pos:Pos}
def bD(p p':Int->Int->Bool)(fa fb fc:ad->Res D):ad->Res D:=fun ρ=>fa ρ >>= fun x=>fb ρ >>= fun y=>match x,y with
 | .int i,.int j=>if p i j=true then fc ρ >>= fun z=>match z with
  | .int k=>.ok (.bl (p' j k))
  |_=>.bad
  else .ok (.bl false)
 |_,_=>.bad
theorem lh{p p':Int->Int->Bool}{σ:St}{H:Hp}{Q:VK}(h:TEF H0 Ex (bD p p' fa fb fc) σ H Q) :
    kM (rI0 fun i j=>.bl (p i j)) (rI0 fun i j=>.bl (p' i j)) (TEF H0 Ex fa) (TEF H0 Ex fb) (TEF H0 Ex fc) σ H Q:=by
 obtain ⟨Hs,ρ,ts,S,p0⟩:=h;refine ⟨Hs,ρ,ts,S,(Post.bind p0).imp fun d1 _ p1 v1 H1 S1=>⟨Hs,ρ,(v1,d1)::ts,S1,(Post.bind p1).imp fun d2 _ p2 v2 H2 S2=>?_⟩⟩;have S2:SR Hs H0 H2 (some v2::some v1::(tvs ts++σ)) (some d2::some d1::(tds ts++ρ)):=S2
 cases d1 with
 |int i=>
  cases d2 with
  |int j=>
   cases SR.isInt S2
   cases SR.isInt S2.drop
   refine ⟨i,j,rfl,rfl,p i j,rfl,?_⟩;have p2:Post Ex (if p i j=true then fc ρ >>= fun z=>match z with
    | .int k=>.ok (.bl (p' j k))
    |_=>.bad
    else .ok (.bl false)) fun d=>∀ v H',SX Hs H0 H' ((v,d)::ts) σ ρ->Q v H':=p2
   by_cases hc:p i j=true
   ·rw[if_pos hc] at p2 ⊢
    refine ⟨Hs,ρ,ts,S2.drop.drop,(Post.bind p2).imp fun d3 _ p3 v3 H3 S3=>?_⟩
    cases d3 with
    |int k=>
     have S3:SR Hs H0 H3 (some v3::(tvs ts++σ)) (some (.int k)::(tds ts++ρ)):=S3
     cases SR.isInt S3
     exact ⟨j,k,rfl,rfl,p3 _ H3 S3.drop.bl⟩
    |_=>exact p3.elim
   ·rw[if_neg hc] at p2 ⊢
    exact p2 _ H2 S2.drop.drop.bl
  |_=>exact p2.elim
 |_=>exact p2.elim
theorem pV{op op':CmpOp}{p p':Int->Int->Bool}(ho:OpR X (compareOp op) (rI0 fun i j=>.bl (p i j)))(ho':OpR X (compareOp op') (rI0 fun i j=>.bl (p' i j)))(ha:FE X H0 Ex a fa)(hb:FE X H0 Ex b fb)(hc:FE X H0 Ex c fc)
    (hm:lastMarks [op,op'] [b,c]=false:=by with_unfolding_all rfl):FE X H0 Ex (.Compare a [op,op'] [b,c] pos) (bD p p' fa fb fc):=
 ⟨PE.pre (pG ho ho' ha.go hb.go hc.go hm) fun _ _ _ h=>lh h⟩
theorem eG{op op':CmpOp}{p p':Int->Int->Bool}(ho:OpR X (compareOp op) (rI0 fun i j=>.bl (p i j)))(ho':OpR X (compareOp op') (rI0 fun i j=>.bl (p' i j)))(ha:FE X H0 Ex a fa)(hb:FE X H0 Ex b fb)(hc:FE X H0 Ex c fc)
    (hm:lastMarks [op,op'] [b,c]=false:=by with_unfolding_all rfl):FT X H0 Ex (.Compare a [op,op'] [b,c] pos) (ftB (bD p p' fa fb fc)):=by
 refine ⟨PT.pre (pH ho ho' ha.go hb.go hc.go hm) ?_⟩;rintro σ H Q ⟨Hs,ρ,ts,S,p⟩;refine lh ⟨Hs,ρ,ts,S,(Post.bind p).imp fun d _ p1 v H1 S1=>?_⟩;obtain ⟨b,rfl,k⟩:=k6 p1;exact ⟨b,SR.isBl S1,k H1 S1.drop⟩
def tyN:D->Option String
 | .non=>some "NoneType"
 | .bl _=>some "bool"
 | .int _=>some "int"
 | .str _=>some "str"
 | .lst _ _=>some "list"
 | .scr _=>some "list"
 | .tup _=>some "tuple"
 | .dic _ _=>some "dict"
 |_=>none
def dP(t T:String):Bool:=t == T||(t == "bool" && T == "int")
def iF(T:String):D->Res D:=fun d=>match tyN d with
 |some t=>.ok (.bl (dP t T))
 |none=>.bad
def KT(K:PySem.W.Frag)(T:String):Prop:=∀ t∈["NoneType", "bool", "int", "str", "list", "tuple", "dict"],PySem.W.kitOne K (.type t) (.type T)=some (dP t T)
theorem tZ{K:PySem.W.Frag}{H:Hp}{v:V}{d:D}{t:String}(r:Rep H v d)(h:tyN d=some t):TyOf K H v (.type t)/\t∈["NoneType", "bool", "int", "str", "list", "tuple", "dict"]:=by
 cases r with
 |non=>cases h;exact ⟨.non,by decide⟩
 |bl=>cases h;exact ⟨.bl _,by decide⟩
 |int=>cases h;exact ⟨.int _,by decide⟩
 |str=>cases h;exact ⟨.str _,by decide⟩
 |lst q _=>cases h;exact ⟨.lst q,by decide⟩
 |tup q _=>cases h;exact ⟨.tup q,by decide⟩
 |dic q _=>cases h;exact ⟨.dT q,by decide⟩
 |scr q=>cases h;exact ⟨.frz q,by decide⟩
 |ins _ _=>cases h
 |slf _ _=>cases h
theorem pW{T:String}(hK:KT X.K T):CallR X (.builtin "isinstance") fun us H Q=>∃ x t,us=[x,.ty T]/\TyOf X.K H x (.type t)/\t∈["NoneType", "bool", "int", "str", "list", "tuple", "dict"]/\Q (.bl (dP t T)) H:=by
 intro pins s σ H xs us Q I r h;obtain ⟨x,t,rfl,ty,ht,q⟩:=h
 cases r with
 |cons r1 r2=>
  cases r2 with
  |cons r3 r4=>
   cases r4
   cases r3
   exact nW I r1 ty (hK t ht) fun tk=>⟨.bl _,H,I.tok tk,rfl,q⟩
theorem oy{T:String}{x:Str}{p p2:Pos}(hK:KT X.K T)(he:FE X H0 Ex e f)(hg:Gl X "isinstance")(hm:X.mg "isinstance" = none)(hgT:Gl X x)(hmT:X.mg x=none)(hv:bootBuiltins x=some (.type T))(hn:x ≠ "__name__" := by decide)(hd:(x == ("__debug__" : Str))=false:=by decide)
    (h1:starEach [e,.Name x p2] X.env=(false,eval e X.env)::starEach [.Name x p2] X.env:=by rfl) (h2:starEach [.Name x p2] X.env=(false,eval (.Name x p2) X.env)::starEach [] X.env:=by rfl) (h3:(backTo pos (starEach [.Name x p2] X.env)).any (·.1)=false:=by rfl) :
    FE X H0 Ex (.Call (.Name "isinstance" p) [e,.Name x p2] [] pos) (f1 (iF T) f):=by
 have hb:bootBuiltins "isinstance" = some (.builtin "isinstance"):=by decide +kernel
 refine ⟨PE.pre (kO (pW hK) hg hm hb (b8 he.go (b8 (qN (v:=.ty T) hgT hmT hv rfl hn hd) dk h2) h1) (by decide) (by decide) h1 h3) ?_⟩;rintro σ H Q ⟨Hs,ρ,ts,S,p⟩;refine ⟨Hs,ρ,ts,S,(Post.bind p).imp fun d _ p1 v H1 S1=>?_⟩;unfold iF at p1;split at p1
 ·rename_i t ht
  have S1:SR Hs H0 H1 (some v::(tvs ts++σ)) (some d::(tds ts++ρ)):=S1;obtain ⟨ty,hm⟩:=tZ (K:=X.K) S1.head ht;exact ⟨v,t,rfl,ty,hm,p1 _ H1 S1.drop.bl⟩
 ·exact p1.elim
def pX(i j:Nat)(fa:ad->Res (List D)):ad->FOut:=fun ρ=>aft (fa ρ) fun ds=>match ds with
 | [d,d']=>if d.tag=.b\/d'.tag=.b\/ρ.length<=i\/ρ.length<=j then .bad else .nx ((ρ.set i (some d.fz)).set j (some d'.fz))
 |_=>.bad
theorem t0{i j:Nat}{x y:Str}{fa:ad->Res (List D)}{px py pt:Pos}{kt k2 pt2}(hc:X.calm=true)(hN:X.N.Nodup)(hi:X.N[i]?=some x)(hj:X.N[j]?=some y)(hij:i≠j)
    (hx:X.env.scope.names.lookup x=some .local) (hy:X.env.scope.names.lookup y=some .local) (ha:FA X H0 Ex [a,b] fa)
    (hw:swappedStores [.Tuple [.Name x px,.Name y py] kt pt] (.Tuple [a,b] k2 pt2) X.env=pure (some [x,y]))
    (hs:swapsWithSole [.Tuple [.Name x px,.Name y py] kt pt] (.Tuple [a,b] k2 pt2) pos.line X.env=pure false:=by rfl) :
    FS X H0 Ex (.Assign [.Tuple [.Name x px,.Name y py] kt pt] (.Tuple [a,b] k2 pt2) pos) (pX i j fa):=by
 refine ⟨PS.pre (sS hc hN hi hj hij hx hy ha.go hw hs) ?_⟩;rintro En σ H ⟨Hs,ρ,⟨S,n⟩,p⟩;refine ⟨Hs,ρ,[],S,(PostS.aft p).imp fun ds _ p1 us H1 hl S1=>?_⟩;split at p1
 ·rename_i d d' _
  split at p1
  ·exact p1.elim
  ·rename_i hb
   obtain ⟨u,w,rfl⟩:=la hl rfl;have S2:SR Hs H0 H1 (some w::some u::σ) (some d'::some d::ρ):=SX.held hl S1;have hd:d.tag≠.b:=fun z=>hb (.inl z);have hd':d'.tag≠.b:=fun z=>hb (.inr (.inl z));have hi':i<ρ.length:=Nat.lt_of_not_le fun z=>hb (.inr (.inr (.inl z)));have hj':j<ρ.length:=Nat.lt_of_not_le fun z=>hb (.inr (.inr (.inr z)))
   have S3:=SR.set (S2.frz hd') (by rw[d'.fz_tag];decide) (i:=j+1) (by simpa using hj');have S3:SR Hs H0 H1 (some u::σ.set j (some w)) (some d::ρ.set j (some d'.fz)):=S3;have S4:=SR.set (S3.frz hd) (by rw[d.fz_tag];decide) (i:=i) (by simpa using hi');refine ⟨u,w,rfl,p1 _ H1 ⟨?_,?_⟩⟩
   ·rw[List.set_comm _ _ hij,List.set_comm (some d.fz) (some d'.fz) hij];exact S4
   ·exact (n.set fun d0 z=>by cases z;rw[d.fz_tag];decide).set fun d0 z=>by cases z;rw[d'.fz_tag];decide
 ·exact p1.elim
end
theorem rG{K:PySem.W.Frag}{prog:Program}{w:World}{A:Around}{E:Value->Shared->Prop}{s:Shared}{Q:Value->Shared->Prop}{e C:Addr}{c:Value}{oe:Obj}(hK:K.In s.heap)(he:s.heap.get? e=some oe)(hc:oe.cls=.ref C)
    (q:PySem.W.kitOne K (.ref C) c=some true) (h:∀ tk,Q (.bool true) { s with toks:=tk }):wpAny (model prog w) A (call (.builtin "isinstance") [.ref e,c]) Q E s:=by
 refine call_isinstance (S:=fun _ R s=>(K.In s.heap/\s.heap.get? e=some oe)/\∀ tk,R (.ok (.ret (.bool true))) { s with toks:=tk }) (fun prog w A R s hs=>isinstance_outer ?_ (fun z=>nomatch z)) ⟨⟨hK,he⟩,h⟩;obtain ⟨h0,g,d,tt,os⟩:=s;obtain ⟨⟨hK,he⟩,hq⟩:=hs;have LT:PySem.W.Looks (model prog w) h0 (typeOf (.ref e)) (.ref C):=hc ▸ (PySem.W.Looks.ld he).andThen .now;unfold PySem.W.kitOne at q
 unfold Builtin.«isinstance.nested»;refine wpAny_bind (LT.at ?_);by_cases z:(Value.ref C == c)=true
 ·rw[if_pos z]
  first
   |exact wpAny_bind (wpAny_rule (hq tt))
   |exact wpAny_bind (wpAny_rule (wpAny_pure (hq tt)))
 ·rw[if_neg z] at q
  rw[if_neg z];obtain ⟨hty,his,hsub⟩:=PySem.W.kit_cls (M:=model prog w) hK q;have LI:PySem.W.Looks (model prog w) h0 (isInstance (.ref e) c) true:=LT.andThen hsub;refine wpAny_bind (hty.at ?_);rw[if_pos (by decide)];k_delta "plainIsInstance";refine wpAny_bind (wpAny_bind (his.at ?_));simp only[Bool.not_true,Bool.false_eq_true,if_false];refine wpAny_bind (LI.at ?_)
  first
   |exact wpAny_pure (wpAny_pure (hq tt))
   | (simp only[if_true];first | exact wpAny_pure (wpAny_pure (hq tt)) | exact wpAny_pure (hq tt) | exact wpAny_bind (wpAny_pure (wpAny_pure (hq tt))))
def Fly(h0:Heap)(st:List Env)(a T:Addr)(C:Value)(h:Heap):Prop:=
 ∃ a0,Heap.FlyingW (PySem.W.hideAll h0 (a::T::frs st)) st a C a0 h/\h0.UpToSlots h
section
variable {X:Cx}{pins:List (Addr × Obj)}{σ:St}{H1 H':Hp}{s1 s':Shared}{a T:Addr}{C:Value}{h:Heap}
theorem mf{tk:Nat}(I:Inv X pins σ H1 s1)(hos:s'.os=s1.os)(bare:AllBare s'.gens)(u:Un (frs X.stack) [] H1 H' s1.heap s'.heap)(hok:HOk X.prog X.w H' s'.heap)(ha:H' a=none)(hT:H' T=none)(na:s1.heap.get? a=none)(nT:s1.heap.get? T=none)
    (F:Fly s'.heap X.stack a T C h):Inv X pins σ H' { s' with heap:=h,toks:=tk }:=by
 obtain ⟨a0,⟨st,_,_,_⟩,up⟩:=F;have kB:∀ b o,s'.heap.get? b=some o->b≠a->b≠T->b∉frs X.stack->h.get? b=some o:=fun b o e h1 h2 h3=>st b o (PySem.W.hideAll_get _ e fun m=>by
  rcases List.mem_cons.mp m with z | m
  ·exact h1 z
  ·exact (List.mem_cons.mp m).elim h2 h3)
 have frN:∀ b∈frs X.stack,H' b=none:=fun b m=>by
  obtain ⟨_,o,ho,_⟩:=I.stack.mem m;exact u.free b o ho (I.stkFree b m) (by simp)
 have FF:s'.heap.FunFrames X.base X.stack:=dW u (fun _ m=>m) (fun b m=>I.stkFree b m) I.stack;have ne:∀ b o,s1.heap.get? b=some o->b≠a/\b≠T:=fun b o e=>⟨fun z=>(by rw[z,na] at e;cases e),fun z=>(by rw[z,nT] at e;cases e)⟩
 have slotB:∀ b o,s'.heap.get? b=some o->b∈frs X.stack->∃ sl,h.get? b=some { o with slots:=sl }:=fun b o e m=>by
  obtain ⟨_,o',ho',hd⟩:=FF.mem m;rw[e] at ho'
  cases ho'
  exact up b o e hd
 refine I.call' (s':={ s' with heap:=h,toks:=tk }) (ch:=[]) hos ⟨fun b o e n hb hx=>?_,fun b o e n hb hx=>?_,u.free,fun b o e hx=>?_,u.tups,u.frzs,u.tbls⟩ (fun b ob e=>?_) bare (fun _ z=>nomatch z)
 ·exact kB b o (u.keep b o e n hb hx) (ne b o e).1 (ne b o e).2 hb
 ·obtain ⟨sl,e1⟩:=u.slot b o e n hb hx
  obtain ⟨sl2,e2⟩:=slotB b _ e1 hb;exact ⟨sl2,e2⟩
 ·obtain ⟨o1,e1⟩:=u.there b o e hx
  by_cases hst:b∈frs X.stack
  ·obtain ⟨sl2,e2⟩:=slotB b _ e1 hst
   exact ⟨_,e2⟩
  ·exact ⟨o1,kB b o1 e1 (ne b o e).1 (ne b o e).2 hst⟩
 ·refine (hok b ob e).stay (fun c v hc q=>kB c v q ?_ ?_ ?_) (fun _ q=>q) fun _ _ q=>q
  ·rintro rfl
   rcases hc with rfl | hc
   ·rw[ha] at e;cases e
   ·rw[ha] at hc;cases hc
  ·rintro rfl
   rcases hc with rfl | hc
   ·rw[hT] at e;cases e
   ·rw[hT] at hc;cases hc
  ·intro m
   have:=frN c m;rcases hc with rfl | hc
   ·rw[this] at e;cases e
   ·rw[this] at hc;cases hc
theorem Inv.gone{m:Str->Option Value}{tk:Nat}(I:Inv X pins σ H1 s1)(hn:h.Ns X.env.locals m)(hs:Heap.SameBut X.env.locals s1.heap h):Inv X pins (List.replicate X.N.length none) H1 { s1 with heap:=h,toks:=tk }:=by
 obtain ⟨m0,hn0,_⟩:=id I.loc;obtain ⟨oL,_,_,hoL,_⟩:=id hn0;refine ⟨I.ok,I.os,I.bare,⟨fun b o e n hb hx=>?_,fun b o e n hb hx=>?_,I.base.free,fun b o e hx=>?_,I.base.tups,I.base.frzs,I.base.tbls⟩,⟨m,hn,fun j y v' e1 e2 e3=>?_⟩,fun y c e=>?_,I.free,I.freeC,fun p hp=>?_,fun b ob e=>?_,by simp⟩
 ·exact (hs.2 b (Nat.ne_of_lt (Nat.lt_of_lt_of_le (Heap.lt_size e) I.ok.above))).trans (I.base.keep b o e n hb hx)
 ·obtain ⟨sl,e1⟩:=I.base.slot b o e n hb hx
  exact ⟨sl,(hs.2 b (Nat.ne_of_lt (Nat.lt_of_lt_of_le (Heap.lt_size e) I.ok.above))).trans e1⟩
 ·obtain ⟨o',e1⟩:=I.base.there b o e hx
  exact ⟨o',(hs.2 b (Nat.ne_of_lt (Nat.lt_of_lt_of_le (Heap.lt_size e) I.ok.above))).trans e1⟩
 ·have:=List.mem_of_getElem? e2
  rw[List.mem_replicate] at this
  cases this.2
 ·obtain ⟨w',z⟩:=I.cell y c e
  exact ⟨w',z.sameBut hs (I.cne y c e)⟩
 ·obtain ⟨e,n,ne,nf,d⟩:=I.pin p hp
  exact ⟨(hs.2 p.1 ne).trans e,n,ne,nf,d⟩
 ·refine (I.hok b ob e).stay (fun c w' hc q=>(hs.2 c ?_).trans q) (fun _ q=>q) fun _ _ q=>q
  rintro rfl;rcases hc with rfl | hc
  ·rw[I.free] at e;cases e
  ·rw[I.free] at hc;cases hc
end
abbrev Cx.att(X:Cx)(E:Value->Shared->Prop)(pn:List (Addr × Obj)):Cx:={ X with xe:=E,pn:=pn }
abbrev Cx.han(X:Cx)(a:Addr)(E:Value->Shared->Prop):Cx:={ X with A:=X.A.mark (some (.ref a)),calm:=false,xe:=E }
section
variable {X:Cx}{pins pins':List (Addr × Obj)}{σ:St}{H:Hp}{s:Shared}{E:Value->Shared->Prop}
theorem Cx.Ok.att{pn}(ok:X.Ok):(Cx.att X E pn).Ok:=⟨ok.mod,ok.kind,ok.glob,ok.blt,ok.above,ok.inj,ok.has,ok.cab,ok.hd,ok.frames,ok.stk,ok.exf,ok.bs,ok.bsz,ok.noex,ok.exfs,ok.funs,ok.frf⟩
theorem Cx.Ok.unatt{pn}(ok:(Cx.att X E pn).Ok):X.Ok:=⟨ok.mod,ok.kind,ok.glob,ok.blt,ok.above,ok.inj,ok.has,ok.cab,ok.hd,ok.frames,ok.stk,ok.exf,ok.bs,ok.bsz,ok.noex,ok.exfs,ok.funs,ok.frf⟩
theorem Inv.att(I:Inv X pins σ H s):Inv (Cx.att X E (X.pn++pins)) [] σ H s:=⟨Cx.Ok.att I.ok,I.os,I.bare,I.base,I.loc,I.cell,I.free,I.freeC,fun p hp=>I.pin p (by simpa using hp),I.hok,I.len⟩
theorem Inv.unatt(I:Inv (Cx.att X E (X.pn++pins)) pins' σ H s):Inv X pins σ H s:=⟨Cx.Ok.unatt I.ok,I.os,I.bare,I.base,I.loc,I.cell,I.free,I.freeC,fun p hp=>I.pin p (List.mem_append_left _ hp),I.hok,I.len⟩
theorem SP.unatt{D:Ends}{f:Flow}(h:SP (Cx.att X E (X.pn++pins)) pins' D f s):SP X pins D f s:=by
 cases f with
 |next=>obtain ⟨σ,H,I,q⟩:=h;exact ⟨σ,H,Inv.unatt I,q⟩
 |brk=>obtain ⟨σ,H,I,q⟩:=h;exact ⟨σ,H,Inv.unatt I,q⟩
 |cont=>obtain ⟨σ,H,I,q⟩:=h;exact ⟨σ,H,Inv.unatt I,q⟩
 |ret u=>obtain ⟨v,σ,H,I,r,q⟩:=h;exact ⟨v,σ,H,Inv.unatt I,r,q⟩
theorem Inv.han{a:Addr}(I:Inv X pins σ H s):Inv (Cx.han X a E) pins σ H s:=⟨⟨I.ok.mod,I.ok.kind,I.ok.glob,I.ok.blt,I.ok.above,I.ok.inj,I.ok.has,I.ok.cab,(fun z=>nomatch z),I.ok.frames,I.ok.stk,I.ok.exf,I.ok.bs,I.ok.bsz,I.ok.noex,I.ok.exfs,I.ok.funs,I.ok.frf⟩,I.os,I.bare,I.base,I.loc,I.cell,I.free,I.freeC,I.pin,I.hok,I.len⟩
theorem Inv.unhan{a:Addr}(I:Inv (Cx.han X a E) pins σ H s)(ok:X.Ok):Inv X pins σ H s:=⟨ok,I.os,I.bare,I.base,I.loc,I.cell,I.free,I.freeC,I.pin,I.hok,I.len⟩
theorem nh{i:Nat}{n dn:Str}{a C Dc:Addr}{oe:Obj}{p2 p3 p4 p5 p6:Pos}(I:Inv X ((a,oe)::pins) σ H s)(hc:oe.cls=.ref C)(hσ:σ[i]?=some (some (.ref a)))(hi:X.N[i]?=some n)(hv:Vis X.env.scope n)
    (hg:Gl X "isinstance") (hm:X.mg "isinstance" = none) (hgD:Gl X dn) (hmD:X.mg dn=some (.ref Dc)) (hk:PySem.W.kitOne X.K (.ref C) (.ref Dc)=some true) (hd:(n == ("__debug__" : Str))=false) (hcd:(n == ("__classdict__" : Str))=false) (hdD:(dn == ("__debug__" : Str))=false)
    (h1:starEach [.Name n p3,.Name dn p4] X.env=(false,eval (.Name n p3) X.env)::starEach [.Name dn p4] X.env) (h2:starEach [.Name dn p4] X.env=(false,eval (.Name dn p4) X.env)::starEach [] X.env) (h3:(backTo p5 (starEach [.Name dn p4] X.env)).any (·.1)=false) :
    wpAny (model X.prog X.w) X.A (execs [.Return (some (.Call (.Name "isinstance" p2) [.Name n p3,.Name dn p4] [] p5)) p6] X.env) (fun f s6=>f=.ret (.bool true)/\Inv X ((a,oe)::pins) σ H s6) X.xe s:=by
 have hb:bootBuiltins "isinstance" = some (.builtin "isinstance"):=by decide +kernel
 refine wpAny_execs_cons (thn (wpAny_Return_some (Q:=fun f s6=>f=.ret (.bool true)/\Inv X ((a,oe)::pins) σ H s6) ?_) fun f s6 q=>?_)
 ·refine wpAny_Call_Name_kw (eo I hg hm hb ?_ (by decide) (by decide))
  have pa:=b8 (X:=X) (nK (pos:=p3) hi hv hd hcd) (b8 (X:=X) (js (pos:=p4) (v:=.ref Dc) hgD hmD rfl hdD) dk h2) h1;refine PyProof.Rows.callWith_builtin1 (thn (pa p5 _ s σ H (fun us H'=>us=[.ref a,.ref Dc]/\H'=H) I ⟨.ref a,hσ,rfl,rfl⟩) fun us s1 ⟨vs,H1,I1,r1,q1⟩=>?_) h1 h3;obtain ⟨rfl,rfl⟩:=q1
  cases r1 with
  |cons ra r2=>
   cases r2 with
   |cons rb r3=>
    cases r3;cases ra;cases rb
    have pn:=I1.pin (a,oe) (List.mem_append_right _ List.mem_cons_self);exact rG I1.kIn pn.1 hc hk fun tk=>⟨rfl,I1.tok tk⟩
 ·obtain ⟨rfl,q⟩:=q
  exact ⟨rfl,q⟩
end
def gy(C:Addr)(g:ad->FOut):ad->FOut:=fun ρ=>match g ρ with
 | .exc (.ref c)=>if c=C then .rt (.bl true) else .bad
 | .exc _=>.bad
 |r=>r
def c7(H:Hp)(fp:List Addr):Hp:=fun b=>if b∈fp then none else H b
theorem j5{H:Hp}{fp:List Addr}{b:Addr}(h:b∉fp):c7 H fp b=H b:=by unfold c7;rw[if_neg h]
theorem ni{H:Hp}{fp:List Addr}:Same (c7 H fp) H:=fun b o e=>by
 unfold c7 at e;split at e
 ·cases e
 ·exact e
theorem Fine.notIn{Hs H0 Hf H:Hp}{fp:List Addr}(F:Fine Hs H0 Hf H fp):Same Hf (c7 H fp)/\Same H0 (c7 H fp):=by
 refine ⟨fun b o e=>?_,fun b o e=>?_⟩
 ·rw[j5 fun m=>by rw[(F.own b m).1] at e;cases e];exact F.fh b o e
 ·rw[j5 fun m=>by rw[(F.own b m).2] at e;cases e];exact F.zh b o e
theorem SR.back{Hs H0 Hf H H':Hp}{fp:List Addr}{vs:List (Option V)}{ds:List (Option D)}(F:Fine Hs H0 Hf H fp)(S:SR Hf (c7 H fp) H' vs ds):SR Hs H0 H' vs ds:=by
 obtain ⟨Hg,fq,O,G⟩:=S;have lo:∀ b,c7 H fp b=none->H0 b=none:=fun b z=>by
  cases e:H0 b with
  |none=>rfl
  |some o=>have:=F.notIn.2 b o e;rw[z] at this;cases this
 refine ⟨Hg,fq,O,G.nd,fun b m=>⟨(G.own b m).1,lo b (G.own b m).2⟩,G.fh,F.notIn.2.trans G.zh,F.sf.trans G.sf,fun b o e=>?_⟩;rcases G.new b o e with ⟨o',z⟩ | z
 ·exact F.new b o' z
 ·exact .inr (lo b z)
section
variable {X:Cx}{Ex:Value->Prop}{H0:Hp}{g:ad->FOut}{body:List Stmt}{i:Nat}{n cn dn:Str}{C Dc:Addr}{p1 p2 p3 p4 p5 p6 p7 pos:Pos}
theorem pY(O:XCls X.K X.mg cn C)(hmD:X.mg dn=some (.ref Dc))(hk:PySem.W.kitOne X.K (.ref C) (.ref Dc)=some true)(hN:X.N.Nodup)(hi:X.N[i]?=some n)(hl:X.env.scope.names.lookup n=some .local)
    (hgC:Gl X cn) (hgI:Gl X "isinstance") (hmI:X.mg "isinstance" = none) (hgD:Gl X dn) (hst:X.stack=X.env::X.outer) (hfl:X.env.frame=some X.env.locals)
    (hb:∀ (E':Value->Shared->Prop) (pn':List (Addr × Obj)) (H0':Hp) (Ex':Value->Prop),Pa (Cx.att X E' pn') H0' Ex'->FSs (Cx.att X E' pn') H0' Ex' body g)
    (hd:(n == ("__debug__" : Str))=false:=by decide) (hcd:(n == ("__classdict__" : Str))=false:=by decide) (hdD:(dn == ("__debug__" : Str))=false:=by decide) (hdC:(cn == ("__debug__" : Str))=false:=by decide)
    (h1:starEach [.Name n p3,.Name dn p4] X.env=(false,eval (.Name n p3) X.env)::starEach [.Name dn p4] X.env:=by rfl) (h2:starEach [.Name dn p4] X.env=(false,eval (.Name dn p4) X.env)::starEach [] X.env:=by rfl) (h3:(backTo p5 (starEach [.Name dn p4] X.env)).any (·.1)=false:=by rfl) :
    FS X H0 Ex (.Try body [.ExceptHandler (some (.Name cn p1)) (some n) [.Return (some (.Call (.Name "isinstance" p2) [.Name n p3,.Name dn p4] [] p5)) p6] p7] [] [] pos) (gy C g):=by
 refine ⟨?_⟩;intro pins s σ H En I h;obtain ⟨Hs,ρ,⟨S,nB⟩,p⟩:=h;obtain ⟨Hf,fp,Ow,F⟩:=S;refine wpAny_Try_except ?_
 let Eh:Value->Shared->Prop:=fun e s₁=>wpAny (model X.prog X.w) X.A (noteFrame e X.env) (fun _ s₂=>wpAny (model X.prog X.w) X.A (setFlight e none) (fun _ s₃=>wpAny (model X.prog X.w) X.A (handleBy e X.env [.ExceptHandler (some (.Name cn p1)) (some n) [.Return (some (.Call (.Name "isinstance" p2) [.Name n p3,.Name dn p4] [] p5)) p6] p7]) (SP X pins En) X.xe s₃) X.xe s₂) X.xe s₁
 let ExB:Value->Prop:=fun C'=>C'=.ref C/\∀ H',Same (c7 H fp) H'->En.rt (.bl true) H';have hPa:Pa (Cx.att X Eh (X.pn++pins)) (c7 H fp) ExB:=by
  refine ⟨?_⟩;intro pins1 σ1 H1 s1 e s' I1 hx;obtain ⟨a,C',H',rfl,hos,bare,u,hok,⟨oe,vs,T,oT,ts,x1,x2,x3,x4,x5,x6,x7,x8,x9,x10,x11,x12⟩,⟨rfl,hrt⟩,sm⟩:=hx;have I1:Inv X pins σ1 H1 s1:=Inv.unatt I1;have u:Un (frs X.stack) [] H1 H' s1.heap s'.heap:=u;have FF:s'.heap.FunFrames X.base X.stack:=dW u (fun _ m=>m) (fun b m=>I1.stkFree b m) I1.stack
  show wpAny (model X.prog X.w) X.A (noteFrame (.ref a) X.env) _ X.xe s';have hsz:1<vs.size:=(Array.getElem?_eq_some_iff.mp x4).1;have h0:vs[0]?=some vs[0]:=Array.getElem?_eq_some_iff.mpr ⟨by omega,rfl⟩
  refine wpAny_looks_onW (base:=PySem.W.hideAll s'.heap (a::T::frs X.stack)) (outer:=X.outer) (L:=X.env.locals) (cls:=.ref C) (a0:=vs[0]) (by rw[I1.ok.frames,hst]) hfl ⟨fun b o e=>PySem.W.of_hideAll _ e,PySem.W.hideAll_none _ (by simp),?_,oe,vs,T,oT,ts,x1,⟨x2,h0⟩,x3,x4,PySem.W.hideAll_none _ (by simp),x5,x6,x7,x8⟩ fun h2' hh2 up2=>?_
  ·rw[<- hst]
   exact PySem.W.funFrames_hide FF fun env he b hb=>List.mem_cons_of_mem _ (List.mem_cons_of_mem _ (List.mem_filterMap.mpr ⟨env,he,hb⟩))
  refine wpAny_landsW (s:={ s' with heap:=h2' }) hh2 fun h3' fl3 up3=>?_;rw[<- hst] at fl3;have F3:Fly s'.heap X.stack a T (.ref C) h3':=⟨vs[0],fl3,up2.trans up3⟩
  have I3:Inv X pins σ1 H' { s' with heap:=h3',toks:=s'.toks }:=mf I1 hos bare u hok x9 x10 x11 x12 F3;obtain ⟨bm,Na,nm,q,bs,hdct,sn,sub,ab,col,dd,k0,k1,k2,k3,k5,mN,hC,hNs,hni,Tl⟩:=O.obj X.base I3.mod.kin;refine wpAny_handleBy_cons (codeAny_handlers_test ?_) (by intro q;cases q);refine fo (X:=Cx.han X a X.xe) (Inv.han I3) hgC O.bound ?_ hdC;have hC3:=I3.bk _ _ hC;obtain ⟨st3,be3,ff3,tr3⟩:=id fl3
  obtain ⟨oe3,he3,hcl3⟩:=tr3.at.there;refine wpAny_excMatches_sub_self hC3 he3 hcl3 (Tl.hasType (by decide)) ?_;refine codeAny_handlers_suite_as ?_;refine wpAny_setFlight_noneW (base:=PySem.W.hideAll s'.heap (a::T::frs X.stack)) (l:=X.stack) (s:={ s' with heap:=h3' }) st3 ff3 tr3.at fun h4' st4 ff4 tr4 k4=>?_
  have F4:Fly s'.heap X.stack a T (.ref C) h4':=⟨vs[0],⟨st4,be3,ff4,tr4⟩,(up2.trans up3).trans fun b o e hn=>⟨o.slots,k4 b o e hn⟩⟩
  have I4:Inv X pins σ1 H' { s' with heap:=h4',toks:=s'.toks }:=mf I1 hos bare u hok x9 x10 x11 x12 F4;obtain ⟨oe4,vs4,T4,oT4,ts4,he4,⟨hcl4,_⟩,hd4,_⟩:=id tr4;have pinned:∀ p∈(a,oe4)::pins,h4'.get? p.1=some p.2/\H' p.1=none/\p.1≠X.env.locals/\p.1∉X.fs/\∀ v,p.2.data≠.cell v:=fun p hp=>by
   rcases List.mem_cons.mp hp with rfl | hp
   ·refine ⟨he4,x9,fun z=>?_,fun z=>?_,fun v z=>?_⟩
    ·obtain ⟨m,⟨o,_,_,ho,_⟩,_⟩:=I1.loc
     have z:a=X.env.locals:=z;rw[<- z,x11] at ho;cases ho
    ·obtain ⟨_,o,ho,_⟩:=I1.funs.mem z
     have ho:s1.heap.get? a=some o:=ho;rw[x11] at ho;cases ho
    ·have z:oe4.data=.cell v:=z
     rw[hd4] at z;cases z
   ·exact I4.pin p (List.mem_append_right _ hp)
  refine em (X:=Cx.han X a X.xe) (Inv.han (I4.pins_of pinned)) hN hi (.inl hl) (v:=.ref a) rfl (fun s5 I5=>?_) (.inr hl);have hiσ:i<σ1.length:=by rw[I4.len];exact (List.getElem?_eq_some_iff.mp hi).1
  refine thn (nh (X:=Cx.han X a _) (Inv.han (Inv.unhan I5 I4.ok)) hcl4 (List.getElem?_set_self hiσ) hi (.inl hl) hgI hmI hgD hmD hk hd hcd hdD h1 h2 h3) fun f s6 hq=>?_;obtain ⟨rfl,I6⟩:=hq;have I6:=Inv.unhan I6 I4.ok;obtain ⟨m6,hn6,_⟩:=id I6.loc;refine wpAny_nameGoes_keeps hl hn6 (by rw[I4.ok.kind];rfl) fun h7 v7 hn7 hs7=>?_;have I7:=Inv.gone (tk:=s6.toks+1) I6 hn7 hs7
  refine ⟨.bl true,_,H',I7.pins_of fun p hp=>?_,rfl,hrt H' sm⟩;exact I7.pin p (List.mem_append_right _ (List.mem_cons_of_mem _ hp))
 refine wpAny_mono ((hb Eh (X.pn++pins) (c7 H fp) ExB hPa).go [] s σ H En (Inv.att I) ⟨Hf,ρ,⟨⟨Hf,fp,Ow,F.nd,fun b m=>⟨(F.own b m).1,by unfold c7;rw[if_pos m]⟩,F.fh,ni,Same.refl _,fun b o e=>.inl ⟨o,e⟩⟩,nB⟩,?_⟩) (fun f s1 q=>?_) fun _ _ z=>z
 ·unfold gy at p
  cases eg:g ρ with
  |nx ρ'=>rw[eg] at p;exact fun σ' H' S'=>p σ' H' ⟨SR.back F S'.1,S'.2⟩
  |rt d=>rw[eg] at p;exact fun v H' S'=>p v H' (SR.back F S')
  |bk ρ'=>rw[eg] at p;exact fun σ' H' S'=>p σ' H' ⟨SR.back F S'.1,S'.2⟩
  |ct ρ'=>rw[eg] at p;exact fun σ' H' S'=>p σ' H' ⟨SR.back F S'.1,S'.2⟩
  |bad=>rw[eg] at p;exact p
  |exc C'=>
   rw[eg] at p
   cases C' with
   |ref c=>
    have p:PostS Hs H0 Ex En (if c=C then .rt (.bl true) else .bad):=p;by_cases hc:c=C
    ·subst hc
     rw[if_pos rfl] at p;refine ⟨rfl,fun H' sm=>p (.bl true) H' ⟨Hf,[]++[],.cons (.fz .bl rfl) .nil,by simp,(fun _ m=>nomatch m),F.notIn.1.trans sm,F.notIn.2.trans sm,F.sf,F.new⟩⟩
    ·rw[if_neg hc] at p;exact p.elim
   |_=>exact p.elim
 ·have q:=SP.unatt q
  cases f with
  |next=>exact wpAny_execs_nil q
  |ret v=>exact q
  |brk=>exact q
  |cont=>exact q
end
def asc(x:Str):Bool:=x.cps.all (· < 128)
def iH(x:Str):List D:=x.cps.toList.map fun c=>.str ⟨#[c]⟩
def Its(x:Str):It:=⟨fun i _=>i<x.cps.size,fun i H v H'=>H'=H/\∃ c,x.cps[i]?=some c/\v=.str ⟨#[c]⟩,fun i _=>x.cps.size<=i⟩
theorem t7{x:Str}{B:Hp}:dZ (Its x) B (iH x):=by
 intro H s i;refine ⟨fun d hd=>?_,fun hi=>(show x.cps.size<=i from Nat.le_of_eq (by simpa [iH] using hi.symm))⟩;simp only[iH,List.getElem?_map] at hd
 cases e:x.cps.toList[i]? with
 |none=>rw[e] at hd;cases hd
 |some c=>
  rw[e] at hd
  cases hd
  have e':x.cps[i]?=some c:=by simpa using e
  refine ⟨(Array.getElem?_eq_some_iff.mp e').1,fun v H' ⟨e1,c',e2,e3⟩=>⟨rfl,.inl ⟨e1,?_⟩⟩⟩;rw[e'] at e2
  cases e2
  rw[e3];exact .str
theorem pZ{P:Program}{w:World}{K:PySem.W.Frag}{tg:Expr}{x:Str}{t:Tok}(it:Addr):Turn P w K tg (Its x) [it] it (fun i h=>h.IsStrIter it "str_ascii_iterator" x t i) where
 mem:=List.mem_singleton.mpr rfl
 obj:=fun i h st b hb=>by
  cases List.mem_singleton.mp hb
  obtain ⟨o,e,_,d⟩:=st;exact ⟨o,e,fun v z=>by rw[d] at z;cases z⟩
 keep:=fun i h h' st k=>let ⟨o,e,r⟩:=st;⟨o,k it (List.mem_singleton.mpr rfl) o e,r⟩;item:=by
  intro X e1 e2 e3 hc i pins s σ H E I hf st hg;subst e1 e2 e3;obtain ⟨g0,g1,_,g3,g4,g5⟩:=hf it (List.mem_singleton.mpr rfl);refine wpAny_pyNext_ascii_item st (c:=x.cps[i]'hg) (Array.getElem?_eq_getElem hg) fun h' st' sb=>?_;have J:Inv X pins σ H { s with heap:=h',toks:=s.toks+1 }:=I.turned (fun b o hb e=>(sb.2 b hb).trans e) g0 g1 g3 g4 g5;obtain ⟨o,e,c,d⟩:=id st'
  exact ⟨_,rfl,iO (s:={ s with heap:=h',toks:=s.toks+1 }) e c d (by decide) ⟨.str _,H,J,⟨_,rfl⟩,⟨rfl,_,Array.getElem?_eq_getElem hg,rfl⟩,st',fun b hb=>(hf b hb).1⟩⟩
 done:=by
  intro X e1 e2 e3 hc i pins s σ H E I hf st hg;subst e1 e2 e3;obtain ⟨g0,g1,_,g3,g4,g5⟩:=hf it (List.mem_singleton.mpr rfl);have hg:x.cps.size<=i:=hg;exact wpAny_pyNext_ascii_end (I.ok.hd hc) st (Array.getElem?_eq_none hg) fun h' eb=>⟨rfl,I.turned (t':=s.toks) (fun b o hb e=>eb b o hb e) g0 g1 g3 g4 g5⟩
 self:=fun _ _ _ _ _ st h=>wpAny_pyIter_striter_ascii st h
section
variable {X:Cx}{Ex:Value->Prop}{H0:Hp}{e tg:Expr}{f:ad->Res D}{tl:TE}
def we(K:PySem.W.Frag)(tl:TE):TI:=fun σ H R=>tl σ H fun v H1=>(∃ a,v=.ref a/\(∃ xs,SqL K H1 a xs)/\R (Itl K a) H1)\/(∃ a,v=.ref a/\(∃ xs,SqT K H1 a xs)/\R (Itt K a) H1)\/∃ x,v=.str x/\asc x=true/\R (Its x) H1
theorem t8(hl:PE X e tl):PI X tg e (we X.K tl):=by
 intro pins s σ H R I h;refine thn (hl pins s σ H _ I h) fun v s1 ⟨x,H1,I1,r1,q1⟩=>?_;have fresh:∀ b∈[s1.heap.objs.size],er X pins H1 b:=fun b hb=>by
  cases List.mem_singleton.mp hb
  exact I1.fpOk (Nat.le_refl _) (I1.hok.fresh (Nat.le_refl _))
 rcases q1 with ⟨a,rfl,⟨xs,hq⟩,q⟩ | ⟨a,rfl,⟨xs,hq⟩,q⟩ | ⟨z,rfl,ha,q⟩
 ·cases r1
  obtain ⟨its,rv,p,_⟩:=I1.list hq;exact wpAny_pyIter_list p.isList ⟨s1.heap.objs.size,[s1.heap.objs.size],_,_,H1,rfl,I1.kept (t':=s1.toks) (fun b o e=>Heap.get?_push_of_some _ e),nM a _,⟨_,Heap.get?_push_size _ rfl,rfl,rfl⟩,fresh,q⟩
 ·cases r1
  obtain ⟨its,rv,p,_⟩:=I1.tuple hq;exact wpAny_pyIter_tuple (show s1.heap.IsTuple a its.toArray from p) ⟨s1.heap.objs.size,[s1.heap.objs.size],_,_,H1,rfl,I1.kept (t':=s1.toks) (fun b o e=>Heap.get?_push_of_some _ e),mL a _,⟨_,Heap.get?_push_size _ rfl,rfl,rfl⟩,fresh,q⟩
 ·obtain ⟨t,rfl⟩:=r1
  exact wpAny_pyIter_ascii ha ⟨s1.heap.objs.size,[s1.heap.objs.size],_,_,H1,rfl,I1.kept (t':=s1.toks) (fun b o e=>Heap.get?_push_of_some _ e),pZ _,⟨_,Heap.get?_push_size _ rfl,rfl,rfl⟩,fresh,q⟩
theorem t9{K:PySem.W.Frag}{B:Hp}{a:Addr}{us:List V}{ds:List D}(h:B a=some (.tup us))(R:Reps B us ds)(t:∀ e∈ds,e.tag=.f):dZ (Itt K a) B ds:=by
 intro H s i;have hl:=R.length;refine ⟨fun d hd=>?_,fun hi=>⟨us,SqT.of (s _ _ h),by omega⟩⟩;obtain ⟨u,hu,ru⟩:=R.get hd;refine ⟨⟨us,u,SqT.of (s _ _ h),hu⟩,fun x H' ⟨e,y⟩=>⟨t d (List.mem_of_getElem? hd),.inl ⟨e,?_⟩⟩⟩;have:=y us (SqT.of (s _ _ h));rw[hu] at this
 cases this
 exact ru
def aG(f:ad->Res D):ad->Res (List D):=fun ρ=>f ρ >>= fun d=>match d with
 | .str x=>if asc x=true then .ok (iH x) else .bad
 |d=>if d.tag=.b then .bad else bq d.its
theorem cb(he:FE X H0 Ex e f):FI X H0 Ex tg e (aG f):=by
 refine ⟨PI.pre (t8 he.go) ?_⟩;rintro σ H R ⟨Hs,ρ,ts,S,p⟩;refine ⟨Hs,ρ,ts,S,(Post.bind p).imp fun d _ p1 v H1 S1=>?_⟩
 have seq:Post Ex (if d.tag=.b then .bad else bq d.its) (fun items=>∀ J H' Hf fp,dZ J Hf items->Own Hf H' fp (tvs ts++σ) (tds ts++ρ)->Fine Hs H0 Hf H' fp->R J H')->(∃ a,v=.ref a/\(∃ xs,SqL X.K H1 a xs)/\R (Itl X.K a) H1)\/(∃ a,v=.ref a/\(∃ xs,SqT X.K H1 a xs)/\R (Itt X.K a) H1)\/∃ x,v=.str x/\asc x=true/\R (Its x) H1:=by
  intro p1;split at p1
  ·exact p1.elim
  ·rename_i tb
   cases e:d.its with
   |none=>rw[e] at p1;exact p1.elim
   |some ys=>
    rw[e] at p1;obtain ⟨Hf,fp,O,F⟩:=S1;obtain ⟨a,us,rfl,Hg,fq,O',F',_,ha,R⟩:=O.itemsC F e tb
    cases il:d.isL with
    |true=>
     rw[il] at ha;exact .inl ⟨a,rfl,⟨us,SqL.of (F'.fh _ _ ha)⟩,p1 _ H1 Hg fq (tW ha R (D.its_tag e)) O' F'⟩
    |false=>
     rw[il] at ha;exact .inr (.inl ⟨a,rfl,⟨us,SqT.of (F'.fh _ _ ha)⟩,p1 _ H1 Hg fq (t9 ha R (D.its_tag e)) O' F'⟩)
 cases d with
 |str x=>
  have p1:Post Ex (if asc x=true then .ok (iH x) else .bad) (fun items=>∀ J H' Hf fp,dZ J Hf items->Own Hf H' fp (tvs ts++σ) (tds ts++ρ)->Fine Hs H0 Hf H' fp->R J H'):=p1;split at p1
  ·rename_i hx
   have S1:SR Hs H0 H1 (some v::(tvs ts++σ)) (some (.str x)::(tds ts++ρ)):=S1
   cases SR.isStr S1
   obtain ⟨Hf,fp,O,F⟩:=S1.drop;exact .inr (.inr ⟨x,rfl,hx,p1 _ H1 Hf fp t7 O F⟩)
  ·exact p1.elim
 |_=>exact seq p1
end
def cL:List (Option Bool)->Option Bool
 | []=>some true
 |none::_=>none
 |some b::r=>match cL r with
  |some c=>some (b&&c)
  |none=>none
def aI:Nat->D->D->Option Bool
 |_,.int i,.int j=>some (decide (i=j))
 |_,.str i,.str j=>some (decide (i=j))
 |n+1,.lst _ xs,.lst _ ys=>if xs.length=ys.length then cL ((xs.zip ys).map fun p=>aI n p.1 p.2) else some false
 |n+1,.tup xs,.tup ys=>if xs.length=ys.length then cL ((xs.zip ys).map fun p=>aI n p.1 p.2) else none
 |_,_,_=>none
theorem iI:∀ {l:List (Option Bool)} {b:Bool},cL l=some b->∃ e:Nat->Bool,(∀ j,j<l.length->l[j]?=some (some (e j)))/\b=(List.range l.length).all e
 | [],b,h=>⟨fun _=>true,fun j hj=>by simp at hj,by simp[cL] at h;simp[<- h]⟩
 |none::r,b,h=>by simp[cL] at h
 |some a::r,b,h=>by
  unfold cL at h
  cases e:cL r with
  |none=>rw[e] at h;cases h
  |some c=>
   rw[e] at h;have h:(a&&c)=b:=Option.some.inj h;obtain ⟨f,h1,h2⟩:=iI e;refine ⟨fun j=>match j with | 0=>a | j+1=>f j,fun j hj=>?_,?_⟩
   ·cases j with
    |zero=>rfl
    |succ j=>simpa using h1 j (by simpa using hj)
   ·rw[<- h,h2,List.length_cons,List.range_succ_eq_map,List.all_cons,List.all_map]
    rfl
theorem p8{H:Hp}:∀ (n:Nat) {v:V} {d d':D} {b:Bool},Rep H v d->Rep H v d'->aI n d d'=some b->b=true:=by
 have seqs:∀ (n:Nat),(∀ {v:V} {d d':D} {b:Bool},Rep H v d->Rep H v d'->aI n d d'=some b->b=true)->∀ {us:List V} {xs ys:List D} {b:Bool},Reps H us xs->Reps H us ys->cL ((xs.zip ys).map fun p=>aI n p.1 p.2)=some b->b=true:=by
  intro n ih us;induction us with
  |nil=>intro xs ys b r1 r2 h;cases r1;cases r2;simp[cL] at h;first | exact h | exact h.symm
  |cons u us ihu=>
   intro xs ys b r1 r2 h
   cases r1 with
   |cons a1 b1=>
    cases r2 with
    |cons a2 b2=>
     rename_i d1 ds1 d2 ds2;rw[List.zip_cons_cons,List.map_cons] at h
     cases e:aI n d1 d2 with
     |none=>rw[e] at h;cases h
     |some k=>
      rw[e] at h;unfold cL at h
      cases e2:cL ((ds1.zip ds2).map fun p=>aI n p.1 p.2) with
      |none=>rw[e2] at h;cases h
      |some c=>
       rw[e2] at h;have h:(k&&c)=b:=Option.some.inj h;rw[<- h,ih a1 a2 e,ihu b1 b2 e2];rfl
 intro n;induction n with
 |zero=>
  intro v d d' b r1 r2 h
  cases r1<;>cases r2<;>first | (simp[aI] at h;done) | (simp[aI] at h;first | exact h | exact h.symm)
 |succ n ih=>
  intro v d d' b r1 r2 h
  cases r1 with
  |int=>cases r2;simp[aI] at h;first | exact h | exact h.symm
  |str=>cases r2;simp[aI] at h;first | exact h | exact h.symm
  |lst h1 q1=>
   cases r2 with
   |lst h2 q2=>
    rw[h1] at h2;cases h2;unfold aI at h;rw[if_pos (by rw[<- q1.length,<- q2.length])] at h;exact seqs n ih q1 q2 h
   |tup h2 q2=>rw[h1] at h2;cases h2
   |_=>simp[aI] at h
  |tup h1 q1=>
   cases r2 with
   |tup h2 q2=>
    rw[h1] at h2;cases h2;unfold aI at h;rw[if_pos (by rw[<- q1.length,<- q2.length])] at h;exact seqs n ih q1 q2 h
   |lst h2 q2=>rw[h1] at h2;cases h2
   |_=>simp[aI] at h
  |_=>cases r2<;>simp[aI] at h
section
variable {X:Cx}{pins:List (Addr × Obj)}{σ:St}{H:Hp}{s:Shared}
theorem qA(I:Inv X pins σ H s):∀ (n:Nat) (A:Around) {v v':V} {u u':Value} {d d':D} {b:Bool},A.units+n<cLine->Rep H v d->Rep H v' d'->RelV v u->RelV v' u'->aI n d d'=some b →
    SeqAt.EqAt A s u u' b/\∀ a a',v=.ref a->v'=.ref a'->SeqAt.RcAt A s u u' b:=by
 intro n;have base:∀ {n:Nat} {A:Around} {v v':V} {u u':Value} {i j:Int} {b:Bool},Rep H v (.int i)->Rep H v' (.int j)->RelV v u->RelV v' u'->aI n (.int i) (.int j)=some b->SeqAt.EqAt A s u u' b/\∀ a a',v=.ref a->v'=.ref a'->SeqAt.RcAt A s u u' b:=by
  intro n A v v' u u' i j b r1 r2 e1 e2 h
  cases r1;cases r2
  obtain ⟨t,rfl⟩:=e1;obtain ⟨t',rfl⟩:=e2;have hb:(i == j)=b:=by cases n<;>(simp[aI] at h;rw[<- h];rfl)
  refine ⟨hb ▸ (MeetsSeq.EqGives.int i j t t').at A s,fun a a' z=>nomatch z⟩
 have baseS:∀ {n:Nat} {A:Around} {v v':V} {u u':Value} {i j:Str} {b:Bool},Rep H v (.str i)->Rep H v' (.str j)->RelV v u->RelV v' u'->aI n (.str i) (.str j)=some b->SeqAt.EqAt A s u u' b/\∀ a a',v=.ref a->v'=.ref a'->SeqAt.RcAt A s u u' b:=by
  intro n A v v' u u' i j b r1 r2 e1 e2 h
  cases r1;cases r2
  obtain ⟨t,rfl⟩:=e1;obtain ⟨t',rfl⟩:=e2;have hb:(i == j)=b:=by
   have h:decide (i=j)=b:=by cases n<;>(simp only[aI] at h;exact Option.some.inj h)
   rw[<- h,Bool.eq_iff_iff];simp
  refine ⟨hb ▸ (eqGives_str i j t t').at A s,fun a a' z=>nomatch z⟩
 induction n with
 |zero=>
  intro A v v' u u' d d' b hu r1 r2 e1 e2 h
  cases d with
  |int i=>cases d' with | int j=>exact base r1 r2 e1 e2 h | _=>simp[aI] at h
  |str i=>cases d' with | str j=>exact baseS r1 r2 e1 e2 h | _=>simp[aI] at h
  |_=>simp[aI] at h
 |succ n ih=>
  intro A v v' u u' d d' b hu r1 r2 e1 e2 h;have items:∀ {us us':List V} {its its':List Value} {xs ys:List D} {b:Bool},Reps H us xs->Reps H us' ys->Vals us its->Vals us' its'->xs.length=ys.length->cL ((xs.zip ys).map fun p=>aI n p.1 p.2)=some b →
      ∃ e:Nat->Bool,(∀ j (h1:j<its.toArray.size) (h2:j<its'.toArray.size),SeqAt.EqAt A.in1 s its.toArray[j] its'.toArray[j] (e j))/\b=(List.range its.toArray.size).all e:=by
   intro us us' its its' xs ys b q1 q2 w1 w2 hl h;obtain ⟨e,he,hb⟩:=iI h;have l1:((xs.zip ys).map fun p=>aI n p.1 p.2).length=its.length:=by rw[List.length_map,List.length_zip,<- w1.length,q1.length];omega
   refine ⟨e,fun j h1 h2=>?_,by rw[hb,l1];rfl⟩;have j1:j<its.length:=by simpa using h1
   have j2:j<its'.length:=by simpa using h2
   have:=he j (by rw[l1];exact j1);rw[List.getElem?_map] at this
   cases ez:(xs.zip ys)[j]? with
   |none=>rw[ez] at this;cases this
   |some p=>
    rw[ez] at this;have hd:aI n p.1 p.2=some (e j):=Option.some.inj this;obtain ⟨hx,hy⟩:=List.getElem?_zip_eq_some.mp ez;obtain ⟨v1,hv1,rp1⟩:=q1.get hx;obtain ⟨v2,hv2,rp2⟩:=q2.get hy;obtain ⟨u1,hu1,rl1⟩:=w1.get hv1;obtain ⟨u2,hu2,rl2⟩:=w2.get hv2;have g1:its.toArray[j]=u1:=by rw[List.getElem?_eq_getElem j1] at hu1;simpa using Option.some.inj hu1
    have g2:its'.toArray[j]=u2:=by rw[List.getElem?_eq_getElem j2] at hu2;simpa using Option.some.inj hu2
    rw[g1,g2];exact (ih A.in1 (show A.units+1+n<cLine by omega) rp1 rp2 rl1 rl2 hd).1
  have fin:∀ {a a':Addr} {b:Bool} {d d':D},Rep H (.ref a) d->Rep H (.ref a') d'->aI (n+1) d d'=some b->SeqAt.RcAt A s (.ref a) (.ref a') b->SeqAt.EqAt A s (.ref a) (.ref a') b:=by
   intro a a' b d d' r1 r2 hd hr;by_cases z:a=a'
   ·subst z
    rw[p8 (n+1) r1 r2 hd];exact SeqAt.EqAt.same _
   ·exact SeqAt.EqAt.of_refs z hr
  cases d with
  |int i=>cases d' with | int j=>exact base r1 r2 e1 e2 h | _=>simp[aI] at h
  |str i=>cases d' with | str j=>exact baseS r1 r2 e1 e2 h | _=>simp[aI] at h
  |lst t xs=>
   cases d' with
   |lst t' ys=>
    have hd:=h
    cases r1 with
    |lst h1 q1=>
     rename_i a1 us1
     cases r2 with
     |lst h2 q2=>
      rename_i a2 us2
      cases e1;cases e2
      obtain ⟨its,w1,p1,_⟩:=I.list (SqL.of h1);obtain ⟨its',w2,p2,_⟩:=I.list (SqL.of h2);have rc:SeqAt.RcAt A s (.ref a1) (.ref a2) b:=by
       unfold aI at h;by_cases hl:xs.length=ys.length
       ·rw[if_pos hl] at h
        obtain ⟨e,he,hb⟩:=items q1 q2 w1 w2 hl h;rw[hb];exact SeqAt.RcAt.lists p1.isList p2.isList (by simp[<- w1.length,<- w2.length,q1.length,q2.length,hl]) (by omega) he
       ·rw[if_neg hl] at h
        cases h
        exact SeqAt.RcAt.lists_lengths p1.isList p2.isList (by simp[<- w1.length,<- w2.length,q1.length,q2.length];exact hl) (by omega)
      exact ⟨fin (.lst h1 q1) (.lst h2 q2) hd rc,fun a a' z z'=>by cases z;cases z';exact rc⟩
   |_=>simp[aI] at h
  |tup xs=>
   cases d' with
   |tup ys=>
    have hd:=h
    cases r1 with
    |tup h1 q1=>
     rename_i a1 us1
     cases r2 with
     |tup h2 q2=>
      rename_i a2 us2
      cases e1;cases e2
      obtain ⟨its,w1,p1,_⟩:=I.tuple (SqT.of h1);obtain ⟨its',w2,p2,_⟩:=I.tuple (SqT.of h2);have rc:SeqAt.RcAt A s (.ref a1) (.ref a2) b:=by
       unfold aI at h;by_cases hl:xs.length=ys.length
       ·rw[if_pos hl] at h
        obtain ⟨e,he,hb⟩:=items q1 q2 w1 w2 hl h;have lz:its.toArray.size=its'.toArray.size:=by simp[<- w1.length,<- w2.length,q1.length,q2.length,hl]
        have:=SeqAt.RcAt.tuples (s:=s) (A:=A) (show s.heap.IsTuple _ its.toArray from p1) (show s.heap.IsTuple _ its'.toArray from p2) (by omega) he;rw[<- lz,Nat.min_self,beq_self_eq_true,Bool.and_true] at this;rw[hb];exact this
       ·rw[if_neg hl] at h;cases h
      exact ⟨fin (.tup h1 q1) (.tup h2 q2) hd rc,fun a a' z z'=>by cases z;cases z';exact rc⟩
   |_=>simp[aI] at h
  |_=>simp[aI] at h
end
section
variable {X:Cx}
def li:D->Bool
 | .lst _ _=>true
 | .tup _=>true
 |_=>false
theorem ua(hu:X.A.units+4<cLine):OpR X (compareOp .Eq) (fun x y H Q=>∃ d d' b a a',x=.ref a/\y=.ref a'/\Rep H x d/\Rep H y d'/\aI 4 d d'=some b/\Q (.bl b) H):=by
 intro pins s σ H x y v u Q I rx ry h;obtain ⟨d,d',b,a,a',rfl,rfl,r1,r2,hd,q⟩:=h;have:=(qA I 4 X.A hu r1 r2 rx ry hd).2 a a' rfl rfl;exact this _ _ _ _ ⟨.bl b,H,I,rfl,q⟩
def dEq:D->D->Res D:=fun x y=>if li x=true/\li y=true then (match aI 4 x y with
 |some b=>.ok (.bl b)
 |none=>.bad) else de false x y
theorem bU:∀ x y,noX (dEq x y)=true:=by
 intro x y;unfold dEq;split
 ·split<;>rfl
 ·exact eD _ _ _
theorem gY{H:Hp}{v:V}{d:D}(r:Rep H v d)(h:li d=true):∃ a,v=.ref a:=by
 cases r<;>first | exact ⟨_,rfl⟩ | cases h
theorem db(hu:X.A.units+4<cLine):FOp X (compareOp .Eq) dEq:=by
 refine ⟨OpR.pre (OpR.or (ua hu) (tY (X:=X)).go) ?_⟩;rintro x y H Q ⟨Hs,H0,vs,ds,d1,d2,d,S,e,k⟩;unfold dEq at e;split at e
 ·rename_i hs
  split at e
  ·rename_i b hb
   cases e
   obtain ⟨a,rfl⟩:=gY S.drop.head hs.1;obtain ⟨a',rfl⟩:=gY S.head hs.2;exact .inl ⟨d1,d2,b,a,a',rfl,rfl,S.drop.head,S.head,hb,k _ H S.drop.drop.bl⟩
  ·cases e
 ·exact .inr ⟨Hs,H0,vs,ds,d1,d2,d,S,e,k⟩
end
def TOF(H0:Hp)(Ex:Value->Prop)(f:ad->Res (Option Int)):St->Hp->(Option Int->Hp->Prop)->Prop:=fun σ H Q=>∃ Hs ρ ts,SX Hs H0 H ts σ ρ ∧
 Post Ex (f ρ) fun o=>∀ H',SX Hs H0 H' ts σ ρ->Q o H'
structure FO (X:Cx) (H0:Hp) (Ex:Value->Prop) (e:Option Expr) (f:ad->Res (Option Int)):Prop where
 go:PO X e (TOF H0 Ex f)
section
variable {X:Cx}{Ex:Value->Prop}{H0:Hp}{e:Expr}{lo hi:Option Expr}{f:ad->Res D}{fl fh:ad->Res (Option Int)}{pos p2:Pos}
end
section
variable {X:Cx}{Ex:Value->Prop}{H0:Hp}{k:Expr}{fk:ad->Res D}{pos:Pos}
def du:List D->Option (List Bool)
 | []=>some []
 | .bl b::r=>(du r).map (b::·)
 |_=>none
theorem j6{H:Hp}:∀ {us:List V} {xs:List D} {bs:List Bool},Reps H us xs->du xs=some bs->us=bs.map V.bl
 |_,_,_,.nil,h=>by simp[du] at h;subst h;rfl
 |_,_,bs,.cons (d:=d) a r,h=>by
  cases d with
  |bl b=>
   cases a
   unfold du at h
   cases e:du _ with
   |none=>rw[e] at h;cases h
   |some cs=>rw[e] at h;cases h;rw[j6 r e];rfl
  |_=>cases h
theorem oz(hc:X.calm=true):CallR X (.builtin "all") (fun us H Q=>∃ (a:Addr) (bs:List Bool),us=[.ref a]/\SqL X.K H a (bs.map V.bl)/\Q (.bl (bs.all id)) H):=by
 intro pins s σ H xs us Q I r h;obtain ⟨a,bs,rfl,hq,q⟩:=h
 cases r with
 |cons r1 r2=>
  cases r2
  cases r1
  obtain ⟨its,w,pl,hz⟩:=I.list hq;have hl:=w.length;have hlt:a<s.heap.objs.size:=by obtain ⟨_,e,_⟩:=pl.isList;exact Heap.lt_size e
  refine call_all_walk (wpAny_pyIter_list pl.isList ?_);refine ⟨s.heap.objs.size,[s.heap.objs.size,a],[s.heap.objs.size],its.toArray.size,_,_,fun i=>(bs[i]?).getD true,rfl,Walks.list (A:=X.A.in1) (I.ok.hd hc) _ a (Nat.ne_of_lt hlt) its.toArray,
   ⟨⟨_,Heap.get?_push_size _ rfl,rfl,rfl⟩,pl.isList.push _⟩,fun i v s' Q' E' hP hQ=>?_,fun h' tk hk=>?_⟩
  ·have hP:its[i]?=some v:=by simpa using hP
   obtain ⟨hi,hv⟩:=List.getElem?_eq_some_iff.mp hP;have hb:i<bs.length:=by rw[List.length_map] at hl;omega
   obtain ⟨u',hu',ru'⟩:=w.get (i:=i) (x:=.bl bs[i]) (by rw[List.getElem?_map,List.getElem?_eq_getElem hb];rfl);rw[hP] at hu'
   cases hu'
   cases ru'
   have hQ:Q' ((bs[i]?).getD true) s':=hQ;rw[List.getElem?_eq_getElem hb] at hQ;exact wpAny_truthy_bool hQ
  ·have e:((List.range its.toArray.size).all fun i=>(bs[i]?).getD true)=bs.all id:=by
      have hsz:its.toArray.size=bs.length:=by rw[List.size_toArray,<- hl,List.length_map]
      rw[hsz,Bool.eq_iff_iff,List.all_eq_true,List.all_eq_true];constructor
      ·intro h b hb
       obtain ⟨i,hi,rfl⟩:=List.getElem_of_mem hb;have:=h i (List.mem_range.mpr hi);rw[List.getElem?_eq_getElem hi] at this;exact this
      ·intro h i hi
       have hi:=List.mem_range.mp hi;rw[List.getElem?_eq_getElem hi];exact h _ (List.getElem_mem hi)
   rw[e];refine ⟨.bl _,H,I.kept (t':=tk) (h':=h') fun b o e=>?_,rfl,q⟩;exact hk b o (fun hm=>by rw[List.mem_singleton.mp hm] at e;exact Nat.lt_irrefl _ (Heap.lt_size e)) (Heap.get?_push_of_some _ e)
def fj:List D->Res D
 | [.lst _ xs]=>match du xs with
  |some bs=>.ok (.bl (bs.all id))
  |none=>.bad
 |_=>.bad
theorem lj:∀ es,noX (fj es)=true:=by
 intro es;unfold fj;split
 ·split<;>rfl
 ·rfl
theorem oA(hc:X.calm=true):FCall X (.builtin "all") fj:=by
 refine ⟨CallR.pre (oz hc) ?_⟩;rintro us H Q ⟨Hs,H0,vs,ds,es,d,hl,S,e,kq⟩;unfold fj at e;split at e
 ·rename_i t xs
  split at e
  ·rename_i bs hb
   cases e
   obtain ⟨u,rfl⟩:=cJ hl rfl;have S':SR Hs H0 H (some u::vs) (some (.lst t xs)::ds):=S;have hh:=S'.head
   cases hh with
   |lst q R=>
    refine ⟨_,bs,rfl,?_,kq _ H S'.drop.bl⟩;rw[<- j6 R hb];exact SqL.of q
  ·cases e
 ·cases e
def cy(i j:Nat)(fk:ad->Res D):ad->FOut:=fun ρ=>match ρ[i]?,ρ[j]? with
 |some (some (.lst .o xs)),some (some (.lst .o ys))=>aft (fk ρ) fun d=>match d with
  | .int m=>match seqIndex? m ys.length with
   |some q=>match ys[q]? with
    |some y=>if y.tag=.b\/sizeLine<=xs.length\/i=j\/m < -(2 ^ 63)\/2 ^ 63<=m then .bad else .nx ((ρ.set j (some (.lst .o (ys.eraseIdx q)))).set i (some (.lst .o (xs++[y]))))
    |none=>.bad
   |none=>.bad
  |_=>.bad
 |_,_=>.bad
theorem oB{i j:Nat}{x y:Str}{p1 p2 p3 q1 q2 q3:Pos}(hv:PV X (.Name x p1) i)(hw:PV X (.Name y q1) j)(hk:FE X H0 Ex k fk)
    (hbase:attributeBase (.Name x p1) "append" X.env (eval (.Name x p1) X.env)=eval (.Name x p1) X.env:=by rfl)
    (hbase2:attributeBase (.Name y q1) "pop" X.env (eval (.Name y q1) X.env)=eval (.Name y q1) X.env:=by rfl)
    (hfew:((backTo p3 (starEach [.Call (.Attribute (.Name y q1) "pop" q2) [k] [] q3] X.env)).all (fun x=>!x.1)&&(backToKw p3 (keywordEach [] X.env)).all (fun x=>x.1.isSome)&&decide (([.Call (.Attribute (.Name y q1) "pop" q2) [k] [] q3]:List Expr).length+([]:List Keyword).length+(if ([]:List Keyword).isEmpty then 0 else 1)<30))=true:=by rfl)
    (hfew2:((backTo q3 (starEach [k] X.env)).all (fun x=>!x.1)&&(backToKw q3 (keywordEach [] X.env)).all (fun x=>x.1.isSome)&&decide (([k]:List Expr).length+([]:List Keyword).length+(if ([]:List Keyword).isEmpty then 0 else 1)<30))=true:=by rfl)
    (hline:(p2.endLine == p3.line)=true:=by rfl) (hline2:(q2.endLine == q3.line)=true:=by rfl) (hplain:(backTo p3 (starEach [] X.env)).any (·.1)=false:=by rfl) (hplain2:(backTo q3 (starEach [] X.env)).any (·.1)=false:=by rfl)
    (hs1:starEach [.Call (.Attribute (.Name y q1) "pop" q2) [k] [] q3] X.env=(false,eval (.Call (.Attribute (.Name y q1) "pop" q2) [k] [] q3) X.env)::starEach [] X.env:=by rfl) (hs2:starEach [k] X.env=(false,eval k X.env)::starEach [] X.env:=by rfl)
    (hsw:swapsWith (.Call (.Attribute (.Name x p1) "append" p2) [.Call (.Attribute (.Name y q1) "pop" q2) [k] [] q3] [] p3) none pos.line X.env=pure false:=by rfl) :
    FS X H0 Ex (.Expr (.Call (.Attribute (.Name x p1) "append" p2) [.Call (.Attribute (.Name y q1) "pop" q2) [k] [] q3] [] p3) pos) (cy i j fk):=by
 refine ⟨PS.pre (gO (kA PySem.F.plainAttrs_list PySem.F.slot_list_append PySem.F.type_list_append gp hv.go
  (b8 (kA PySem.F.plainAttrs_list PySem.F.slot_list_pop PySem.F.type_list_pop pL hw.go (b8 hk.go dk hs2) hbase2 hfew2 hline2 hs2 hplain2) dk hs1) hbase hfew hline hs1 hplain) hsw) ?_⟩
 rintro En σ H ⟨Hs,ρ,⟨S,n⟩,p⟩;unfold cy at p;split at p
 ·rename_i xs ys hx hy
  obtain ⟨q,us,hq,hH,hl⟩:=S.recv hx;obtain ⟨q',us',hq',hH',hl'⟩:=S.recv hy;refine ⟨.ref q,hq,.inl ⟨rfl,us,SqL.of hH⟩,.ref q',hq',.inl ⟨rfl,us',SqL.of hH'⟩,Hs,ρ,[],S,(PostS.aft p).imp fun d _ p1 v H1 S1=>?_⟩
  cases d with
  |int m=>
   have S1:SR Hs H0 H1 (some v::σ) (some (.int m)::ρ):=S1
   cases SR.isInt S1
   have p1:PostS Hs H0 Ex En (match seqIndex? m ys.length with
    |some q=>match ys[q]? with
     |some y=>if y.tag=.b\/sizeLine<=xs.length\/i=j\/m < -(2 ^ 63)\/2 ^ 63<=m then .bad else .nx ((ρ.set j (some (.lst .o (ys.eraseIdx q)))).set i (some (.lst .o (xs++[y]))))
     |none=>.bad
    |none=>.bad):=p1
   cases e1:seqIndex? m ys.length with
   |none=>rw[e1] at p1;exact p1.elim
   |some c=>
    rw[e1] at p1;dsimp only at p1
    cases e2:ys[c]? with
    |none=>rw[e2] at p1;exact p1.elim
    |some z=>
     rw[e2] at p1;dsimp only at p1;split at p1
     ·exact p1.elim
     ·rename_i hc
      have hz:z.tag≠.b:=fun w=>hc (.inl w);have hij:i≠j:=fun w=>hc (.inr (.inr (.inl w)));obtain ⟨a,vs,u,ha,hHa,hla,hu,S2⟩:=S1.drop.popAt n hy e2 hz;rw[hq'] at ha
      cases ha
      have n2:noB (ρ.set j (some (.lst .o (ys.eraseIdx c)))):=n.set fun d' w=>by cases w;exact fun y=>nomatch y
      obtain ⟨b,ws,hb,hHb,hlb,S3⟩:=S2.append hz n2 (i:=i) (xs:=xs) (by rw[List.getElem?_set_ne (Ne.symm hij)];exact hx);rw[hq] at hb
      cases hb
      refine ⟨q',vs,m,c,u,rfl,rfl,hHa,?_,?_,by rw[hla];exact e1,hu,q,ws,u,rfl,rfl,hHb,?_,p1 σ _ ⟨S3,n2.set fun d' w=>by cases w;exact fun y=>nomatch y⟩⟩
      ·exact Int.not_lt.mp fun w=>hc (.inr (.inr (.inr (.inl w))))
      ·exact Int.not_le.mp fun w=>hc (.inr (.inr (.inr (.inr w))))
      ·rw[hlb]
       exact Nat.lt_of_not_le fun w=>hc (.inr (.inl w))
  |_=>exact p1.elim
 ·exact p.elim
end
section
variable {prog:Program}{w:World}{A:Around}{E:Value->Shared->Prop}{s:Shared}
structure ZAp (zp tI tO j1 j2:Addr) (f1 f2:List Addr):Prop where
 a1:tO≠zp
 a2:j1≠zp
 a3:j2≠zp
 a4:tO≠j1
 a5:tO≠j2
 a6:j1≠j2
 b1:∀ b∈f1,b≠zp/\b≠tO/\b≠j2
 b2:∀ b∈f2,b≠zp/\b≠tO/\b≠j1
 c1:tI≠zp
 c2:tI≠tO
 c3:tI≠j1
 c4:tI≠j2
variable {zp tI tO j1 j2:Addr}{f1 f2:List Addr}{n1 n2 k:Nat}{P1 P2:Nat->Value->Prop}{S1 S2:Nat->Heap->Prop}{a b:Value}
end
section
variable {prog:Program}{w:World}{A:Around}{E:Value->Shared->Prop}{s:Shared}
variable {zp tI tO j1 j2:Addr}{f1 f2:List Addr}{n1 n2 k:Nat}{P1 P2:Nat->Value->Prop}{S1 S2:Nat->Heap->Prop}{a b:Value}
end
section
variable {X:Cx}{Ex:Value->Prop}{H0:Hp}{a b:Expr}{elts:List Expr}{x1:Nat}{p pos pos':Pos}{ta:TA}{fa:ad->Res (List D)}
end
section
variable {X:Cx}{Ex:Value->Prop}{H0:Hp}{e:Expr}{pos:Pos}
def eI(n:Nat)(F:List D->Res D)(fa:ad->Res (List D)):ad->Res D:=fun ρ=>fa ρ >>= fun ds=>if ds.length=n then (match c0 F ds with
 | .ok d=>.ok d
 |_=>.bad) else .bad
theorem lm{x:Str}{n k:Nat}{F:List D->Res D}{p:Pos}{es:List Expr}{fa:ad->Res (List D)}(c:Cal X.prog X.w X.K X.mg X.base x n F k)(hr:Room k X.A)(hg:Gl X x)(ha:FA X H0 Ex (e::es) fa)(hn:(e::es).length=n:=by rfl)
    (hdb:(x == ("__debug__" : Str))=false:=by decide) (he:starEach (e::es) X.env=(false,eval e X.env)::starEach es X.env:=by rfl) (hpl:(backTo pos (starEach es X.env)).any (·.1)=false:=by rfl) :
    FE X H0 Ex (.Call (.Name x p) (e::es) [] pos) (eI n F fa):=by
 obtain ⟨f,fd,ps,G,hm,hk,hb⟩:=c.ex;refine ⟨PE.pre (ju (dvs:=[]) (E:=fun _ _ _=>False) G hr hg hm hk hb .nil rC ha.go hdb he hpl) ?_⟩;rintro σ H Q ⟨Hs,ρ,ts,S,p⟩;refine ⟨Hs,ρ,ts,S,(Post.bind p).imp fun ds _ p1 us H1 hl S1=>?_⟩;split at p1
 ·rename_i hds
  rw[List.append_nil]
  cases ec:c0 F ds with
  |bad=>rw[ec] at p1;exact p1.elim
  |exc C=>rw[ec] at p1;exact p1.elim
  |ok d=>
   rw[ec] at p1;obtain ⟨Hs',es',a1,a2,a3,a4,a5⟩:=kZ (Ex:=fun _=>False) (F:=F) (n:=n) hds hl S1 (by rw[ec];exact p1);refine ⟨Hs',es',a1,a2,a3,a4,?_⟩
   cases ef:F es' with
   |ok d=>rw[ef] at a5;exact a5
   |exc C=>rw[ef] at a5;exact fun H' sm=>(a5 H' sm).1
   |bad=>rw[ef] at a5;exact a5.elim
 ·exact p1.elim
theorem hu4{k:Nat}{A:Around}(r:Room k A):A.units+4<cLine:=by have:=r.un;omega
end
theorem vh{P:Program}{w:World}{K:PySem.W.Frag}{mg:Str->Option Value}{base:Heap}{x qual:Str}{C:Addr}{st:Stmt}{N ps:List Str}{k n:Nat}{g:ad->FOut}(hU:∃ f fd,Fun K "__init__" qual st f fd/\mg x=some (.ref C)/\Mk K C f/\Binds K fd ps [])(S:FnScope N ps (ar st))(hn:ps.length=n+1)
    (hbody:∀ (f:Addr) (cdv:Value) (A:Around) (outer:List Env) (s:Shared) (H H0:Hp) (E:XK) (Ex:Value->Prop),(∀ C H',Ex C->Same H0 H'->E C none H')->Room k (A.deeper (envOfC qual (ar st) s.heap.objs.size f cdv)) →
     FSs (cxm P w K mg base N qual (ar st) f cdv A outer s H E) H0 Ex (bw st) g):Mak P w K mg base x C n (bY C N.length g) (k+1):=by
 obtain ⟨f,fd,U,hm,M,hb⟩:=hU;exact ⟨f,fd,ps,ot U S hn fun cdv A outer s H H0 E Ex hE hr=>hbody f cdv A outer s H H0 E Ex hE hr,hm,M,hb⟩
def gz(K:PySem.W.Frag):Bool:=K.all fun p=>!(p.2.cls == .type "list")
theorem oC{K:PySem.W.Frag}(h:gz K=true){a:Addr}{o:Obj}(e:K.lookup a=some o):o.cls≠.type "list" := by
 unfold gz at h;induction K with
 |nil=>simp at e
 |cons p r ih=>
  obtain ⟨b,q⟩:=p;rw[List.lookup_cons] at e;rw[List.all_cons,Bool.and_eq_true] at h
  cases hb:a == b with
  |true=>
   rw[hb] at e;have e:q=o:=Option.some.inj e;subst e;intro z;have:=h.1;rw[show (q.cls == Value.type "list")=true by rw[z];simp] at this
   cases this
  |false=>rw[hb] at e;exact ih h.2 e
theorem vi{l:PySem.W.OpenLaw}{n k:Nat}{q:Program}{loose:List Str}{XP:(Str->Option Value)->Heap->Prop}{YP:World->Heap->Prop}{d:DefRec}{K:Params->PySem.W.Frag}{x:Str}
    (hn:l.most=some n) (hn2:n<=sizeLine) (hdf:d.params.defaults=[]) (hr:Room k callerA) (hY:∀ (w:World) (h:Heap),YP w h->(K w.params).In h)
    (F:∀ (w:World) (mg:Str->Option Value) (fa:Addr) (h:Heap),(K w.params).In h->h.Ns mainGlobals mg->mg d.name=some (.ref fa) →
     ∃ Fl:List D->Res D,(∀ ns:List Int,ns.length<=n->Fl [.scr ns]=.ok (.bl true))/\gz (K w.params)=true/\∃ fd:FuncData,(∀ (s:Shared) (u:Value),BindsTo s fd ⟨[u],[]⟩ [(x,u)]) ∧
      ∀ base:Heap,(K w.params).In base->base.Ns mainGlobals mg->FnOk l.prog w (K w.params) mg base (CXm l.prog w) k fa fd [x] (spF 1 Fl)) :
    PySem.W.WalkO q loose XP YP l.row.toRowW d [] (fun f vs=>PySem.call f vs):=by
 refine Att.attach_call hn hdf fun w s₀ s₁ mg mb fa o pm cd doc a vs ns G Y ho hd hcd hmg hobj hints hlen hg=>?_;have KX:=hY w _ Y;obtain ⟨Fl,hFl,hnl,fd,hb,hF⟩:=F w mg fa _ KX G.T.g hmg;refine pO KX G.T.g G.T.b G.T.builtins G.T.nolimit hg hobj hints (Nat.le_trans hlen hn2) hr hF hb (fun H hO hS=>?_) fun H e s' h=>?_
 ·have hH:∃ o,H a=some (.frz o (.lst (ns.map V.int))):=by
     rcases hS with (z | z) | ⟨o,its,m,z,zc,_⟩
     ·rcases hO a with y | ⟨o,xs,y⟩
      ·rw[y] at z;cases z
      ·rw[y] at z;cases z
     ·exact z
     ·exact absurd zc (oC hnl z)
  obtain ⟨o,hH⟩:=hH;refine ⟨H,[.scr ns],rfl,Same.refl _,.cons (.scr hH) .nil,fun d m=>by simp at m;subst m;rfl,?_⟩;rw[hFl ns hlen];exact fun v H' S'=>SR.isBl S'
 ·obtain ⟨_,_,_,_,_,_,_,_,_,z⟩:=h
  exact z
theorem bZ{K:PySem.W.Frag}{h:Heap}{mg:Str->Option Value}{x:Str}{st:Stmt}{ps:List Str}{f:Addr}{oc:Value}{od an:Option Addr}{osl:Array (Option Value)}{kV doc pm cdv ct:Value}(X:K.In h)(G:h.Ns mainGlobals mg)
    (a:PySem.W.nsIn K mainGlobals x=some (some (.ref f))) (l:K.lookup f=some ⟨oc,od,.func (PySem.W.fnOf x x (cv st) (bw st) (ar st) .none kV doc pm an cdv ct),osl⟩) (c:PySem.W.codeIn K cdv x=true) (kp:PySem.W.keepIn K (.ref f)=true)
    (hb:∀ (kV doc pm:Value) (an:Option Addr) (cdv ct:Value) (us:List Value),us.length=ps.length->bindArgs (PySem.W.fnOf x x (cv st) (bw st) (ar st) .none kV doc pm an cdv ct) ⟨us,[]⟩=pure (ps.zip us)):Df K mg x st ps:=
 ⟨⟨f,_,iR l c kp,PySem.W.mg_of X G a,(iR (st:=st) l c kp).binds hb⟩⟩
theorem iJ{K:PySem.W.Frag}{h:Heap}{mg:Str->Option Value}{x:Str}{C:Addr}(X:K.In h)(G:h.Ns mainGlobals mg)(a:PySem.W.nsIn K mainGlobals x=some (some (.ref C)))(e:PySem.W.excIn K C gX "ValueError.__new__" = true):XCls K mg x C:=rE (PySem.W.mg_of X G a) e
theorem ub{P:Program}{w:World}{K:PySem.W.Frag}{mg:Str->Option Value}{base:Heap}{N:List Str}{x:Str}{st:Stmt}{ps:List Str}{k:Nat}{g:ad->FOut}{f:Addr}{fd:FuncData}(U:Fun K x x st f fd)(S:FnScope N ps (ar st))
    (hbody:∀ (f:Addr) (cdv:Value) (A:Around) (outer:List Env) (s:Shared) (H:Hp) (E:XK) (Ex:Value->Prop),(∀ C H',Ex C->Same H H'->E C none H')->Room k (A.deeper (envOfC x (ar st) s.heap.objs.size f cdv)) →
     FSs (cxm P w K mg base N x (ar st) f cdv A outer s H E) H Ex (bw st) g):FnOk P w K mg base (CXm P w) (k+1) f fd ps (spF ps.length (a8 N.length g)):=
 md U S fun cdv A outer s H E ds hr hl hx=>⟨g,hbody f cdv A outer s H E _ (fun C H' e sm=>hx C e H' sm) hr,rfl⟩
theorem kt7{K:PySem.W.Frag}{T:String}(h1:PySem.W.kitOne K (.type "NoneType") (.type T)=some (dP "NoneType" T))(h2:PySem.W.kitOne K (.type "bool") (.type T)=some (dP "bool" T))(h3:PySem.W.kitOne K (.type "int") (.type T)=some (dP "int" T))(h4:PySem.W.kitOne K (.type "str") (.type T)=some (dP "str" T))
    (h5:PySem.W.kitOne K (.type "list") (.type T)=some (dP "list" T)) (h6:PySem.W.kitOne K (.type "tuple") (.type T)=some (dP "tuple" T)) (h7:PySem.W.kitOne K (.type "dict") (.type T)=some (dP "dict" T)):KT K T:=fun t ht=>by
 simp only[List.mem_cons,List.not_mem_nil,or_false] at ht;rcases ht with rfl | rfl | rfl | rfl | rfl | rfl | rfl<;>assumption
def dv:List D->Option (List Str)
 | []=>some []
 | .str i::r=>(dv r).map (i::·)
 |_=>none
def fX:List Str->Bool
 | []=>true
 | [_]=>true
 |a::b::r=>PySem.Spec.ltCps a.cps.toList b.cps.toList&&fX (b::r)
def dF:List D->Res D
 | [d]=>match d.its with
  |some ys=>match dv ys with
   |some ss=>if d.isL=true/\fX ss=true/\ss.length<=100000 then .ok (.lst .o (ss.map D.str)) else .bad
   |none=>.bad
  |none=>.bad
 |_=>.bad
def dNe:D->D->Res D:=fun x y=>if li x=true/\li y=true then (match aI 4 x y with
 |some b=>.ok (.bl (!b))
 |none=>.bad) else de true x y
section
variable {X:Cx}{Ex:Value->Prop}{H0:Hp}{a b:Expr}{elts:List Expr}{x1:Nat}{p pos pos':Pos}{ta:TA}{fa:ad->Res (List D)}
end
section
variable {prog:Program}{w:World}{A:Around}{E:Value->Shared->Prop}{s:Shared}{a₀:Array Keyed}{κ:KeyKind}
theorem oE{st:SortSt}{n:Nat}{Q:Option Nat->SortSt->Prop}(hO:κ.OneLt)(h0:KeysOf κ a₀)(hn:n<=a₀.size)(h1:1<=n)(hB:SBase a₀ st)(hs:SortedToK κ (arrOf st) n)(h:Q (some n) st) :
    wpS (model prog w) A E s (countRun' 0 n) Q st:=by
 rw[countRun0_eq];refine wpS_bind (wpS_ascLoopK hO h0 hn (Nat.le_refl 1) h1 hB (fun i j hij hj=>hs i j hij (by omega)) fun k hk1 hk2 _ hor=>?_);have hk:k=n:=by
  rcases hor with e | hlt
  ·exact e
  ·by_cases hkn:k=n
   ·exact hkn
   ·have a1:=hs (k - 1) k (by omega) (by omega)
    exact absurd hlt (by
     have a1:κ.blt (KK κ (arrOf st) k) (KK κ (arrOf st) (k - 1))=false:=a1
     intro hlt
     have hlt:κ.blt (KK κ (arrOf st) k) (KK κ (arrOf st) (k - 1))=true:=hlt
     rw[a1] at hlt;cases hlt)
 subst hk;dsimp only;rw[if_pos (by simp)];exact wpS_pure h
theorem mh:∀ (f n r:Nat),r<=1->minRun' f n r<=n+r
 | 0,n,r,_=>Nat.le_refl _
 |f+1,n,r,hr=>by
  rw[minRun'_succ];split
  ·exact Nat.le_refl _
  ·have:=mh f (n / 2) (max r (n % 2)) (by omega)
   omega
theorem oF{st:SortSt}{Q:Unit->SortSt->Prop}(hO:κ.OneLt)(h0:KeysOf κ a₀)(hB:SBase a₀ st)(h2:2<=a₀.size)(hA:arrOf st=a₀)(hs:SortedToK κ a₀ a₀.size)
    (h:∀ st',arrOf st'=a₀->failedOf st'=none->Q () st'):wpS (model prog w) A E s sortRuns' Q st:=by
 rw[sortRuns'_eq];refine wpS_bind (wpS_get ?_);dsimp only;have hmr:minRun' a₀.size a₀.size 0<=a₀.size:=mh _ _ _ (by omega);simp only[hB.size];refine wpS_bind (wpS_mono (wpS_forRange
  (I:=fun x c st'=>(x=0/\c=(none,0)/\st'=st)\/(1<=x/\c=(none,a₀.size)/\arrOf st'=a₀/\failedOf st'=none/\pendingOf st'=#[(0,a₀.size,0)]))
  (Q:=fun c st'=>c=(none,a₀.size)/\arrOf st'=a₀/\failedOf st'=none/\pendingOf st'=#[(0,a₀.size,0)]) ?step ?fin (.inl ⟨rfl,rfl,rfl⟩)) ?post)
 case fin=>
  rintro c st' (⟨hx,_,_⟩ | ⟨_,hc,hD⟩)
  ·omega
  ·exact ⟨hc,hD⟩
 case step=>
  rintro x c st' _ hx (⟨rfl,rfl,rfl⟩ | ⟨hx1,rfl,hD⟩)
  ·dsimp only
   rw[if_neg (by omega)];simp only[Nat.sub_zero,Nat.zero_add];refine wpS_bind (oE hO h0 (Nat.le_refl _) (by omega) hB (by rw[hA];exact hs) ?_);dsimp only;rw[if_neg (by omega)];refine wpS_bind (wpS_get ?_);have hb:(pendingOf st').back?=none:=by rw[hB.pend];rfl
   rw[hb];dsimp only;exact wpS_bind (wpS_modify (wpS_pure (.inr ⟨by omega,rfl,hA,hB.failed,by show (pendingOf st').push _=_;rw[hB.pend];rfl⟩)))
  ·dsimp only
   rw[if_pos (Nat.le_refl _)];exact wpS_pure ⟨rfl,hD⟩
 case post=>
  rintro c st' ⟨rfl,hD⟩;dsimp only;refine wpS_bind (wpS_mono (wpS_forRange (I:=fun _ c st''=>st''=st'/\c=(none,())) (Q:=fun c st''=>st''=st'/\c=(none,())) ?_ (fun _ _ hh=>hh) ⟨rfl,rfl⟩) ?_)
  ·rintro x c st'' _ _ ⟨rfl,rfl⟩
   refine wpS_bind (wpS_get ?_);rw[if_pos (by rw[hD.2.2];exact Nat.le_refl 1)];exact wpS_pure ⟨rfl,rfl⟩
  ·rintro c st'' ⟨rfl,rfl⟩
   exact wpS_pure (h _ hD.1 hD.2.1)
theorem oG(hO:κ.OneLt){a:Addr}{vs:List Value}{n:Nat}{P:Fin->Shared->Prop}(ho:s.heap.get? a=some (seqObj "list" vs.toArray n))
    (h0:KeysOf κ (pairsOf vs)) (hkk:∀ v₁ v₂ rest,vs=v₁::v₂::rest->keyKind' (v₁::v₂::rest).toArray=pure oneType') (hz:vs.length<=sizeLine) (hs:SortedToK κ (pairsOf vs) (pairsOf vs).size)
    (h:P (.done (.ret .none)) { s with heap:=sortedHeap s.heap a vs ((pairsOf vs).map (·.2)) }) :
    wpAny (model prog w) A (Builtin.«list.sort» ⟨[.ref a],[]⟩) P E s:=by
 rw[list_sort_plain];have ha:a<s.heap.objs.size:=Heap.lt_size ho;refine wpAny_bind (listItems_at ho rfl (wpAny_bind (listUpdate_at ho rfl ?_)));obtain ⟨e1,ho1⟩:∃ e1,(s.heap.update a (Obj.mapSeq fun _=>#[])).get? a=some (seqObj "list" #[] e1):=⟨_,get?_update_seq ho (fun _=>#[])⟩
 refine wpAny_bind (seqEpoch_at ho1 rfl (wpAny_bind (wpAny_newTuple (wpAny_bind (wpAny_newList (wpAny_holding ?_))))));have ho6:(((s.heap.update a (Obj.mapSeq fun _=>#[])).push (seqObj "tuple" vs.toArray 0)).push (seqObj "list" #[] 0)).get? a=some (seqObj "list" #[] e1):=by
  rw[Heap.get?_push_ne _ _ _ (by rw[size_push',Heap.size_update];exact Nat.ne_of_lt (Nat.lt_succ_of_lt ha)),Heap.get?_push_ne _ _ _ (by rw[Heap.size_update];exact Nat.ne_of_lt ha)];exact ho1
 show wpAny (model prog w) A _ P E { s with heap:=((s.heap.update a (Obj.mapSeq fun _=>#[])).push (seqObj "tuple" vs.toArray 0)).push (seqObj "list" #[] 0) };dsimp only;have hsz:vs.toArray.size=vs.length:=by simp
 by_cases h2:vs.toArray.size<2
 ·rw[if_pos h2,if_pos h2]
  refine wpAny_bind (wpAny_pure ?_);rw[StateT.run_pure];refine wpAny_bind (wpAny_pure ?_);dsimp only;refine wpAny_bind (seqEpoch_at ho6 rfl (wpAny_bind (listUpdate_at ho6 rfl ?_ (hsz2:=by rw[Array.size_map];show (pairsOf vs).size<=_;rw[pairsOf_size];exact Nat.le_succ_of_le hz))));simp only[bne_self_eq_false,Bool.false_eq_true,if_false];exact wpAny_pure h
 ·rw[if_neg h2,if_neg h2]
  obtain ⟨v₁,v₂,rest,rfl⟩:∃ v₁ v₂ rest,vs=v₁::v₂::rest:=by
   cases vs with
   |nil=>simp at h2
   |cons v₁ r=>cases r with
    |nil=>simp at h2
    |cons v₂ rest=>exact ⟨v₁,v₂,rest,rfl⟩
  rw[hkk _ _ _ rfl];refine wpAny_bind (wpAny_pure ?_);refine wpAny_bind (wpAny_mono (oF (κ:=κ) hO (a₀:=pairsOf (v₁::v₂::rest)) (st:=SortSt.mk' oneType' ((v₁::v₂::rest).toArray.zip (v₁::v₂::rest).toArray) #[] 7 none)
   (Q:=fun _ st'=>arrOf st'=pairsOf (v₁::v₂::rest)/\failedOf st'=none) h0 ⟨Array.Perm.refl _,rfl,rfl,rfl⟩ (by rw[pairsOf_size];simp) rfl hs fun st' a1 a2=>⟨a1,a2⟩) ?_ fun _ _ e=>e)
  rintro ⟨⟨⟩,st'⟩ s' ⟨rfl,hp,hf⟩;dsimp only;refine wpAny_bind (seqEpoch_at ho6 rfl (wpAny_bind (listUpdate_at ho6 rfl ?_ (hsz2:=by refine Nat.le_trans (Nat.le_of_eq ((Array.size_map ..).trans ((congrArg Array.size hp).trans (pairsOf_size _)))) (Nat.le_succ_of_le hz)))));rw[hf];simp only[bne_self_eq_false,Bool.false_eq_true,if_false];refine wpAny_pure ?_
  have:((arrOf st').map (·.2))=((pairsOf (v₁::v₂::rest)).map (·.2)):=by rw[hp]
  rw[<- this] at h;exact h
theorem rH(hO:κ.OneLt){l:Addr}{vs:List Value}{Q:Value->Shared->Prop}(hl:s.heap.IsList l vs.toArray)(h0:KeysOf κ (pairsOf vs))(hkk:∀ v₁ v₂ rest,vs=v₁::v₂::rest->keyKind' (v₁::v₂::rest).toArray=pure oneType')
    (hz:vs.length<=sizeLine) (hs:SortedToK κ (pairsOf vs) (pairsOf vs).size) (h:Q (.ref (s.heap.objs.size+1)) { s with heap:=sortedAll s.heap vs ((pairsOf vs).map (·.2)) }) :
    wpAny (model prog w) A (call (.builtin "sorted") [.ref l]) Q E s:=by
 refine Calls.call_function_entry kind_sorted plain_sorted entry_sorted (args_sorted1 _) ?_;unfold Builtin.«sorted»;refine wpAny_bind (m:=checkCount "sorted" 1 1 _) (wpAny_pure (wpAny_bind (collect_list hl (wpAny_bind (wpAny_newList ?_)))))
 have hsz:((s.heap.push (seqObj "list" #[] 0)).update s.heap.objs.size (Obj.mapSeq (·++vs.toArray))).objs.size=s.heap.objs.size+1:=by rw[Heap.size_update,size_push']
 have hoL:(((s.heap.push (seqObj "list" #[] 0)).update s.heap.objs.size (Obj.mapSeq (·++vs.toArray))).push (seqObj "list" vs.toArray 0)).get? (s.heap.objs.size+1)=some (seqObj "list" vs.toArray 0):=by rw[<- hsz];exact Heap.get?_push_size _ rfl
 show wpAny _ _ _ _ _ { s with heap:=((s.heap.push (seqObj "list" #[] 0)).update s.heap.objs.size (Obj.mapSeq (·++vs.toArray))).push (seqObj "list" vs.toArray 0) };rw[hsz];refine wpAny_bind (wpAny_holding (wpAny_call_entry slot_list_sort ⟨_,hoL,rfl⟩ entry_list_sort (oG hO hoL h0 hkk hz hs ⟨_,rfl,?_⟩) (args_list_sort _)));exact wpAny_pure ⟨_,rfl,h⟩
end
theorem mi:∀ (l:List Str),fX l=true->l.Pairwise fun a b=>PySem.Spec.ltCps a.cps.toList b.cps.toList=true
 | [],_=>.nil
 | [a],_=>List.pairwise_singleton _ a
 |a::b::r,h=>by
  have h:(PySem.Spec.ltCps a.cps.toList b.cps.toList&&fX (b::r))=true:=h;rw[Bool.and_eq_true] at h;have ih:=mi (b::r) h.2;refine List.pairwise_cons.mpr ⟨fun c hc=>?_,ih⟩;rcases List.mem_cons.mp hc with rfl | hc
  ·exact h.1
  ·have h2:=(List.pairwise_cons.mp ih).1 c hc
   have h1:=h.1;rw[ltCps_eq] at h1 h2 ⊢;exact decide_eq_true (List.lt_trans (of_decide_eq_true h1) (of_decide_eq_true h2))
theorem i3:∀ {us:List Value} {ss:List Str},Vals (ss.map V.str) us->StrsAre us ss
 | [],[],_=>.nil
 | [],_::_,h=>by cases h
 |_::_,[],h=>by cases h
 |u::us,x::ss,h=>by
  cases h with
  |cons r h=>obtain ⟨t,rfl⟩:=r;exact .cons x t (i3 h)
theorem lq{H:Hp}(ns:List Str):Reps H (ns.map V.str) (ns.map D.str):=by
 induction ns with
 |nil=>exact .nil
 |cons n ns ih=>exact .cons .str ih
theorem j7{H:Hp}:∀ {us:List V} {ss:List Str},Reps H us (ss.map D.str)->us=ss.map V.str
 |_,[],.nil=>rfl
 |_,_::_,.cons a r=>by cases a;rw[j7 r];rfl
theorem im:∀ {ys:List D} {ss:List Str},dv ys=some ss->ys=ss.map D.str
 | [],ss,h=>by cases h;rfl
 |d::ys,ss,h=>by
  cases d with
  |str x=>
   have h:(dv ys).map (x::·)=some ss:=h
   cases e:dv ys with
   |none=>rw[e] at h;cases h
   |some r=>rw[e] at h;cases h;rw[im e];rfl
  |_=>cases h
section
variable {X:Cx}
theorem i4:CallR X (.builtin "sorted") (fun xs H Q=>∃ p ss,xs=[.ref p]/\SqL X.K H p (ss.map V.str)/\fX ss=true/\ss.length<=100000/\∀ l,H l=none->Q (.ref l) (upd H l (.lst (ss.map V.str)))):=by
 intro pins s σ H xs us Q I r h;obtain ⟨p,ss,rfl,hq,ho,hz0,q⟩:=h;obtain ⟨u,rfl,rx⟩:=eO r
 cases rx
 obtain ⟨its,rv,pl,hz⟩:=I.list hq;have hS:StrsAre its ss:=i3 rv;have hl:=rv.length;rw[List.length_map] at hl hz;have hsl:its.length<=sizeLine:=by rw[<- hl];exact hz
 have pw:=mi ss ho;have es:=hS.strs;have srt:SortedToK strKind (pairsOf its) (pairsOf its).size:=by
  intro i j hij hj;rw[pairsOf_size] at hj;have key:∀ k (hk:k<its.length),∃ x t,its[k]=.str x t/\ss[k]?=some x/\KK strKind (pairsOf its) k=x.cps.toList:=by
   intro k hk;obtain ⟨x,t,e⟩:=hS.all its[k] (List.getElem_mem hk);refine ⟨x,t,e,?_,?_⟩
   ·rw[<- es,List.getElem?_map,List.getElem?_eq_getElem hk,e];rfl
   ·have hk':k<(pairsOf its).size:=by rw[pairsOf_size];exact hk
    refine KK_str hk' (x:=x) (t:=t) (q:=.str x t) ?_;have:(pairsOf its).toList=its.zip its:=pairsOf_toList its;have h2:(pairsOf its).toList[k]?=some (its[k],its[k]):=by rw[this];exact List.getElem?_zip_eq_some.mpr ⟨(List.getElem?_eq_getElem hk:its[k]?=some (its[k],its[k]).1),(List.getElem?_eq_getElem hk:its[k]?=some (its[k],its[k]).2)⟩
    have h3:(pairsOf its)[k]?=some (its[k],its[k]):=by rw[<- Array.getElem?_toList];exact h2
    rw[Array.getElem?_eq_getElem hk'] at h3;rw[Option.some.inj h3,e]
  obtain ⟨x,t,ex,sx,kx⟩:=key i (by omega);obtain ⟨y,u,ey,sy,ky⟩:=key j hj;rw[kx,ky];show decide (y.cps.toList<x.cps.toList)=false;by_cases e:i=j
  ·subst e
   rw[sx] at sy
   cases sy
   exact decide_eq_false (List.lt_irrefl _)
  ·obtain ⟨i1,i2⟩:=List.getElem?_eq_some_iff.mp sx
   obtain ⟨j1,j2⟩:=List.getElem?_eq_some_iff.mp sy;have:=List.pairwise_iff_getElem.mp pw i j i1 j1 (by omega);rw[i2,j2,ltCps_eq] at this;exact decide_eq_false (List.lt_asymm (of_decide_eq_true this))
 refine rH (κ:=strKind) strKind_oneLt pl.isList hS.keysOf (fun v₁ v₂ rest e=>keyKind_strs (by rw[<- e];exact hS)) hsl srt ?_;obtain ⟨e,he⟩:=sortedAll_at s.heap its ((pairsOf its).map (·.2));have hfresh:H (s.heap.objs.size+1)=none:=I.hok.fresh (Nat.le_succ _);have hout:((pairsOf its).map (·.2)).toList=its:=by
  rw[Array.toList_map,pairsOf_toList,List.map_snd_zip (Nat.le_refl _)]
 refine ⟨.ref (s.heap.objs.size+1),_,I.laid (t':=s.toks) (fun b o h=>sortedAll_old h) (Nat.le_succ _) (?_:ObjOk X.prog X.w _ _ _ (.lst (ss.map V.str))),rfl,q _ hfresh⟩;refine ⟨?_,((pairsOf its).map (·.2)).toList,e,by rw[hout];exact rv,he⟩;rw[List.length_map];exact hz
theorem lr:∀ es,noX (dF es)=true:=by
 intro es;unfold dF;split
 ·split
  ·split
   ·split<;>rfl
   ·rfl
  ·rfl
 ·rfl
theorem nj:FCall X (.builtin "sorted") dF:=by
 refine ⟨CallR.pre i4 ?_⟩;rintro us H Q ⟨Hs,H0,vs,ds,es,d,hl,S,e,k⟩;unfold dF at e;split at e
 ·rename_i d1
  split at e
  ·rename_i ys hy
   split at e
   ·rename_i ss hn
    split at e
    ·rename_i hc
     cases e
     obtain ⟨u,rfl⟩:=cJ hl rfl;have S':SR Hs H0 H (some u::vs) (some d1::ds):=S;obtain ⟨a,us,rfl,ha,Hf,fp,O,F,R⟩:=S'.items hy;rw[hc.1] at ha;have hys:=im hn;subst hys;have hus:=j7 R;subst hus;exact ⟨a,ss,rfl,SqL.of ha,hc.2.1,hc.2.2,fun l hl=>k _ _ (SR.laidL O F (lq _) (fun e m=>by obtain ⟨i,_,rfl⟩:=List.mem_map.mp m;rfl) hl)⟩
    ·cases e
   ·cases e
  ·cases e
 ·cases e
end
section
variable {X:Cx}{pins:List (Addr × Obj)}{σ:St}{H:Hp}{s:Shared}
theorem vj(I:Inv X pins σ H s)(n:Nat){a a':Addr}{d d':D}{b:Bool}(hu:X.A.units+(n+1)<cLine)(r1:Rep H (.ref a) d)(r2:Rep H (.ref a') d')(h:aI (n+1) d d'=some b):SeqAt.RcNeAt X.A s (.ref a) (.ref a') (!b):=by
 have items:∀ {us us':List V} {its its':List Value} {xs ys:List D} {b:Bool},Reps H us xs->Reps H us' ys->Vals us its->Vals us' its'->xs.length=ys.length->cL ((xs.zip ys).map fun p=>aI n p.1 p.2)=some b →
     ∃ e:Nat->Bool,(∀ j (h1:j<its.toArray.size) (h2:j<its'.toArray.size),SeqAt.EqAt X.A.in1 s its.toArray[j] its'.toArray[j] (e j))/\b=(List.range its.toArray.size).all e:=by
  intro us us' its its' xs ys b q1 q2 w1 w2 hl h;obtain ⟨e,he,hb⟩:=iI h;have l1:((xs.zip ys).map fun p=>aI n p.1 p.2).length=its.length:=by rw[List.length_map,List.length_zip,<- w1.length,q1.length];omega
  refine ⟨e,fun j h1 h2=>?_,by rw[hb,l1];rfl⟩;have j1:j<its.length:=by simpa using h1
  have j2:j<its'.length:=by simpa using h2
  have:=he j (by rw[l1];exact j1);rw[List.getElem?_map] at this
  cases ez:(xs.zip ys)[j]? with
  |none=>rw[ez] at this;cases this
  |some p=>
   rw[ez] at this;have hd:aI n p.1 p.2=some (e j):=Option.some.inj this;obtain ⟨hx,hy⟩:=List.getElem?_zip_eq_some.mp ez;obtain ⟨v1,hv1,rp1⟩:=q1.get hx;obtain ⟨v2,hv2,rp2⟩:=q2.get hy;obtain ⟨u1,hu1,rl1⟩:=w1.get hv1;obtain ⟨u2,hu2,rl2⟩:=w2.get hv2;have g1:its.toArray[j]=u1:=by rw[List.getElem?_eq_getElem j1] at hu1;simpa using Option.some.inj hu1
   have g2:its'.toArray[j]=u2:=by rw[List.getElem?_eq_getElem j2] at hu2;simpa using Option.some.inj hu2
   rw[g1,g2];exact (qA I n X.A.in1 (show X.A.units+1+n<cLine by omega) rp1 rp2 rl1 rl2 hd).1
 cases d with
 |lst t xs=>
  cases d' with
  |lst t' ys=>
   cases r1 with
   |lst h1 q1=>
    cases r2 with
    |lst h2 q2=>
     obtain ⟨its,w1,p1,_⟩:=I.list (SqL.of h1);obtain ⟨its',w2,p2,_⟩:=I.list (SqL.of h2);unfold aI at h;by_cases hl:xs.length=ys.length
     ·rw[if_pos hl] at h
      obtain ⟨e,he,hb⟩:=items q1 q2 w1 w2 hl h;rw[hb];exact SeqAt.RcNeAt.lists p1.isList p2.isList (by simp[<- w1.length,<- w2.length,q1.length,q2.length,hl]) (by omega) he
     ·rw[if_neg hl] at h
      cases h
      exact SeqAt.RcNeAt.lists_lengths p1.isList p2.isList (by simp[<- w1.length,<- w2.length,q1.length,q2.length];exact hl) (by omega)
  |_=>simp[aI] at h
 |tup xs=>
  cases d' with
  |tup ys=>
   cases r1 with
   |tup h1 q1=>
    cases r2 with
    |tup h2 q2=>
     obtain ⟨its,w1,p1,_⟩:=I.tuple (SqT.of h1);obtain ⟨its',w2,p2,_⟩:=I.tuple (SqT.of h2);unfold aI at h;by_cases hl:xs.length=ys.length
     ·rw[if_pos hl] at h
      obtain ⟨e,he,hb⟩:=items q1 q2 w1 w2 hl h;have lz:its.toArray.size=its'.toArray.size:=by simp[<- w1.length,<- w2.length,q1.length,q2.length,hl]
      have:=SeqAt.RcNeAt.tuples (s:=s) (A:=X.A) (show s.heap.IsTuple _ its.toArray from p1) (show s.heap.IsTuple _ its'.toArray from p2) (by omega) he;rw[<- lz,Nat.min_self,beq_self_eq_true,Bool.and_true] at this;rw[hb];exact this
     ·rw[if_neg hl] at h;cases h
  |_=>simp[aI] at h
 |int i=>cases r1
 |str i=>cases r1
 |_=>cases r2<;>simp[aI] at h
end
section
variable {X:Cx}
theorem uc(hu:X.A.units+4<cLine):OpR X (compareOp .NotEq) (fun x y H Q=>∃ d d' b a a',x=.ref a/\y=.ref a'/\Rep H x d/\Rep H y d'/\aI 4 d d'=some b/\Q (.bl (!b)) H):=by
 intro pins s σ H x y v u Q I rx ry h;obtain ⟨d,d',b,a,a',rfl,rfl,r1,r2,hd,q⟩:=h
 cases rx;cases ry
 exact vj I 3 hu r1 r2 hd _ _ _ _ ⟨.bl (!b),H,I,rfl,q⟩
theorem mj:∀ x y,noX (dNe x y)=true:=by
 intro x y;unfold dNe;split
 ·split<;>rfl
 ·exact eD _ _ _
theorem qB(hu:X.A.units+4<cLine):FOp X (compareOp .NotEq) dNe:=by
 refine ⟨OpR.pre (OpR.or (uc hu) (i0 (X:=X)).go) ?_⟩;rintro x y H Q ⟨Hs,H0,vs,ds,d1,d2,d,S,e,k⟩;unfold dNe at e;split at e
 ·rename_i hs
  split at e
  ·rename_i b hb
   cases e
   obtain ⟨a,rfl⟩:=gY S.drop.head hs.1;obtain ⟨a',rfl⟩:=gY S.head hs.2;exact .inl ⟨d1,d2,b,a,a',rfl,rfl,S.drop.head,S.head,hb,k _ H S.drop.drop.bl⟩
  ·cases e
 ·exact .inr ⟨Hs,H0,vs,ds,d1,d2,d,S,e,k⟩
end
section
variable {X:Cx}{Ex:Value->Prop}{H0:Hp}{e:Expr}{f:ad->Res D}{pos:Pos}
end
section
variable {X:Cx}{Ex:Value->Prop}{H0:Hp}{a:Expr}{elts:List Expr}{x1:Nat}{p pos pos':Pos}{ta:TA}{fa:ad->Res (List D)}
end
section
variable {X:Cx}{Ex:Value->Prop}{H0:Hp}{c e k:Expr}{f fk:ad->Res D}{pos:Pos}
end
section
variable {X:Cx}
end
section
variable {X:Cx}{Ex:Value->Prop}{H0:Hp}{e:Expr}{pos:Pos}
end
section
variable {X:Cx}{Ex:Value->Prop}{H0:Hp}{st:Stmt}{g:ad->FOut}
end
section
variable {X:Cx}
end
def ej(i:Nat)(f:ad->Res D):ad->FOut:=fun ρ=>match ρ[i]? with
 |some (some (.lst .o xs))=>aft (f ρ) fun d=>match d with
  | .lst .o ys=>if sizeLine<xs.length+ys.length then .bad else .nx (ρ.set i (some (.lst .o (xs++ys))))
  |_=>.bad
 |_=>.bad
section
variable {X:Cx}{Ex:Value->Prop}{H0:Hp}{g:ad->FOut}{body:List Stmt}{pos:Pos}
end
section
variable {X:Cx}
end
section
variable {X:Cx}{Ex:Value->Prop}{H0:Hp}{e:Expr}{f:ad->Res D}{pos:Pos}
end
theorem SR.extend{Hs H0 H:Hp}{vs:List (Option V)}{ds:List (Option D)}{v:V}{ys:List D}(S:SR Hs H0 H (some v::vs) (some (.lst .o ys)::ds))(n:noB ds){i:Nat}{xs:List D}(e:ds[i]?=some (some (.lst .o xs))) :
    ∃ p us b zs,v=.ref b/\vs[i]?=some (some (.ref p))/\H p=some (.lst us)/\us.length=xs.length/\H b=some (.lst zs)/\zs.length=ys.length/\SR Hs H0 (upd H p (.lst (us++zs))) vs (ds.set i (some (.lst .o (xs++ys)))):=by
 obtain ⟨Hf,fp,O,F⟩:=S
 cases O with
 |brw z h r=>cases z
 |cons h r=>
  rename_i f0 f1
  cases h with
  |fz _ z=>cases z
  |lst hb RB=>
   rename_i b zs fb;obtain ⟨p,fpx,fpr,e',q,pm,w⟩:=r.write n (List.nodup_append.mp F.nd).2.1 e rfl
   cases q with
   |lst q R=>
    rename_i us;have pm':(b::fb++f1).Perm (p::(fpx++fb)++(b::fpr)):=by
     refine (List.Perm.append_left (b::fb) pm).trans ?_;simp only[List.cons_append];have a1:(b::(fb++p::(fpx++fpr))).Perm (b::(p::(fb++(fpx++fpr)))):=List.Perm.cons b List.perm_middle;refine a1.trans ((List.Perm.swap p b _).trans (List.Perm.cons p ?_));have a2:(fb++(fpx++fpr)).Perm (fpx++fb++fpr):=by
      rw[<- List.append_assoc];exact List.Perm.append_right _ List.perm_append_comm
     exact (List.Perm.cons b a2).trans List.perm_middle.symm
    have F':=F.perm pm'.symm;have hpn:p∉(fpx++fb)++(b::fpr):=by
     have:=F'.nd;rw[List.cons_append] at this;exact (List.nodup_cons.mp this).1
    have hp:p∈b::fb++f1:=pm'.symm.subset (by simp);have kp:∀ (l:List Addr),(∀ a∈l,a∈(fpx++fb)++(b::fpr))->∀ a o,a∈l->H a=some o->upd H p (.lst (us++zs)) a=some o:=fun l hl a o m z=>
     dA (fun y=>by subst y;exact hpn (hl a m)) z
    have R':RepOs Hf (upd H p (.lst (us++zs))) (fpx++fb) (us++zs) (xs++ys):=
     (R.keep (Same.refl _) (kp fpx fun a m=>by simp[m])).append (RB.keep (Same.refl _) (kp fb fun a m=>by simp[m]))
    obtain ⟨fp',O',p'⟩:=w (upd H p (.lst (us++zs))) (.lst .o (xs++ys)) (p::(fpx++fb)) (kp fpr fun a m=>by simp[m]) (.lst bg R');have sl:(p::(fpx++fb)++fpr).Sublist (p::(fpx++fb)++(b::fpr)):=List.Sublist.append_left (List.sublist_cons_self b fpr) _;have F2:=(F'.subl sl).perm p';exact ⟨p,us,b,zs,rfl,e',q,R.length,hb,RB.length,Hf,fp',O',F.wrote hp F2.nd F2.own⟩
section
variable {X:Cx}{Ex:Value->Prop}{H0:Hp}{e:Expr}{f:ad->Res D}{pos:Pos}
theorem oH{i:Nat}{x:Str}{p1 p2 p3:Pos}(hv:PV X (.Name x p1) i)(he:FE X H0 Ex e f)
    (hbase:attributeBase (.Name x p1) "extend" X.env (eval (.Name x p1) X.env)=eval (.Name x p1) X.env:=by rfl)
    (hfew:((backTo p3 (starEach [e] X.env)).all (fun x=>!x.1)&&(backToKw p3 (keywordEach [] X.env)).all (fun x=>x.1.isSome)&&decide (([e]:List Expr).length+([]:List Keyword).length+(if ([]:List Keyword).isEmpty then 0 else 1)<30))=true:=by rfl)
    (hline:(p2.endLine == p3.line)=true:=by rfl) (hplain:(backTo p3 (starEach [] X.env)).any (·.1)=false:=by rfl) (hs1:starEach [e] X.env=(false,eval e X.env)::starEach [] X.env:=by rfl)
    (hsw:swapsWith (.Call (.Attribute (.Name x p1) "extend" p2) [e] [] p3) none pos.line X.env=pure false:=by rfl) :
    FS X H0 Ex (.Expr (.Call (.Attribute (.Name x p1) "extend" p2) [e] [] p3) pos) (ej i f):=by
 refine ⟨PS.pre (gO (kA PySem.F.plainAttrs_list PySem.F.slot_list_extend PySem.F.type_list_extend n3 hv.go (b8 he.go dk hs1) hbase hfew hline hs1 hplain) hsw) ?_⟩;rintro En σ H ⟨Hs,ρ,⟨S,n⟩,p⟩;unfold ej at p;split at p
 ·rename_i xs hx
  obtain ⟨q,us,hq,hH,hl⟩:=S.recv hx;refine ⟨.ref q,hq,.inl ⟨rfl,us,SqL.of hH⟩,Hs,ρ,[],S,(PostS.aft p).imp fun d _ p1 v H1 S1=>?_⟩;split at p1
  ·rename_i ys _
   split at p1
   ·exact p1.elim
   ·rename_i hc
    have S1:SR Hs H0 H1 (some v::σ) (some (.lst .o ys)::ρ):=S1;obtain ⟨q',us',b,zs,rfl,hq',hH',hl',hb,hzl,S2⟩:=S1.extend n hx;rw[hq] at hq'
    cases hq'
    exact ⟨q,b,us',zs,rfl,rfl,hH',hb,by rw[hl',hzl];omega,p1 σ _ ⟨S2,n.set fun d' z=>by cases z;exact fun y=>nomatch y⟩⟩
  ·exact p1.elim
 ·exact p.elim
end
def gA:List D->Option (List Key)
 | []=>some []
 | .int i::r=>(gA r).map (Sum.inl i::·)
 |_=>none
def fY(ks:List (List Key × D))(k:List Key):Bool:=ks.any fun q=>decide (q.1=k)
def qC:ad->Res D:=fun _=>.ok (.dic .o [])
section
variable {X:Cx}{Ex:Value->Prop}{H0:Hp}{e:Expr}{f fk:ad->Res D}{pos:Pos}
end
theorem fZ{H:Hp}:∀ {us:List V} {es:List D} {k:List Key},Reps H us es->gA es=some k->us=k.map kV
 |_,_,_,.nil,h=>by simp[gA] at h;subst h;rfl
 |_,_,k,.cons (d:=d) a r,h=>by
  cases d with
  |int b=>
   cases a
   unfold gA at h
   cases e:gA _ with
   |none=>rw[e] at h;cases h
   |some cs=>rw[e] at h;cases h;rw[fZ r e];rfl
  |_=>cases h
theorem SR.laidD{Hs H0 H Hf:Hp}{fp:List Addr}{vs:List (Option V)}{ds:List (Option D)}(O:Own Hf H fp vs ds)(F:Fine Hs H0 Hf H fp){p:Addr}(hp:H p=none) :
    SR Hs H0 (upd H p (.dT [])) (some (.ref p)::vs) (some (.dic .o [])::ds):=by
 obtain ⟨hf,h0⟩:=F.fresh hp;have s:Same H (upd H p (.dT [])):=fun b o e=>by rw[aH (aY e hp)];exact e
 refine ⟨Hf,[p]++fp,.cons (.dic bg .nil) (O.mono (Same.refl _) s),?_,?_,F.fh.trans s,F.zh.trans s,F.sf,F.new⟩
 ·refine List.nodup_cons.mpr ⟨fun m=>?_,F.nd⟩
  obtain ⟨o,e⟩:=O.there p m;rw[hp] at e;cases e
 ·intro a m
  rcases List.mem_cons.mp m with e | m
  ·subst e;exact ⟨hf,h0⟩
  ·exact F.own a m
theorem oI{kvs:List (List Key × V)}{ks:List (List Key × D)}(k:List Key)(ke:kvs.map (·.1)=ks.map (·.1)):(kvs.any fun q=>decide (q.1=k))=fY ks k:=by
 unfold fY;have:=congrArg (fun l=>List.any l fun x=>decide (x=k)) ke;simp only[List.any_map] at this;exact this
theorem SR.dputO{Hs H0 H:Hp}{vs:List (Option V)}{ds:List (Option D)}{v:V}{d:D}(S:SR Hs H0 H (some v::vs) (some d::ds))(t:d.tag≠.b)(n:noB ds){i:Nat}{ks:List (List Key × D)}(k:List Key)(hk:fY ks k=false)(e:ds[i]?=some (some (.dic .o ks))) :
    ∃ p kvs,vs[i]?=some (some (.ref p))/\H p=some (.dT kvs)/\kvs.length=ks.length/\SR Hs H0 (upd H p (.dT (cB kvs k v))) vs (ds.set i (some (.dic .o (ks++[(k,d)])))):=by
 obtain ⟨Hf,fp,O,F⟩:=S
 cases O with
 |brw z h r=>exact absurd z t
 |cons h r=>
  rename_i f0 f1;obtain ⟨p,fpx,fpr,e',q,pm,w⟩:=r.write n (List.nodup_append.mp F.nd).2.1 e rfl
  cases q with
  |dic q R0=>
   rename_i kvs;obtain ⟨ke,R⟩:=R0.keys;have pm':(f0++f1).Perm (p::(fpx++f0)++fpr):=by
    refine (List.Perm.append_left f0 pm).trans ?_;rw[List.cons_append,List.cons_append];refine List.perm_middle.trans (List.Perm.cons p ?_);rw[<- List.append_assoc];exact List.Perm.append_right _ List.perm_append_comm
   have F':=F.perm pm'.symm;have hpn:p∉(fpx++f0)++fpr:=by
    have:=F'.nd;rw[List.cons_append] at this;exact (List.nodup_cons.mp this).1
   have hp:p∈f0++f1:=pm'.symm.subset (by simp);have hput:cB kvs k v=kvs++[(k,v)]:=by
    unfold cB;rw[oI k ke,hk];rfl
   have kp:∀ (l:List Addr),(∀ a∈l,a∈(fpx++f0)++fpr)->∀ a o,a∈l->H a=some o->upd H p (.dT (cB kvs k v)) a=some o:=fun l hl a o m z=>
    dA (fun y=>by subst y;exact hpn (hl a m)) z
   have R':RepOs Hf (upd H p (.dT (cB kvs k v))) (fpx++f0) ((kvs++[(k,v)]).map (·.2)) ((ks++[(k,d)]).map (·.2)):=by
    have r1:RepOs Hf (upd H p (.dT (cB kvs k v))) (f0++[]) [v] [d]:=.cons (h.keep (Same.refl _) (kp f0 fun a m=>by simp[m])) .nil;rw[List.append_nil] at r1;rw[List.map_append,List.map_append];exact (R.keep (Same.refl _) (kp fpx fun a m=>by simp[m])).append r1
   obtain ⟨fp',O',p'⟩:=w (upd H p (.dT (cB kvs k v))) (.dic .o (ks++[(k,d)])) (p::(fpx++f0)) (kp fpr fun a m=>by simp[m]) (.dic (kvs:=kvs++[(k,v)]) (by rw[bg,hput]) (RepOk.of (by rw[List.map_append,List.map_append,ke];rfl) R'));refine ⟨p,kvs,e',q,by simpa using congrArg List.length ke,Hf,fp',O',F.wrote hp ?_ ?_⟩
   ·exact (p'.nodup_iff).mpr F'.nd
   ·intro a m
    exact F'.own a (p'.subset m)
section
variable {X:Cx}{Ex:Value->Prop}{H0:Hp}{e k:Expr}{f fk:ad->Res D}{pos:Pos}
theorem rJ:FE X H0 Ex (.Dict [] [] pos) qC:=by
 refine ⟨PE.pre pN ?_⟩;rintro σ H Q ⟨Hs,ρ,ts,S,p⟩;intro q hq;obtain ⟨Hf,fp,O,F⟩:=S;exact p _ _ (SR.laidD O F hq)
theorem p9(hu:X.A.units+1<cLine):sN X (fun o i v H Q=>∃ a H',o=.ref a/\DPut H a i v H'/\Q H'):=by
 intro pins s σ H o i v ov iv u Q I ro ri rv h;obtain ⟨a,H',rfl,g,q⟩:=h
 cases ro
 exact n4 hu I g ri rv fun s' I'=>⟨H',I',q⟩
end
section
variable {X:Cx}{Ex:Value->Prop}{H0:Hp}{e:Expr}{f:ad->Res D}{pos:Pos}
end
section
variable {Hs H0 Hf H:Hp}{fp L:List Addr}{vs:List (Option V)}{ds:List (Option D)}
end
section
variable {X:Cx}{Ex:Value->Prop}{H0:Hp}{CX:CXT}{k n:Nat}{f:Addr}{fd:FuncData}{ps:List Str}{F:List D->Res D}{x:Str}{p pos:Pos}{e:Expr}{es:List Expr}
end
def kD:D->Bool
 | .lst .o xs=>xs.all D.atom
 |_=>false
def kE(F:List D->Res D)(es:List D):Res D:=match F (D.fzs es) with
 | .ok d=>if kD d=true then .ok d else .bad
 |r=>r
def gB(n:Nat)(F:List D->Res D)(fa:ad->Res (List D)):ad->Res D:=fun ρ=>fa ρ >>= fun ds=>if ds.length=n then kE F ds else .bad
def aT:List (List Key × D)->List Key->Option D
 | [],_=>none
 | (k',d)::r,k=>if k'=k then some d else aT r k
def jA(fd fk fx:ad->Res D):ad->Res D:=fun ρ=>fd ρ >>= fun d=>match d with
 | .dic .f ks=>fk ρ >>= fun k=>match k with
  | .tup es=>match gA es with
   |some kk=>fx ρ >>= fun x=>.ok (match aT ks kk with
    |some y=>y.asF
    |none=>x)
   |none=>.bad
  |_=>.bad
 |_=>.bad
def fA(i:Nat)(fk:ad->Res D):ad->FOut:=fun ρ=>match ρ[i]? with
 |some (some (.dic .o ks))=>aft (fk ρ) fun d=>match d with
  | .tup es=>match gA es with
   |some k=>.rt ((aT ks k).getD (.lst .o []))
   |none=>.bad
  |_=>.bad
 |_=>.bad
def fB(i:Nat)(fk f:ad->Res D):ad->FOut:=fun ρ=>match ρ[i]? with
 |some (some (.dic .o ks))=>aft (f ρ) fun d=>aft (fk ρ) fun kd=>match kd with
  | .tup es=>match gA es with
   |some k=>if d.tag=.b\/fY ks k=true\/sizeLine<=ks.length then .bad else .nx (ρ.set i (some (.dic .o (ks++[(k,d)]))))
   |none=>.bad
  |_=>.bad
 |_=>.bad
def ga(hi:Int)(n:Nat):List D:=(List.range n).map fun (i:Nat)=>D.int (hi - (i:Int))
def jB(fa:ad->Res (List D)):ad->Res (List D):=fun ρ=>fa ρ >>= fun es=>match es with
 | [.int i,.int j,.int k]=>if decide (k=-1)&&decide (-(2 ^ 60)<=i)&&decide (i<2 ^ 60)&&decide (-(2 ^ 60)<=j)&&decide (j<2 ^ 60) then .ok (ga i (i - j).toNat) else .bad
 |_=>.bad
theorem ud{Hg H' Hf:Hp}:∀ {us:List V} {xs:List D} {fp:List Addr},RepOs Hg H' fp us xs->xs.all D.atom=true->Reps Hf us xs:=by
 intro us;induction us with
 |nil=>intro xs fp r h;cases r;exact .nil
 |cons u us ih=>
  intro xs fp r h
  cases r with
  |cons a b=>
   simp only[List.all_cons,Bool.and_eq_true] at h;refine .cons ?_ (ih b h.2)
   cases a with
   |fz q _=>exact kX q h.1
   |lst _ _=>cases h.1
   |dic _ _=>cases h.1
   |slf _ _ _=>cases h.1
theorem oJ{xs:List D}(h:xs.all D.atom=true):∀ d∈xs,d.tag=.f:=fun d m=>kY (List.all_eq_true.mp h d m)
theorem SR.allDrop{Hs H0 H:Hp}{vs:List (Option V)}{ds:List (Option D)}:∀ {us:List V} {es:List D},us.length=es.length->SR Hs H0 H (hv us++vs) (hd es++ds)->SR Hs H0 H vs ds:=by
 intro us;induction us using List.reverseRecOn' with
 |nil=>intro es hl S;cases es with | nil=>exact S | cons a b=>simp at hl
 |snoc us u ih=>
  intro es hl S
  cases es using List.reverseRecOn' with
  |nil=>simp at hl
  |snoc es e=>rw[gQ,gR] at S;exact ih (by simpa using hl) S.drop
theorem SR.dropMid{Hs H0 H:Hp}{vs:List (Option V)}{ds:List (Option D)}{v w:V}{d e:D}(S:SR Hs H0 H (some v::some w::vs) (some d::some e::ds)):SR Hs H0 H (some v::vs) (some d::ds):=by
 obtain ⟨Hf,fp,O,F⟩:=S
 cases O with
 |cons h r=>
  cases r with
  |cons h2 r2=>exact ⟨Hf,_,.cons h r2,F.subl (by simp)⟩
  |brw z h2 r2=>exact ⟨Hf,_,.cons h r2,F⟩
 |brw z h r=>
  cases r with
  |cons h2 r2=>exact ⟨Hf,_,.brw z h r2,F.subl (by simp)⟩
  |brw z2 h2 r2=>exact ⟨Hf,_,.brw z h r2,F⟩
theorem lu{H:Hp}(k:List Key):∀ {kvs:List (List Key × V)} {ks:List (List Key × D)},RepK H kvs ks->(aT ks k=none/\cD kvs k=none)\/∃ d v,aT ks k=some d/\cD kvs k=some v/\Rep H v d
 |_,_,.nil=>.inl ⟨rfl,rfl⟩
 |_,_,.cons (k:=k') (v:=v') (d:=d') h r=>by
  by_cases e:k'=k
  ·refine .inr ⟨d',v',?_,?_,h⟩
   ·unfold aT;rw[if_pos e]
   ·rw[et (show _=k from e)]
  ·rcases lu k r with ⟨h1,h2⟩ | ⟨d,v,h1,h2,h3⟩
   ·refine .inl ⟨?_,?_⟩
    ·unfold aT;rw[if_neg e];exact h1
    ·rw[dc (show ¬ _=k from e)];exact h2
   ·refine .inr ⟨d,v,?_,?_,h3⟩
    ·unfold aT;rw[if_neg e];exact h1
    ·rw[dc (show ¬ _=k from e)];exact h2
theorem oK{Hf H:Hp}(k:List Key):∀ {kvs:List (List Key × V)} {ks:List (List Key × D)} {fp:List Addr},kvs.map (·.1)=ks.map (·.1)->RepOs Hf H fp (kvs.map (·.2)) (ks.map (·.2)) →
    (aT ks k=none/\cD kvs k=none)\/∃ d v fq,aT ks k=some d/\cD kvs k=some v/\RepO Hf H fq v d/\fq.Sublist fp:=by
 intro kvs;induction kvs with
 |nil=>intro ks fp e r;cases ks with | nil=>exact .inl ⟨rfl,rfl⟩ | cons a b=>simp at e
 |cons p l ih=>
  intro ks fp e r
  cases ks with
  |nil=>simp at e
  |cons q m=>
   obtain ⟨k',v'⟩:=p;obtain ⟨k2,d'⟩:=q;simp only[List.map_cons,List.cons.injEq] at e;obtain ⟨rfl,e⟩:=e;simp only[List.map_cons] at r
   cases r with
   |cons h1 t1=>
    by_cases hk:k'=k
    ·refine .inr ⟨d',v',_,?_,?_,h1,List.sublist_append_left _ _⟩
     ·unfold aT;rw[if_pos hk]
     ·rw[et (show _=k from hk)]
    ·rcases ih e t1 with ⟨h1,h2⟩ | ⟨d,v,fq,h1,h2,h3,h4⟩
     ·refine .inl ⟨?_,?_⟩
      ·unfold aT;rw[if_neg hk];exact h1
      ·rw[dc (show ¬ _=k from hk)];exact h2
     ·refine .inr ⟨d,v,fq,?_,?_,h3,h4.trans (List.sublist_append_right _ _)⟩
      ·unfold aT;rw[if_neg hk];exact h1
      ·rw[dc (show ¬ _=k from hk)];exact h2
section
variable {X:Cx}{Ex:Value->Prop}{H0:Hp}{CX:CXT}{k n:Nat}{f:Addr}{fd:FuncData}{ps:List Str}{F:List D->Res D}{x:Str}{p pos:Pos}{e:Expr}{es:List Expr}
theorem qa{us:List V}{ds:List D}{Hs H1:Hp}{ts:List (V × D)}{σ:St}{ρ:ad}{Q:VK}(hn:ds.length=n)(hl:us.length=ds.length)(S1:SX Hs H0 H1 (held us ds ts) σ ρ)(p1:Post Ex (kE F ds) fun d=>∀ v H',SX Hs H0 H' ((v,d)::ts) σ ρ->Q v H') :
    spF n F us H1 Q (Exk H0 Ex):=by
 have S2:=SX.held hl S1;unfold kE at p1
 cases eF:F (D.fzs ds) with
 |bad=>rw[eF] at p1;exact p1.elim
 |exc C=>
  rw[eF] at p1;exact ⟨H1,D.fzs ds,by rw[eh];exact hn,Same.refl _,(SR.allRep hl S2).fz,dz ds,by rw[eF];exact fun H' s=>⟨p1,S2.same.trans s⟩⟩
 |ok d=>
  rw[eF] at p1;have p1:Post Ex (if kD d=true then Res.ok d else .bad) fun d=>∀ v H',SX Hs H0 H' ((v,d)::ts) σ ρ->Q v H':=p1;split at p1
  ·rename_i hc
   refine ⟨H1,D.fzs ds,by rw[eh];exact hn,Same.refl _,(SR.allRep hl S2).fz,dz ds,?_⟩;rw[eF];intro v H' S';obtain ⟨Hf,fp,O,G⟩:SX Hs H0 H1 ts σ ρ:=SR.allDrop hl S2;obtain ⟨Hg,fq,Og,Gg⟩:=S'
   cases Og with
   |brw z _ _=>cases d with
    |lst t xs=>cases t with | f=>cases hc | o=>cases z | b=>cases hc
    |_=>cases hc
   |cons h r=>
    cases h with
    |fz _ z=>cases d with
     |lst t xs=>cases t with | f=>cases hc | o=>cases z | b=>cases hc
     |_=>cases hc
    |dic _ _=>cases hc
    |slf _ _ _=>cases hc
    | @lst a us' fpx xs ha R=>
     have hx:xs.all D.atom=true:=hc;have ow:=Gg.own a (by simp);have sm:Same H1 H':=Gg.zh;have hf:Hf a=none:=by
      cases q:Hf a with
      |none=>rfl
      |some o=>have:=G.fh a o q;rw[ow.2] at this;cases this
     have h0:H0 a=none:=by
      cases q:H0 a with
      |none=>rfl
      |some o=>have:=G.zh a o q;rw[ow.2] at this;cases this
     refine p1 (.ref a) H' ⟨Hf,[a]++fp,.cons (.lst ha (RepOs.ofReps (ud R hx) (oJ hx))) (O.mono (Same.refl _) sm),?_,fun b m=>?_,G.fh.trans sm,G.zh.trans sm,G.sf,G.new⟩
     ·refine List.nodup_cons.mpr ⟨fun m=>?_,G.nd⟩
      obtain ⟨o,e⟩:=O.there a m;rw[ow.2] at e;cases e
     ·rcases List.mem_cons.mp m with e | m
      ·subst e;exact ⟨hf,h0⟩
      ·exact G.own b m
  ·exact p1.elim
theorem qb{fa:ad->Res (List D)}(c:Cal X.prog X.w X.K X.mg X.base x n F k)(hx:Pa X H0 Ex)(hr:Room k X.A)(hg:Gl X x)(ha:FA X H0 Ex (e::es) fa)(hn:(e::es).length=n:=by rfl)
    (hdb:(x == ("__debug__" : Str))=false:=by decide) (he:starEach (e::es) X.env=(false,eval e X.env)::starEach es X.env:=by rfl) (hpl:(backTo pos (starEach es X.env)).any (·.1)=false:=by rfl) :
    FE X H0 Ex (.Call (.Name x p) (e::es) [] pos) (gB n F fa):=by
 obtain ⟨f,fd,ps,G,hm,hk,hb⟩:=c.ex;refine ⟨PE.pre (ju (dvs:=[]) (E:=Exk H0 Ex) G hr hg hm hk hb .nil hx.go ha.go hdb he hpl) ?_⟩;rintro σ H Q ⟨Hs,ρ,ts,S,p⟩;refine ⟨Hs,ρ,ts,S,(Post.bind p).imp fun ds _ p1 us H1 hl S1=>?_⟩;split at p1
 ·rename_i hds
  rw[List.append_nil];exact qa hds hl S1 p1
 ·exact p1.elim
end
section
variable {X:Cx}{Ex:Value->Prop}{H0:Hp}{o e g:Expr}{fd fk fx f:ad->Res D}{apos cpos pos:Pos}
theorem qD(base:attributeBase o "get" X.env (eval o X.env)=eval o X.env)(few:((backTo cpos (starEach [e,g] X.env)).all (fun x=>!x.1)&&(backToKw cpos (keywordEach [] X.env)).all (fun x=>x.1.isSome)
    && decide (([e,g]:List Expr).length+([]:List Keyword).length+(if ([]:List Keyword).isEmpty then 0 else 1)<30))=true) (line:(apos.endLine == cpos.line)=true) (trees:backTo cpos (starEach [e,g] X.env)=[(false,eval e X.env),(false,eval g X.env)]):M2 X o "get" apos e g cpos:=⟨base,few,line,trees⟩
theorem ue(hu:X.A.units+4<cLine)(hd:FE X H0 Ex o fd)(hk:FE X H0 Ex e fk)(hx:FE X H0 Ex g fx)(m:M2 X o "get" apos e g cpos:=by exact qD rfl rfl rfl rfl):FE X H0 Ex (.Call (.Attribute o "get" apos) [e,g] [] cpos) (jA fd fk fx):=by
 refine ⟨PE.pre (kU (by omega) hd.go hk.go hx.go m) ?_⟩;rintro σ H Q ⟨Hs,ρ,ts,S,p⟩;refine ⟨Hs,ρ,ts,S,(Post.bind p).imp fun d1 _ p1 v1 H1 S1=>?_⟩;split at p1
 ·rename_i ks _
  have hh:Rep H1 v1 (.dic .f ks):=SR.head S1
  cases hh with
  |dic q1 R1=>
   rename_i a kvs;refine ⟨a,rfl,.inr ⟨kvs,.inl q1⟩,Hs,ρ,_,S1,(Post.bind p1).imp fun d2 _ p2 v2 H2 S2=>?_⟩;split at p2
   ·rename_i es _
    split at p2
    ·rename_i kk hkk
     refine ⟨Hs,ρ,_,S2,(Post.bind p2).imp fun d3 _ p3 v3 H3 S3=>?_⟩;have S3:SR Hs H0 H3 (some v3::some v2::some (.ref a)::(tvs ts++σ)) (some d3::some (.tup es)::some (.dic .f ks)::(tds ts++ρ)):=S3;have h2:=S3.drop.head
     cases h2 with
     |tup q2 R2=>
      have e2:=fZ R2 hkk;subst e2;obtain ⟨Hf,fp,O,G⟩:=id S3.drop.drop
      cases O with
      |brw z _ _=>cases z
      |cons hd' r=>
       cases hd' with
       |fz hd' _=>
        cases hd' with
        |dic q3 R3=>
         rename_i kvs3;have q3':=G.fh _ _ q3;refine ⟨cD kvs3 kk,DGet.t q3' q2,?_⟩;rcases lu kk R3 with ⟨g1,g2⟩ | ⟨y,w,g1,g2,g3⟩
         ·rw[g2]
          rw[g1] at p3;exact p3 v3 H3 S3.dropMid.dropMid
         ·rw[g2]
          rw[g1] at p3;exact p3 w H3 ⟨Hf,_,.cons (.fz g3.asF y.asF_tag) r,G⟩
    ·exact p2.elim
   ·exact p2.elim
 ·exact p1.elim
theorem oM{i:Nat}{x:Str}{p1 p2:Pos}(hu:X.A.units+4<cLine)(hv:PV X (.Name x p1) i)(hk:FE X H0 Ex e fk)(m:M2 X (.Name x p1) "get" apos e (.List [] p2) cpos:=by exact qD rfl rfl rfl rfl) :
    FS X H0 Ex (.Return (some (.Call (.Attribute (.Name x p1) "get" apos) [e,.List [] p2] [] cpos)) pos) (fA i fk):=by
 refine ⟨PS.pre (kL (kU (by omega) hv.go hk.go (cG (H0:=H0) (Ex:=Ex) aj).go m)) ?_⟩;rintro D σ H ⟨Hs,ρ,⟨S,n⟩,p⟩;unfold fA at p;split at p
 ·rename_i ks hx
  obtain ⟨v0,hv0,S0⟩:=S.get hx;have hh:=S0.head
  cases hh with
  |dic q1 R1=>
   rename_i a kvs;refine ⟨_,hv0,a,rfl,.inr ⟨kvs,.inl q1⟩,Hs,ρ,[],S,(PostS.aft p).imp fun d2 _ p2 v2 H2 S2=>?_⟩;split at p2
   ·rename_i es _
    split at p2
    ·rename_i kk hkk
     refine ⟨Hs,ρ,[(v2,.tup es)],S2,?_⟩;show Post Ex ((Res.ok []) >>= _) _;intro v3 H3 S3;have S3:SR Hs H0 H3 (some v3::some v2::σ) (some (.lst .o [])::some (.tup es)::ρ):=S3;have h2:=S3.drop.head
     cases h2 with
     |tup q2 R2=>
      have e2:=fZ R2 hkk;subst e2;obtain ⟨Hf,fp,O,G⟩:=id S3.drop.drop;obtain ⟨u,f1,f2,hu',hO,_,pm⟩:=O.take hx (fun z=>nomatch z);rw[hv0] at hu'
      cases hu'
      cases hO with
      |fz _ z=>cases z
      |dic q3 R30=>
       rename_i kvs3;obtain ⟨ke,R3⟩:=R30.keys;have q3':H3 a=some (.dT kvs3):=q3;refine ⟨cD kvs3 kk,DGet.t q3' q2,?_⟩;rcases oK kk ke R3 with ⟨g1,g2⟩ | ⟨y,w,fq,g1,g2,g3,g4⟩
       ·rw[g2]
        rw[g1] at p2;exact p2 v3 H3 (SR.only (vs':=[]) (ds':=[]) S3)
       ·rw[g2]
        rw[g1] at p2;have G':=G.perm pm.symm;exact p2 w H3 ⟨Hf,fq++[],.cons g3 .nil,G'.subl (by rw[List.append_nil];exact (g4.trans (List.sublist_cons_self _ _)).trans (List.sublist_append_left _ _))⟩
    ·exact p2.elim
   ·exact p2.elim
 ·exact p.elim
theorem qc{i:Nat}{x:Str}{p1 p2:Pos}{k:Expr}(hu:X.A.units+4<cLine)(hv:PV X (.Name x p1) i)(he:FE X H0 Ex e f)(hk:FE X H0 Ex k fk)
    (ha:∀ v,assign (.Subscript (.Name x p1) k p2) X.env v=(do
     let ov <- holding [v] (eval (.Name x p1) X.env)
     let iv <- holding [v,ov] (eval k X.env)
     standAt p2
     holding [v,ov,iv] (setItem ov iv v)
     release [v,ov,iv] []):=by intro _;rfl)
    (hs:swapsWithSole [.Subscript (.Name x p1) k p2] e pos.line X.env=pure false:=by rfl) (hw:swappedStores [.Subscript (.Name x p1) k p2] e X.env=pure none:=by rfl)
    (h1:(assignEach [.Subscript (.Name x p1) k p2] X.env).map (·.2)=[assign (.Subscript (.Name x p1) k p2) X.env]:=by rfl) :
    FS X H0 Ex (.Assign [.Subscript (.Name x p1) k p2] e pos) (fB i fk f):=by
 refine ⟨PS.pre (sQ he.go (sP hv.go hk.go (p9 (by omega)) ha) hs hw h1) ?_⟩;rintro En σ H ⟨Hs,ρ,⟨S,n⟩,p⟩;unfold fB at p;split at p
 ·rename_i ks hx
  obtain ⟨v0,hv0,S0⟩:=S.get hx;have hh:=S0.head
  cases hh with
  |dic q _=>
   refine ⟨Hs,ρ,[],S,(PostS.aft p).imp fun d _ p1 v H1 S1=>⟨_,hv0,Hs,ρ,[(v,d)],S1,(PostS.aft p1).imp fun kd _ p2 w H2 S2=>?_⟩⟩;have S2:SR Hs H0 H2 (some w::some v::σ) (some kd::some d::ρ):=S2;split at p2
   ·rename_i es _
    split at p2
    ·rename_i kk hkk
     split at p2
     ·exact p2.elim
     ·rename_i hc
      have h3:=S2.head
      cases h3 with
      |tup q3 R3=>
       have e3:=fZ R3 hkk;subst e3;have hkf:fY ks kk=false:=by
        cases q:fY ks kk with
        |false=>rfl
        |true=>exact absurd (.inr (.inl q)) hc
       obtain ⟨p',kvs,hp',hH',hl',S3⟩:=S2.drop.dputO (fun z=>hc (.inl z)) n kk hkf hx;rw[hv0] at hp'
       cases hp'
       exact ⟨_,_,rfl,DPut.t hH' q3 (by rw[hl'];exact Nat.lt_of_not_le fun z=>hc (.inr (.inr z))),p2 σ _ ⟨S3,n.set fun d' z=>by cases z;exact fun y=>nomatch y⟩⟩
    ·exact p2.elim
   ·exact p2.elim
 ·exact p.elim
end
def Itd(hi:Int)(n:Nat):It where
 go:=fun i _=>i<n
 stop:=fun i _=>n<=i
 yld:=fun i H x H'=>H'=H/\x=.int (hi - (i:Int))
section
variable {X:Cx}{tg:Expr}{pos:Pos}
theorem oN{P:Program}{w:World}{K:PySem.W.Frag}{tg:Expr}(it:Addr)(hi:Int)(n:Nat):Turn P w K tg (Itd hi n) [it] it (fun i h=>IsRangeIter h it (hi+(i:Nat) * -1) ((n:Int) - (i:Nat)) (-1)) where
 mem:=by simp
 obj:=fun i h st b hb=>by
  have e:b=it:=by simpa using hb
  subst e;exact ⟨_,st,fun v z=>by
   have z':Data.fields _=Data.cell v:=z
   cases z'⟩
 keep:=fun i h h' st k=>k it (by simp) _ st;item:=by
  intro X hP hw hK hc i pins s σ H E I hf st hg;subst hP hw hK;obtain ⟨f0,f1,f2,f3,f4,f5⟩:=hf it (by simp);have W:=Walks.range (prog:=X.prog) (w:=X.w) (I.ok.hd hc) it hi (-1) n;refine W.item i s _ _ hg st fun v h' tk hv st' kk=>?_;obtain ⟨t,rfl⟩:=hv;have I1:Inv X pins σ H { s with heap:=h',toks:=tk }:=I.turned (fun b o hb e=>kk b o (by simpa using hb) e) f0 f1 f3 f4 f5
  refine ⟨_,rfl,iO (s:={ s with heap:=h',toks:=tk }) (n := "range_iterator") st' rfl rfl (by decide) ⟨.int (hi - i),H,I1,⟨t,?_⟩,⟨rfl,rfl⟩,st',fun b hb=>(hf b hb).1⟩⟩;have:hi+(i:Int) * -1=hi - i:=by omega
  rw[this]
 done:=by
  intro X hP hw hK hc i pins s σ H E I hf st hg;subst hP hw hK;obtain ⟨f0,f1,f2,f3,f4,f5⟩:=hf it (by simp);exact wpAny_pyNext_range_end (I.ok.hd hc) st (by have:n<=i:=hg;omega) fun h' eb=>⟨rfl,I.turned (t':=s.toks) (fun b o hb e=>eb b o hb e) f0 f1 f3 f4 f5⟩
 self:=fun _ _ _ _ _ st h=>wpAny_pyIter_rangeiter st h
theorem fE{a b:Int}:Builtin.Range.rangeSize a b (-1)=((a - b).toNat:Nat):=by
 unfold Builtin.Range.rangeSize
 repeat' split
 all_goals (simp at *;try omega)
theorem nk{a b:Int}(ha:-(2 ^ 60)<=a)(ha':a<2 ^ 60)(hb:-(2 ^ 60)<=b)(hb':b<2 ^ 60):Builtin.Range.small a b (-1)=true:=by
 unfold Builtin.Range.small;rw[fE];simp only[Builtin.Range.rangeFitsLong,Bool.and_eq_true,Bool.or_eq_true,decide_eq_true_eq,beq_iff_eq,show ¬ (-1:Int) > 0 by decide,if_false];omega
theorem rK{pins:List (Addr × Obj)}{σ:St}{H:Hp}{s:Shared}{R:It->Hp->Prop}{E:Value->Shared->Prop}{lo hi:Int}{t u v:Tok}{tk:Nat}(I:Inv X pins σ H s)(h1:-(2 ^ 60)<=lo)(h2:lo<2 ^ 60)(h3:-(2 ^ 60)<=hi)(h4:hi<2 ^ 60)
    (q:R (Itd hi (hi - lo).toNat) H):wpAny (model X.prog X.w) X.A (pyIter (.ref s.heap.objs.size)) (PIE X pins σ tg R) E { s with heap:=s.heap.push { cls:=.type "range", data:=.fields #[.int hi t,.int lo u,.int (-1) v] },toks:=tk }:=by
 refine wpAny_pyIter_range (IsRange.new ..) (nk h3 h4 h1 h2) ?_;have I1:Inv X pins σ H { s with heap:=s.heap.push { cls:=.type "range", data:=.fields #[.int hi t,.int lo u,.int (-1) v] },toks:=tk }:=I.kept fun b o e=>Heap.get?_push_of_some _ e
 refine ⟨(s.heap.push { cls:=.type "range", data:=.fields #[.int hi t,.int lo u,.int (-1) v] }).objs.size,[(s.heap.push { cls:=.type "range", data:=.fields #[.int hi t,.int lo u,.int (-1) v] }).objs.size],_,_,H,rfl,
  I1.kept (t':=tk) fun b o e=>Heap.get?_push_of_some _ e,oN _ hi (hi - lo).toNat,?_,fun b hb=>?_,q⟩
 ·have e1:hi+((0:Nat):Int) * -1=hi:=by simp
  have e2:(((hi - lo).toNat:Nat):Int) - ((0:Nat):Int)=Builtin.Range.rangeSize hi lo (-1):=by rw[fE];simp
  show IsRangeIter _ _ (hi+((0:Nat):Int) * -1) ((((hi - lo).toNat:Nat):Int) - ((0:Nat):Int)) (-1);rw[e1,e2];exact Heap.get?_push_size _ rfl
 ·have e:b=(s.heap.push { cls:=.type "range", data:=.fields #[.int hi t,.int lo u,.int (-1) v] }).objs.size:=by simpa using hb
  subst e;exact I1.fpOk (Nat.le_refl _) (I1.hok.fresh (Nat.le_refl _))
def vk(ta:TA):TI:=fun σ H R=>ta σ H fun vs H1=>∃ i j:Int,vs=[.int i,.int j,.int (-1)]/\(-(2 ^ 60)<=i/\i<2 ^ 60/\-(2 ^ 60)<=j/\j<2 ^ 60)/\R (Itd i (i - j).toNat) H1
theorem oO{a b c:Expr}{ta:TA}{p pos:Pos}(hg:Gl X "range")(hm:X.mg "range" = none)(ha:PA X [a,b,c] ta)(hs:starEach [a,b,c] X.env=[(false,eval a X.env),(false,eval b X.env),(false,eval c X.env)]:=by rfl)(hs2:starEach [b,c] X.env=[(false,eval b X.env),(false,eval c X.env)]:=by rfl) :
    PI X tg (.Call (.Name "range" p) [a,b,c] [] pos) (vk ta):=by
 intro pins s σ H R I h;refine Call_ (eo I hg hm boot_range (PyProof.Rows.callWith_type1 (thn (ha pos pins s σ H _ I h) fun us s1 ⟨vs,H1,I1,r1,q1⟩=>?_) (by rw[hs,hs2]) (by rw[hs2];rfl)));obtain ⟨i,j,e,⟨q1,q2,q3,q4⟩,q⟩:=q1;subst e
 cases r1 with
 |cons r rr=>
  cases rr with
  |cons r' rr=>
   cases rr with
   |cons r'' rr=>
    cases rr
    obtain ⟨t,rfl⟩:=r;obtain ⟨t',rfl⟩:=r';obtain ⟨t'',rfl⟩:=r'';exact call_range_3 (by decide) (rK I1 q3 q4 q1 q2 q) (Or.inl (PyProof.noPylong_small (by omega)))
theorem uf{hi:Int}{n:Nat}{B:Hp}:dZ (Itd hi n) B (ga hi n):=by
 intro H s i;refine ⟨fun d hd=>?_,fun hi=>(show n<=i from Nat.le_of_eq (by simpa [ga] using hi.symm))⟩;simp only[ga,List.getElem?_map] at hd
 cases e:(List.range n)[i]? with
 |none=>rw[e] at hd;cases hd
 |some j=>
  rw[e] at hd;obtain ⟨h1,h2⟩:=List.getElem?_eq_some_iff.mp e;simp at h1 h2;subst h2;have hd:D.int (hi - (i:Int))=d:=Option.some.inj hd;subst hd;exact ⟨h1,fun x H' ⟨e1,e2⟩=>⟨rfl,.inl ⟨e1,by rw[e2];exact .int⟩⟩⟩
theorem j8{Ex:Value->Prop}{H0:Hp}{a b c:Expr}{p:Pos}{fa:ad->Res (List D)}(hg:Gl X "range")(hm:X.mg "range" = none)(ha:FA X H0 Ex [a,b,c] fa)(hs:starEach [a,b,c] X.env=[(false,eval a X.env),(false,eval b X.env),(false,eval c X.env)]:=by rfl)(hs2:starEach [b,c] X.env=[(false,eval b X.env),(false,eval c X.env)]:=by rfl):FI X H0 Ex tg (.Call (.Name "range" p) [a,b,c] [] pos) (jB fa):=by
 refine ⟨PI.pre (oO hg hm ha.go hs hs2) ?_⟩;rintro σ H R ⟨Hs,ρ,ts,S,p⟩;refine ⟨Hs,ρ,ts,S,(Post.bind p).imp fun es _ p1 us H1 hl S1=>?_⟩;split at p1
 ·rename_i i j k _
  split at p1
  ·rename_i hc
   simp at hc;obtain ⟨⟨⟨⟨rfl,c1⟩,c2⟩,c3⟩,c4⟩:=hc;obtain ⟨u,w,z,rfl⟩:∃ u w z,us=[u,w,z]:=by
    cases us with
    |nil=>simp at hl
    |cons u r=>cases r with | nil=>simp at hl | cons w r=>cases r with | nil=>simp at hl | cons z r=>cases r with | nil=>exact ⟨u,w,z,rfl⟩ | cons _ _=>simp at hl
   have S2:=SX.held hl S1;simp[hv,hd] at S2
   cases SR.isInt S2
   cases SR.isInt S2.drop
   cases SR.isInt S2.drop.drop
   obtain ⟨Hf,fp,O,F⟩:=S2.drop.drop.drop;exact ⟨i,j,rfl,by omega,p1 _ H1 Hf fp uf O F⟩
  ·exact p1.elim
 ·exact p1.elim
end
section
variable {X:Cx}{Ex:Value->Prop}{H0:Hp}{o e g:Expr}{fd fk fx f:ad->Res D}{apos cpos pos:Pos}
end
end Mi
namespace Lw
open PySem PySem.Spec L2 Mi
open PyProof.Rows hiding St
def top(i:Nat):Stmt:=PySem.Challenge.pw_lonewalks_k03_all_walks.main.body.getD i (.Pass ⟨0,0,0,0⟩)
def gc(i j:Nat):Stmt:=match top i with
 | .ClassDef _ _ _ b _ _ _ _ _ _ _=>b.getD j (.Pass ⟨0,0,0,0⟩)
 |_=>.Pass ⟨0,0,0,0⟩
structure Ads where
 BadNet:Addr
 BadWalk:Addr
 WalkError:Addr
 Net:Addr
structure Bl (K:PySem.W.Frag) (mg:Str->Option Value) (a:Ads):Prop where
 b_all:mg "all" = none
 b_int:mg "int" = none
 b_isinstance:mg "isinstance" = none
 b_len:mg "len" = none
 b_list:mg "list" = none
 b_max:mg "max" = none
 b_min:mg "min" = none
 b_range:mg "range" = none
 b_sorted:mg "sorted" = none
 b_str:mg "str" = none
 c_LETTERS:∃ t,mg "LETTERS" = some (.str "ru" t)
 c_MOST_SIDE:∃ t,mg "MOST_SIDE" = some (.int 8 t)
 c_MOST_WALKERS:∃ t,mg "MOST_WALKERS" = some (.int 4 t)
 c_MOST_WEIGHT:∃ t,mg "MOST_WEIGHT" = some (.int 1000 t)
 k_list:KT K "list"
 k_str:KT K "str"
 x_BadNet:XCls K mg "BadNet" a.BadNet
 x_BadWalk:XCls K mg "BadWalk" a.BadWalk
 x_WalkError:XCls K mg "WalkError" a.WalkError
 s_BadWalk_WalkError:PySem.W.kitOne K (.ref a.BadWalk) (.ref a.WalkError)=some true
 cl_Net:Cls K a.Net
 na_Net_columns:NoAttr K a.Net "columns"
 na_Net_ends:NoAttr K a.Net "ends"
 na_Net_right:NoAttr K a.Net "right"
 na_Net_rows:NoAttr K a.Net "rows"
 na_Net_starts:NoAttr K a.Net "starts"
 na_Net_up:NoAttr K a.Net "up"
variable {P:Program}{w:World}{K:PySem.W.Frag}{mg:Str->Option Value}{base:Heap}{a:Ads}
def eJ(a:Ads):ad->FOut:=
 (gIf (b7 (ftB (bD (fun i j=>decide (i<=j)) (fun i j=>decide (i<=j)) (fC (.int 1)) (ac 0) (fC (.int 8))))) (fun _=>.exc (.ref a.BadNet)) aR)
def bQ(a:Ads):List D->Res D:=a8 1 (eJ a)
theorem gi:FnScope ["length"] ["length"] (ar (top 8)):=⟨rfl,rfl,rfl,by decide +kernel,rfl,by decide +kernel,by decide +kernel⟩
theorem kr(B:Bl K mg a)(U:Df K mg "check_side" (top 8) ["length"])  : Cal P w K mg base "check_side" 1 (bQ a) 1:=by
 refine bJ (k:=0) (N:=["length"]) U gi fun f cdv A outer s H E Ex hE hr=>?_;have sc:=gi;exact (ax (bI (eA (eG d6 d6 ai (ae 0 (mv 0)) (jw rfl B.c_MOST_SIDE.choose_spec ⟨_,rfl⟩))) (ax (cK B.x_BadNet hE rfl)) ba))
def d4(a:Ads):ad->FOut:=
 (av (gIf (ft2 (de true) (fCB a7 (aa (ac 0) ag)) (ac 1)) (fun _=>.exc (.ref a.BadNet)) aR)
 (b9 (aG (ac 0)) (au 3) (av (gIf (ft2 (de true) (fCB a7 (aa (ac 3) ag)) (ac 2)) (fun _=>.exc (.ref a.BadNet)) aR)
 (gIf (b7 (ftB (fCB fj (aa (aF 1 [] (aG (ac 3)) (au 0) aL (bD (fun i j=>decide (i<=j)) (fun i j=>decide (i<=j)) (fC (.int 0)) (ac 0) (fC (.int 1000)))) ag)))) (fun _=>.exc (.ref a.BadNet)) aR))))
def bL(a:Ads):List D->Res D:=a8 4 (d4 a)
theorem fF:FnScope ["lists", "count", "length", "weights"] ["lists", "count", "length"] (ar (top 9)):=⟨rfl,rfl,rfl,by decide +kernel,rfl,by decide +kernel,by decide +kernel⟩
theorem jC(B:Bl K mg a)(U:Df K mg "check_steps" (top 9) ["lists", "count", "length"])  : Cal P w K mg base "check_steps" 3 (bL a) 1:=by
 refine bJ (k:=0) (N:=["lists", "count", "length", "weights"]) U fF fun f cdv A outer s H E Ex hE hr=>?_;have sc:=fF;exact (am (bI (bh i0 (eD _) (aO bA bc rfl B.b_len (by decide +kernel) (af (ae 0 (mv 0)) aj)) (ae 1 (mv 1)) (aU _)) (ax (cK B.x_BadNet hE rfl)) ba)
  (ax (cI dr rfl (cb (ae 0 (mv 0))) (aX (i:=3) sc.nd rfl (.inl rfl)) (am (bI (bh i0 (eD _) (aO bA bc rfl B.b_len (by decide +kernel) (af (ae 3 (mv 3)) aj)) (ae 2 (mv 2)) (aU _)) (ax (cK B.x_BadNet hE rfl)) ba)
  (ax (bI (eA (k7 (aO (oA rfl) lj rfl B.b_all (by decide +kernel) (af (cw rfl (CompScope.of (own:=["weight"]) (cap:=[]) rfl (by decide +kernel) rfl rfl (by decide +kernel)) (cb (ae 3 (mv 3))) (fun C cells s0 H0 ex pn hN=>⟨(aX (i:=0) hN rfl (by first | exact Or.inl rfl | exact Or.inr rfl)),bT,(pV d6 d6 ai (ae 0 (mv 0)) (jw rfl B.c_MOST_WEIGHT.choose_spec ⟨_,rfl⟩))⟩)) aj)))) (ax (cK B.x_BadNet hE rfl)) ba))))))
def dG(a:Ads):ad->FOut:=
 (av (gIf (b7 (ftB (bD (fun i j=>decide (i<=j)) (fun i j=>decide (i<=j)) (fC (.int 1)) (fCB a7 (aa (ac 0) ag)) (fC (.int 4))))) (fun _=>.exc (.ref a.BadNet)) aR)
 (av (ay 2 (fFz (f1 fU (fC (.int 1)))))
 (b9 (aG (ac 0)) (au 3) (av (gIf (b7 (ftB (bD (fun i j=>decide (i<j)) (fun i j=>decide (i<j)) (ac 2) (ac 3) (ac 1)))) (fun _=>.exc (.ref a.BadNet)) aR)
 (ay 2 (fFz (ac 3)))))))
def bE(a:Ads):List D->Res D:=a8 4 (dG a)
theorem eR:FnScope ["chosen", "rows", "last", "row"] ["chosen", "rows"] (ar (top 10)):=⟨rfl,rfl,rfl,by decide +kernel,rfl,by decide +kernel,by decide +kernel⟩
theorem i5(B:Bl K mg a)(U:Df K mg "check_border" (top 10) ["chosen", "rows"])  : Cal P w K mg base "check_border" 2 (bE a) 1:=by
 refine bJ (k:=0) (N:=["chosen", "rows", "last", "row"]) U eR fun f cdv A outer s H E Ex hE hr=>?_;have sc:=eR;exact (am (bI (eA (eG d6 d6 ai (aO bA bc rfl B.b_len (by decide +kernel) (af (ae 0 (mv 0)) aj)) (jw rfl B.c_MOST_WALKERS.choose_spec ⟨_,rfl⟩))) (ax (cK B.x_BadNet hE rfl)) ba)
  (am (aK (i:=2) sc.nd rfl (.inl rfl) (be (gw ai)))
  (ax (cI dr rfl (cb (ae 0 (mv 0))) (aX (i:=3) sc.nd rfl (.inl rfl)) (am (bI (eA (eG iP iP (ae 2 (mv 2)) (ae 3 (mv 3)) (ae 1 (mv 1)))) (ax (cK B.x_BadNet hE rfl)) ba)
  (ax (aK (i:=2) sc.nd rfl (.inl rfl) (be (ae 3 (mv 3))))))))))
def nq(a:Ads):ad->FOut:=
 (av (bW (ao 1 (bQ a) (aa (fCB a7 (aa (ac 1) ag)) ag)))
 (av (ay 5 (fFz (fCB a7 (aa (ac 1) ag))))
 (av (ay 6 (fFz (f2 aJ (fCB a7 (aa (f2 dIx (ac 1) (fC (.int 0))) ag)) (fC (.int 1)))))
 (av (bW (ao 1 (bQ a) (aa (ac 6) ag)))
 (av (bW (ao 3 (bL a) (aa (ac 1) (aa (ac 5) (aa (f2 b4 (ac 6) (fC (.int 1))) ag)))))
 (av (bW (ao 3 (bL a) (aa (ac 2) (aa (f2 b4 (ac 5) (fC (.int 1))) (aa (ac 6) ag)))))
 (av (bW (ao 2 (bE a) (aa (ac 3) (aa (ac 5) ag))))
 (av (bW (ao 2 (bE a) (aa (ac 4) (aa (ac 5) ag))))
 (av (gIf (ft2 (de true) (fCB a7 (aa (ac 3) ag)) (fCB a7 (aa (ac 4) ag))) (fun _=>.exc (.ref a.BadNet)) aR)
 (av (cW 0 a.Net "right" (aF 1 [] (aG (ac 1)) (au 0) aL (fCB bt (aa (ac 0) ag))))
 (av (cW 0 a.Net "up" (aF 1 [] (aG (ac 2)) (au 0) aL (fCB bt (aa (ac 0) ag))))
 (av (cW 0 a.Net "starts" (fCB bt (aa (ac 3) ag)))
 (av (cW 0 a.Net "ends" (fCB bt (aa (ac 4) ag)))
 (av (cW 0 a.Net "columns" (ac 6))
 (cW 0 a.Net "rows" (ac 5))))))))))))))))
def i6(a:Ads):Addr->List D->Res (List (Str × D)):=bY a.Net 7 (nq a)
theorem oP:FnScope ["self", "right", "up", "starts", "ends", "rows", "columns"] ["self", "right", "up", "starts", "ends"] (ar (gc 11 0)):=⟨rfl,rfl,rfl,by decide +kernel,rfl,by decide +kernel,by decide +kernel⟩
theorem ug(B:Bl K mg a)(U:∃ f fd,Fun K "__init__" "Net.__init__" (gc 11 0) f fd/\mg "Net" = some (.ref a.Net)/\Mk K a.Net f/\Binds K fd ["self", "right", "up", "starts", "ends"] [])(c_check_border:Cal P w K mg base "check_border" 2 (bE a) 1)(c_check_side:Cal P w K mg base "check_side" 1 (bQ a) 1)(c_check_steps:Cal P w K mg base "check_steps" 3 (bL a) 1):Mak P w K mg base "Net" a.Net 4 (i6 a) 2:=by
 refine vh (k:=1) (N:=["self", "right", "up", "starts", "ends", "rows", "columns"]) U oP rfl fun f cdv A outer s H H0 E Ex hE hr=>?_;have sc:=oP;exact (am (dC (az c_check_side (aS hE) (hr.mono (by decide)) rfl (af (aO bA bc rfl B.b_len (by decide +kernel) (af (ae 1 (mv 1)) aj)) aj)))
  (am (aK (i:=5) sc.nd rfl (.inl rfl) (be (aO bA bc rfl B.b_len (by decide +kernel) (af (ae 1 (mv 1)) aj))))
  (am (aK (i:=6) sc.nd rfl (.inl rfl) (be (aA bd aN (aO bA bc rfl B.b_len (by decide +kernel) (af (aD (ae 1 (mv 1)) ai) aj)) ai)))
  (am (dC (az c_check_side (aS hE) (hr.mono (by decide)) rfl (af (ae 6 (mv 6)) aj)))
  (am (dC (az c_check_steps (aS hE) (hr.mono (by decide)) rfl (af (ae 1 (mv 1)) (af (ae 5 (mv 5)) (af (aA dl (aE _ _) (ae 6 (mv 6)) ai) aj)))))
  (am (dC (az c_check_steps (aS hE) (hr.mono (by decide)) rfl (af (ae 2 (mv 2)) (af (aA dl (aE _ _) (ae 5 (mv 5)) ai) (af (ae 6 (mv 6)) aj)))))
  (am (dC (az c_check_border (aS hE) (hr.mono (by decide)) rfl (af (ae 3 (mv 3)) (af (ae 5 (mv 5)) aj))))
  (am (dC (az c_check_border (aS hE) (hr.mono (by decide)) rfl (af (ae 4 (mv 4)) (af (ae 5 (mv 5)) aj))))
  (am (bI (bh i0 (eD _) (aO bA bc rfl B.b_len (by decide +kernel) (af (ae 3 (mv 3)) aj)) (aO bA bc rfl B.b_len (by decide +kernel) (af (ae 4 (mv 4)) aj)) (aU _)) (ax (cK B.x_BadNet hE rfl)) ba)
  (am (fy (mv 0) (cw rfl (CompScope.of (own:=["weights"]) (cap:=[]) rfl (by decide +kernel) rfl rfl (by decide +kernel)) (cb (ae 1 (mv 1))) (fun C cells s0 H0 ex pn hN=>⟨(aX (i:=0) hN rfl (by first | exact Or.inl rfl | exact Or.inr rfl)),bT,(b6 dh ci rfl B.b_list (by decide +kernel) (af (ae 0 (mv 0)) aj))⟩)) B.cl_Net B.na_Net_right)
  (am (fy (mv 0) (cw rfl (CompScope.of (own:=["weights"]) (cap:=[]) rfl (by decide +kernel) rfl rfl (by decide +kernel)) (cb (ae 2 (mv 2))) (fun C cells s0 H0 ex pn hN=>⟨(aX (i:=0) hN rfl (by first | exact Or.inl rfl | exact Or.inr rfl)),bT,(b6 dh ci rfl B.b_list (by decide +kernel) (af (ae 0 (mv 0)) aj))⟩)) B.cl_Net B.na_Net_up)
  (am (fy (mv 0) (b6 dh ci rfl B.b_list (by decide +kernel) (af (ae 3 (mv 3)) aj)) B.cl_Net B.na_Net_starts)
  (am (fy (mv 0) (b6 dh ci rfl B.b_list (by decide +kernel) (af (ae 4 (mv 4)) aj)) B.cl_Net B.na_Net_ends)
  (am (fy (mv 0) (ae 6 (mv 6)) B.cl_Net B.na_Net_columns)
  (ax (fy (mv 0) (ae 5 (mv 5)) B.cl_Net B.na_Net_rows))))))))))))))))
def gj(a:Ads):ad->FOut:=
 (av (gIf (dO (ft2 dEq (ac 3) (fC (.str "r"))) (ft2 dLt (f2 aJ (ac 1) (fC (.int 1))) (f1 (cV a.Net "columns") (ac 0)))) (br (f2 dIx (f2 dIx (f1 (cV a.Net "right") (ac 0)) (ac 2)) (ac 1))) aR)
 (av (gIf (dO (ft2 dEq (ac 3) (fC (.str "u"))) (ft2 dLt (f2 aJ (ac 2) (fC (.int 1))) (f1 (cV a.Net "rows") (ac 0)))) (br (f2 dIx (f2 dIx (f1 (cV a.Net "up") (ac 0)) (ac 2)) (ac 1))) aR)
 (br (fC (.int 0)))))
def bV(a:Ads):List D->Res D:=a8 4 (gj a)
theorem fG:FnScope ["net", "x", "y", "letter"] ["net", "x", "y", "letter"] (ar (top 12)):=⟨rfl,rfl,rfl,by decide +kernel,rfl,by decide +kernel,by decide +kernel⟩
theorem jD(B:Bl K mg a)(U:Df K mg "step_weight" (top 12) ["net", "x", "y", "letter"])  : Cal P w K mg base "step_weight" 4 (bV a) 1:=by
 refine bJ (k:=0) (N:=["net", "x", "y", "letter"]) U fG fun f cdv A outer s H E Ex hE hr=>?_;have sc:=fG;exact (am (bI (FW.ft (gv (bh (db (hu4 hr)) bU (ae 3 (mv 3)) cE (aU _)) (fw (bh iV (aE _ _) (aA bd aN (ae 1 (mv 1)) ai) (dt (ae 0 (mv 0)) B.cl_Net B.na_Net_columns) (aU _))))) (ax (bo (aD (aD (dt (ae 0 (mv 0)) B.cl_Net B.na_Net_right) (ae 2 (mv 2))) (ae 1 (mv 1))))) ba)
  (am (bI (FW.ft (gv (bh (db (hu4 hr)) bU (ae 3 (mv 3)) cE (aU _)) (fw (bh iV (aE _ _) (aA bd aN (ae 2 (mv 2)) ai) (dt (ae 0 (mv 0)) B.cl_Net B.na_Net_rows) (aU _))))) (ax (bo (aD (aD (dt (ae 0 (mv 0)) B.cl_Net B.na_Net_up) (ae 2 (mv 2))) (ae 1 (mv 1))))) ba)
  (ax (bo ai))))
def fH(a:Ads):ad->FOut:=
 (br (fIf (ft2 dEq (ac 2) (fC (.str "r"))) (bC (aa (f2 aJ (ac 0) (fC (.int 1))) (aa (ac 1) ag))) (bC (aa (ac 0) (aa (f2 aJ (ac 1) (fC (.int 1))) ag)))))
def bF(a:Ads):List D->Res D:=a8 3 (fH a)
theorem eT:FnScope ["x", "y", "letter"] ["x", "y", "letter"] (ar (top 13)):=⟨rfl,rfl,rfl,by decide +kernel,rfl,by decide +kernel,by decide +kernel⟩
theorem i7(B:Bl K mg a)(U:Df K mg "place_behind" (top 13) ["x", "y", "letter"])  : Cal P w K mg base "place_behind" 3 (bF a) 1:=by
 refine bJ (k:=0) (N:=["x", "y", "letter"]) U eT fun f cdv A outer s H E Ex hE hr=>?_;have sc:=eT;exact (ax (bo (k9 (bh (db (hu4 hr)) bU (ae 2 (mv 2)) cE (aU _)) (cr (af (aA bd aN (ae 0 (mv 0)) ai) (af (ae 1 (mv 1)) aj))) (cr (af (ae 0 (mv 0)) (af (aA bd aN (ae 1 (mv 1)) ai) aj))))))
def i8(a:Ads):ad->FOut:=
 (av (ay 4 (b5 ag))
 (av (b9 (aG (fC (.str "ru"))) (au 5) (gIf (ft2 dGt (ao 4 (bV a) (aa (ac 0) (aa (ac 1) (aa (ac 2) (aa (ac 5) ag))))) (fC (.int 0))) (ej 4 (aF 1 [5] (aG (jA (ac 3) (ao 3 (bF a) (aa (ac 1) (aa (ac 2) (aa (ac 5) ag)))) (b5 ag))) (au 0) aL (f2 aJ (ac 1) (ac 0)))) aR))
 (m4 4)))
def dw(a:Ads):List D->Res D:=a8 6 (i8 a)
theorem io:FnScope ["net", "x", "y", "ahead", "found", "letter"] ["net", "x", "y", "ahead"] (ar (top 17)):=⟨rfl,rfl,rfl,by decide +kernel,rfl,by decide +kernel,by decide +kernel⟩
theorem lU(B:Bl K mg a)(U:Df K mg "walks_on" (top 17) ["net", "x", "y", "ahead"])(c_place_behind:Cal P w K mg base "place_behind" 3 (bF a) 1)(c_step_weight:Cal P w K mg base "step_weight" 4 (bV a) 1):Cal P w K mg base "walks_on" 4 (dw a) 2:=by
 refine bJ (k:=1) (N:=["net", "x", "y", "ahead", "found", "letter"]) U io fun f cdv A outer s H E Ex hE hr=>?_;have sc:=io;exact (am (aK (i:=4) sc.nd rfl (.inl rfl) (cG aj))
  (am (cI dr rfl (cb (q9 rfl B.c_LETTERS.choose_spec ⟨_,rfl⟩)) (aX (i:=5) sc.nd rfl (.inr rfl)) (ax (bI (bh mZ (aE _ _) (az c_step_weight (aS hE) (hr.mono (by decide)) rfl (af (ae 0 (mv 0)) (af (ae 1 (mv 1)) (af (ae 2 (mv 2)) (af (ae 5 (mv 5)) aj))))) ai (aU _)) (ax (oH (mv 4) (cw rfl (CompScope.of (own:=["rest"]) (cap:=[("letter", 5)]) rfl (by decide +kernel) rfl rfl (by decide +kernel)) (cb (ue (hu4 hr) (ae 3 (mv 3)) (az c_place_behind (aS hE) (hr.mono (by decide)) rfl (af (ae 1 (mv 1)) (af (ae 2 (mv 2)) (af (ae 5 (mv 5)) aj)))) (cG aj))) (fun C cells s0 H0 ex pn hN=>⟨(aX (i:=0) hN rfl (by first | exact Or.inl rfl | exact Or.inr rfl)),bT,(aA bd aN (ae 1 (mv 1)) (ae 0 (mv 0)))⟩)))) ba)))
  (ax (rj 4 (mv 4)))))
def jE(a:Ads):ad->FOut:=
 (av (gIf (jz (b7 (ftB (bD (fun i j=>decide (i<=j)) (fun i j=>decide (i<j)) (fC (.int 0)) (ac 1) (fCB a7 (aa (f1 (cV a.Net "starts") (ac 0)) ag))))) (b7 (ftB (bD (fun i j=>decide (i<=j)) (fun i j=>decide (i<j)) (fC (.int 0)) (ac 2) (fCB a7 (aa (f1 (cV a.Net "ends") (ac 0)) ag)))))) (fun _=>.exc (.ref a.BadWalk)) aR)
 (av (ay 3 (fFz (f2 dIx (f1 (cV a.Net "starts") (ac 0)) (ac 1))))
 (av (ay 4 (fFz (bC (aa (f2 b4 (f1 (cV a.Net "columns") (ac 0)) (fC (.int 1))) (aa (f2 dIx (f1 (cV a.Net "ends") (ac 0)) (ac 2)) ag)))))
 (av (ay 5 qC)
 (av (b9 (jB (aa (f2 dIx (ac 4) (fC (.int 0))) (aa (f1 fU (fC (.int 1))) (aa (f1 fU (fC (.int 1))) ag)))) (au 6) (b9 (jB (aa (f2 dIx (ac 4) (fC (.int 1))) (aa (f2 b4 (ac 3) (fC (.int 1))) (aa (f1 fU (fC (.int 1))) ag)))) (au 7) (fB 5 (bC (aa (ac 6) (aa (ac 7) ag))) (fIf (ft2 dEq (bC (aa (ac 6) (aa (ac 7) ag))) (ac 4)) (b5 (aa (fC (.str "")) ag)) (gB 4 (dw a) (aa (ac 0) (aa (ac 6) (aa (ac 7) (aa (ac 5) ag)))))))))
 (fA 5 (bC (aa (fC (.int 0)) (aa (ac 3) ag)))))))))
def cc(a:Ads):List D->Res D:=a8 8 (jE a)
theorem lv:FnScope ["net", "one", "other", "low", "goal", "ahead", "x", "y"] ["net", "one", "other"] (ar (top 16)):=⟨rfl,rfl,rfl,by decide +kernel,rfl,by decide +kernel,by decide +kernel⟩
theorem qd(B:Bl K mg a)(U:Df K mg "walks" (top 16) ["net", "one", "other"])(c_walks_on:Cal P w K mg base "walks_on" 4 (dw a) 2):Cal P w K mg base "walks" 3 (cc a) 3:=by
 refine bJ (k:=2) (N:=["net", "one", "other", "low", "goal", "ahead", "x", "y"]) U lv fun f cdv A outer s H E Ex hE hr=>?_;have sc:=lv
 exact (am (bI (FW.ft (qz (eA (eG d6 iP ai (ae 1 (mv 1)) (aO bA bc rfl B.b_len (by decide +kernel) (af (dt (ae 0 (mv 0)) B.cl_Net B.na_Net_starts) aj)))) (oj (eA (eG d6 iP ai (ae 2 (mv 2)) (aO bA bc rfl B.b_len (by decide +kernel) (af (dt (ae 0 (mv 0)) B.cl_Net B.na_Net_ends) aj))))))) (ax (cK B.x_BadWalk hE rfl)) ba)
  (am (aK (i:=3) sc.nd rfl (.inl rfl) (be (aD (dt (ae 0 (mv 0)) B.cl_Net B.na_Net_starts) (ae 1 (mv 1)))))
  (am (aK (i:=4) sc.nd rfl (.inl rfl) (be (cr (af (aA dl (aE _ _) (dt (ae 0 (mv 0)) B.cl_Net B.na_Net_columns) ai) (af (aD (dt (ae 0 (mv 0)) B.cl_Net B.na_Net_ends) (ae 2 (mv 2))) aj)))))
  (am (aK (i:=5) sc.nd rfl (.inl rfl) rJ)
  (am (cI dr rfl (j8 rfl B.b_range (af (aD (ae 4 (mv 4)) ai) (af (gw ai) (af (gw ai) aj)))) (aX (i:=6) sc.nd rfl (.inl rfl)) (ax (cI dr rfl (j8 rfl B.b_range (af (aD (ae 4 (mv 4)) ai) (af (aA dl (aE _ _) (ae 3 (mv 3)) ai) (af (gw ai) aj)))) (aX (i:=7) sc.nd rfl (.inl rfl)) (ax (qc (hu4 hr) (mv 5) (k9 (bh (db (hu4 hr)) bU (cr (af (ae 6 (mv 6)) (af (ae 7 (mv 7)) aj))) (ae 4 (mv 4)) (aU _)) (cG (af cE aj)) (qb c_walks_on (aS hE) (hr.mono (by decide)) rfl (af (ae 0 (mv 0)) (af (ae 6 (mv 6)) (af (ae 7 (mv 7)) (af (ae 5 (mv 5)) aj)))))) (cr (af (ae 6 (mv 6)) (af (ae 7 (mv 7)) aj))))))))
  (ax (oM (hu4 hr) (mv 5) (cr (af ai (af (ae 3 (mv 3)) aj))))))))))
def dH(a:Ads):ad->FOut:=
 (av (gIf (ft2 dLt (ac 1) (fCB a7 (aa (ac 0) ag))) (br (f2 dIx (ac 0) (ac 1))) aR)
 (br (fC (.int 0))))
def aq(a:Ads):List D->Res D:=a8 2 (dH a)
theorem eU:FnScope ["script", "k"] ["script", "k"] (ar (top 19)):=⟨rfl,rfl,rfl,by decide +kernel,rfl,by decide +kernel,by decide +kernel⟩
theorem i9(B:Bl K mg a)(U:Df K mg "_law_cell_at" (top 19) ["script", "k"])  : Cal P w K mg base "_law_cell_at" 2 (aq a) 1:=by
 refine bJ (k:=0) (N:=["script", "k"]) U eU fun f cdv A outer s H E Ex hE hr=>?_;have sc:=eU;exact (am (bI (bh iV (aE _ _) (ae 1 (mv 1)) (aO bA bc rfl B.b_len (by decide +kernel) (af (ae 0 (mv 0)) aj)) (aU _)) (ax (bo (aD (ae 0 (mv 0)) (ae 1 (mv 1))))) ba)
  (ax (bo ai)))
def ja(a:Ads):ad->FOut:=
 (av (ay 3 (fFz (b5 (aa (fC (.int 48271)) (aa (fC (.int 69621)) (aa (fC (.int 16807)) (aa (fC (.int 39373)) (aa (fC (.int 30269)) (aa (fC (.int 40014)) (aa (fC (.int 40692)) (aa (fC (.int 50021)) (aa (fC (.int 61687)) (aa (fC (.int 71993)) (aa (fC (.int 83869)) (aa (fC (.int 95561)) (aa (fC (.int 30307)) ag))))))))))))))))
 (av (ay 4 (fFz (f2 ck (f2 aJ (f2 bP (ac 0) (fC (.int 2147483647))) (fC (.int 12345))) (f2 dIx (ac 3) (f2 bP (ac 1) (fC (.int 13)))))))
 (av (ay 4 (fFz (f2 aJ (f2 ck (ac 4) (f2 aJ (f2 ck (fC (.int 2)) (f2 iU (ac 1) (fC (.int 13)))) (fC (.int 1)))) (f2 ck (fC (.int 977)) (ac 1)))))
 (br (f2 bP (f2 iU (f2 bP (ac 4) (fC (.int 1000000007))) (fC (.int 7))) (ac 2))))))
def bj(a:Ads):List D->Res D:=a8 5 (ja a)
theorem ip:FnScope ["cell", "k", "many", "some", "number"] ["cell", "k", "many"] (ar (top 20)):=⟨rfl,rfl,rfl,by decide +kernel,rfl,by decide +kernel,by decide +kernel⟩
theorem lV(B:Bl K mg a)(U:Df K mg "_law_mix" (top 20) ["cell", "k", "many"])  : Cal P w K mg base "_law_mix" 3 (bj a) 1:=by
 refine bJ (k:=0) (N:=["cell", "k", "many", "some", "number"]) U ip fun f cdv A outer s H E Ex hE hr=>?_;have sc:=ip;exact (am (aK (i:=3) sc.nd rfl (.inl rfl) (be (cG (af ai (af ai (af ai (af ai (af ai (af ai (af ai (af ai (af ai (af ai (af ai (af ai (af ai aj))))))))))))))))
  (am (aK (i:=4) sc.nd rfl (.inl rfl) (be (aA dB (aE _ _) (aA bd aN (aA cF (aE _ _) (ae 0 (mv 0)) ai) ai) (aD (ae 3 (mv 3)) (aA cF (aE _ _) (ae 1 (mv 1)) ai)))))
  (am (aK (i:=4) sc.nd rfl (.inl rfl) (be (aA bd aN (aA dB (aE _ _) (ae 4 (mv 4)) (aA bd aN (aA dB (aE _ _) ai (aA l9 (aE _ _) (ae 1 (mv 1)) ai)) ai)) (aA dB (aE _ _) ai (ae 1 (mv 1))))))
  (ax (bo (aA cF (aE _ _) (aA l9 (aE _ _) (aA cF (aE _ _) (ae 4 (mv 4)) ai) ai) (ae 2 (mv 2))))))))
def dI(a:Ads):ad->FOut:=
 (av (ay 3 (cx (aa (ac 2) ag)))
 (av (ay 4 (b5 ag))
 (av (b9 (bz (aa (ac 1) ag)) (au 5) (cy 4 3 (ao 3 (bj a) (aa (ac 0) (aa (f2 ck (fC (.int 7)) (ac 5)) (aa (fCB a7 (aa (ac 3) ag)) ag))))))
 (br (fCB cm (aa (ac 4) ag))))))
def bn(a:Ads):List D->Res D:=a8 6 (dI a)
theorem eV:FnScope ["cell", "many", "rows", "left", "found", "k"] ["cell", "many", "rows"] (ar (top 21)):=⟨rfl,rfl,rfl,by decide +kernel,rfl,by decide +kernel,by decide +kernel⟩
theorem jb(B:Bl K mg a)(U:Df K mg "_law_rows_by" (top 21) ["cell", "many", "rows"])(c__law_mix:Cal P w K mg base "_law_mix" 3 (bj a) 1):Cal P w K mg base "_law_rows_by" 3 (bn a) 2:=by
 refine bJ (k:=1) (N:=["cell", "many", "rows", "left", "found", "k"]) U eV fun f cdv A outer s H E Ex hE hr=>?_;have sc:=eV;exact (am (aK (i:=3) sc.nd rfl (.inl rfl) (j4 rfl rfl B.b_range rfl B.b_list (af (ae 2 (mv 2)) aj)))
  (am (aK (i:=4) sc.nd rfl (.inl rfl) (cG aj))
  (am (cI dr rfl (bX rfl B.b_range (af (ae 1 (mv 1)) aj)) (aX (i:=5) sc.nd rfl (.inl rfl)) (ax (oB (mv 4) (mv 3) (az c__law_mix (aS hE) (hr.mono (by decide)) rfl (af (ae 0 (mv 0)) (af (aA dB (aE _ _) ai (ae 5 (mv 5))) (af (aO bA bc rfl B.b_len (by decide +kernel) (af (ae 3 (mv 3)) aj)) aj)))))))
  (ax (bo (aO m7 lg rfl B.b_sorted (by decide +kernel) (af (ae 4 (mv 4)) aj)))))))
def cR(a:Ads):ad->FOut:=
 (av (ay 3 (fFz (ao 3 (bj a) (aa (ac 0) (aa (ac 1) (aa (ac 2) ag))))))
 (av (gIf (ft2 dEq (ac 3) (fC (.int 0))) (br (fC (.int 0))) aR)
 (av (gIf (ft2 dEq (ac 3) (fC (.int 1))) (br (f2 dIx (b5 (aa (fC (.int 1000)) (aa (f2 bP (ac 0) (fC (.int 1001))) ag))) (ao 3 (bj a) (aa (ac 0) (aa (f2 aJ (ac 1) (fC (.int 500))) (aa (fC (.int 2)) ag)))))) aR)
 (br (f2 aJ (fC (.int 1)) (ao 3 (bj a) (aa (ac 0) (aa (f2 aJ (ac 1) (fC (.int 900))) (aa (fC (.int 5)) ag)))))))))
def bb(a:Ads):List D->Res D:=a8 4 (cR a)
theorem eW:FnScope ["cell", "k", "shut", "kind"] ["cell", "k", "shut"] (ar (top 22)):=⟨rfl,rfl,rfl,by decide +kernel,rfl,by decide +kernel,by decide +kernel⟩
theorem jc(B:Bl K mg a)(U:Df K mg "_law_step_by" (top 22) ["cell", "k", "shut"])(c__law_mix:Cal P w K mg base "_law_mix" 3 (bj a) 1):Cal P w K mg base "_law_step_by" 3 (bb a) 2:=by
 refine bJ (k:=1) (N:=["cell", "k", "shut", "kind"]) U eW fun f cdv A outer s H E Ex hE hr=>?_;have sc:=eW;exact (am (aK (i:=3) sc.nd rfl (.inl rfl) (be (az c__law_mix (aS hE) (hr.mono (by decide)) rfl (af (ae 0 (mv 0)) (af (ae 1 (mv 1)) (af (ae 2 (mv 2)) aj))))))
  (am (bI (bh (db (hu4 hr)) bU (ae 3 (mv 3)) ai (aU _)) (ax (bo ai)) ba)
  (am (bI (bh (db (hu4 hr)) bU (ae 3 (mv 3)) ai (aU _)) (ax (bo (aD (cG (af ai (af (aA cF (aE _ _) (ae 0 (mv 0)) ai) aj))) (az c__law_mix (aS hE) (hr.mono (by decide)) rfl (af (ae 0 (mv 0)) (af (aA bd aN (ae 1 (mv 1)) ai) (af ai aj))))))) ba)
  (ax (bo (aA bd aN ai (az c__law_mix (aS hE) (hr.mono (by decide)) rfl (af (ae 0 (mv 0)) (af (aA bd aN (ae 1 (mv 1)) ai) (af ai aj))))))))))
def dy(a:Ads):ad->FOut:=
 (av (ay 4 (fFz (f2 aJ (fC (.int 1)) (f2 bP (ao 2 (aq a) (aa (ac 0) (aa (fC (.int 0)) ag))) (ac 1)))))
 (av (ay 5 (fFz (f2 aJ (fC (.int 1)) (f2 bP (ao 2 (aq a) (aa (ac 0) (aa (fC (.int 1)) ag))) (ac 1)))))
 (av (ay 6 (fFz (ao 2 (aq a) (aa (ac 0) (aa (fC (.int 2)) ag)))))
 (av (ay 7 (fFz (aF 1 [3,4,6] (bz (aa (ac 5) ag)) (au 0) aL (aF 1 [0,1,3] (bz (aa (f2 b4 (ac 2) (fC (.int 1))) ag)) (au 0) aL (eI 3 (bb a) (aa (ac 3) (aa (f2 aJ (f2 ck (fC (.int 10)) (ac 1)) (ac 0)) (aa (ac 2) ag))))))))
 (av (ay 6 (fFz (ao 2 (aq a) (aa (ac 0) (aa (fC (.int 3)) ag)))))
 (av (ay 8 (fFz (aF 1 [3,4,6] (bz (aa (f2 b4 (ac 5) (fC (.int 1))) ag)) (au 0) aL (aF 1 [0,1,3] (bz (aa (ac 2) ag)) (au 0) aL (eI 3 (bb a) (aa (ac 3) (aa (f2 aJ (f2 aJ (fC (.int 200)) (f2 ck (fC (.int 10)) (ac 1))) (ac 0)) (aa (ac 2) ag))))))))
 (av (ay 9 (fFz (f2 aJ (fC (.int 1)) (f2 bP (ao 2 (aq a) (aa (ac 0) (aa (fC (.int 4)) ag))) (fCB fV (aa (ac 2) (aa (ac 5) ag)))))))
 (av (ay 10 (fFz (ao 3 (bn a) (aa (ao 2 (aq a) (aa (ac 0) (aa (fC (.int 5)) ag))) (aa (ac 9) (aa (ac 5) ag))))))
 (av (ay 11 (fFz (ao 3 (bn a) (aa (ao 2 (aq a) (aa (ac 0) (aa (fC (.int 6)) ag))) (aa (ac 9) (aa (ac 5) ag))))))
 (av (gIf (ft2 dGt (f2 bP (ao 2 (aq a) (aa (ac 0) (aa (fC (.int 7)) ag))) (fC (.int 3))) (fC (.int 0))) (av (ay 10 (fFz (cx (aa (ac 9) ag))))
 (ay 11 (fFz (aF 1 [5,9] (bz (aa (ac 9) ag)) (au 0) aL (f2 aJ (f2 b4 (ac 1) (ac 2)) (ac 0)))))) aR)
 (br (bC (aa (ac 7) (aa (ac 8) (aa (ac 10) (aa (ac 11) ag))))))))))))))))
def bK(a:Ads):List D->Res D:=a8 12 (dy a)
theorem eK:FnScope ["script", "most", "walkers", "shut", "columns", "rows", "cell", "right", "up", "many", "starts", "ends"] ["script", "most", "walkers", "shut"] (ar (top 23)):=⟨rfl,rfl,rfl,by decide +kernel,rfl,by decide +kernel,by decide +kernel⟩
theorem iK(B:Bl K mg a)(U:Df K mg "_law_parts_by" (top 23) ["script", "most", "walkers", "shut"])(c__law_cell_at:Cal P w K mg base "_law_cell_at" 2 (aq a) 1)(c__law_rows_by:Cal P w K mg base "_law_rows_by" 3 (bn a) 2)(c__law_step_by:Cal P w K mg base "_law_step_by" 3 (bb a) 2):Cal P w K mg base "_law_parts_by" 4 (bK a) 3:=by
 refine bJ (k:=2) (N:=["script", "most", "walkers", "shut", "columns", "rows", "cell", "right", "up", "many", "starts", "ends"]) U eK fun f cdv A outer s H E Ex hE hr=>?_;have sc:=eK;exact (am (aK (i:=4) sc.nd rfl (.inr rfl) (be (aA bd aN ai (aA cF (aE _ _) (az c__law_cell_at (aS hE) (hr.mono (by decide)) rfl (af (ae 0 (mv 0)) (af ai aj))) (ae 1 (mv 1))))))
  (am (aK (i:=5) sc.nd rfl (.inr rfl) (be (aA bd aN ai (aA cF (aE _ _) (az c__law_cell_at (aS hE) (hr.mono (by decide)) rfl (af (ae 0 (mv 0)) (af ai aj))) (ae 1 (mv 1))))))
  (am (aK (i:=6) sc.nd rfl (.inr rfl) (be (az c__law_cell_at (aS hE) (hr.mono (by decide)) rfl (af (ae 0 (mv 0)) (af ai aj)))))
  (am (jy (fS (i:=7) sc.nd rfl (.inl rfl) rfl (CompScope.of (own:=["y"]) (cap:=[("shut", 3),("columns", 4),("cell", 6)]) rfl (by decide +kernel) rfl rfl (by decide +kernel)) (bX rfl B.b_range (af (ae 5 (mv 5)) aj)) (fun C cells s0 H0 ex pn hN=>⟨(aX (i:=0) hN rfl (by first | exact Or.inl rfl | exact Or.inr rfl)),bT,(cw rfl (CompScope.of (own:=["x"]) (cap:=[("y", 0),("shut", 1),("cell", 3)]) rfl (by decide +kernel) rfl rfl (by decide +kernel)) (bX rfl B.b_range (af (aA dl (aE _ _) (ae 2 (mv 2)) ai) aj)) (fun C cells s0 H0 ex pn hN=>⟨(aX (i:=0) hN rfl (by first | exact Or.inl rfl | exact Or.inr rfl)),bT,(lm c__law_step_by (hr.mono (by decide)) rfl (af (ae 3 (mv 3)) (af (aA bd aN (aA dB (aE _ _) ai (ae 1 (mv 1))) (ae 0 (mv 0))) (af (ae 2 (mv 2)) aj))))⟩))⟩)))
  (am (aK (i:=6) sc.nd rfl (.inr rfl) (be (az c__law_cell_at (aS hE) (hr.mono (by decide)) rfl (af (ae 0 (mv 0)) (af ai aj)))))
  (am (jy (fS (i:=8) sc.nd rfl (.inl rfl) rfl (CompScope.of (own:=["y"]) (cap:=[("shut", 3),("columns", 4),("cell", 6)]) rfl (by decide +kernel) rfl rfl (by decide +kernel)) (bX rfl B.b_range (af (aA dl (aE _ _) (ae 5 (mv 5)) ai) aj)) (fun C cells s0 H0 ex pn hN=>⟨(aX (i:=0) hN rfl (by first | exact Or.inl rfl | exact Or.inr rfl)),bT,(cw rfl (CompScope.of (own:=["x"]) (cap:=[("y", 0),("shut", 1),("cell", 3)]) rfl (by decide +kernel) rfl rfl (by decide +kernel)) (bX rfl B.b_range (af (ae 2 (mv 2)) aj)) (fun C cells s0 H0 ex pn hN=>⟨(aX (i:=0) hN rfl (by first | exact Or.inl rfl | exact Or.inr rfl)),bT,(lm c__law_step_by (hr.mono (by decide)) rfl (af (ae 3 (mv 3)) (af (aA bd aN (aA bd aN ai (aA dB (aE _ _) ai (ae 1 (mv 1)))) (ae 0 (mv 0))) (af (ae 2 (mv 2)) aj))))⟩))⟩)))
  (am (aK (i:=9) sc.nd rfl (.inr rfl) (be (aA bd aN ai (aA cF (aE _ _) (az c__law_cell_at (aS hE) (hr.mono (by decide)) rfl (af (ae 0 (mv 0)) (af ai aj))) (aO (rp rfl) ol rfl B.b_min (by decide +kernel) (af (ae 2 (mv 2)) (af (ae 5 (mv 5)) aj)))))))
  (am (aK (i:=10) sc.nd rfl (.inl rfl) (be (az c__law_rows_by (aS hE) (hr.mono (by decide)) rfl (af (az c__law_cell_at (aS hE) (hr.mono (by decide)) rfl (af (ae 0 (mv 0)) (af ai aj))) (af (ae 9 (mv 9)) (af (ae 5 (mv 5)) aj))))))
  (am (aK (i:=11) sc.nd rfl (.inl rfl) (be (az c__law_rows_by (aS hE) (hr.mono (by decide)) rfl (af (az c__law_cell_at (aS hE) (hr.mono (by decide)) rfl (af (ae 0 (mv 0)) (af ai aj))) (af (ae 9 (mv 9)) (af (ae 5 (mv 5)) aj))))))
  (am (bI (bh mZ (aE _ _) (aA cF (aE _ _) (az c__law_cell_at (aS hE) (hr.mono (by decide)) rfl (af (ae 0 (mv 0)) (af ai aj))) ai) ai (aU _)) (am (aK (i:=10) sc.nd rfl (.inl rfl) (be (j4 rfl rfl B.b_range rfl B.b_list (af (ae 9 (mv 9)) aj))))
  (ax (jy (fS (i:=11) sc.nd rfl (.inl rfl) rfl (CompScope.of (own:=["k"]) (cap:=[("rows", 5),("many", 9)]) rfl (by decide +kernel) rfl rfl (by decide +kernel)) (bX rfl B.b_range (af (ae 9 (mv 9)) aj)) (fun C cells s0 H0 ex pn hN=>⟨(aX (i:=0) hN rfl (by first | exact Or.inl rfl | exact Or.inr rfl)),bT,(aA bd aN (aA dl (aE _ _) (ae 1 (mv 1)) (ae 2 (mv 2))) (ae 0 (mv 0)))⟩))))) ba)
  (ax (bo (cr (af (ae 7 (mv 7)) (af (ae 8 (mv 8)) (af (ae 10 (mv 10)) (af (ae 11 (mv 11)) aj)))))))))))))))))
def jd(a:Ads):ad->FOut:=
 (av (pX 1 2 (aa (aF 1 [] (aG (f2 dIx (ac 0) (fC (.int 0)))) (au 0) aL (fCB bt (aa (ac 0) ag))) (aa (aF 1 [] (aG (f2 dIx (ac 0) (fC (.int 1)))) (au 0) aL (fCB bt (aa (ac 0) ag))) ag)))
 (br (ng a.Net 4 (i6 a) (aa (ac 1) (aa (ac 2) (aa (fCB bt (aa (f2 dIx (ac 0) (fC (.int 2))) ag)) (aa (fCB bt (aa (f2 dIx (ac 0) (fC (.int 3))) ag)) ag)))))))
def d9(a:Ads):List D->Res D:=a8 3 (jd a)
theorem iq:FnScope ["parts", "right", "up"] ["parts"] (ar (top 24)):=⟨rfl,rfl,rfl,by decide +kernel,rfl,by decide +kernel,by decide +kernel⟩
theorem lW(B:Bl K mg a)(U:Df K mg "_law_net" (top 24) ["parts"])(c_Net:Mak P w K mg base "Net" a.Net 4 (i6 a) 2):Cal P w K mg base "_law_net" 1 (d9 a) 4:=by
 refine bJ (k:=3) (N:=["parts", "right", "up"]) U iq fun f cdv A outer s H E Ex hE hr=>?_;have sc:=iq
 exact (am (t0 (i:=1) (j:=2) rfl sc.nd rfl rfl (by decide) rfl rfl (af (cw rfl (CompScope.of (own:=["row"]) (cap:=[]) rfl (by decide +kernel) rfl rfl (by decide +kernel)) (cb (aD (ae 0 (mv 0)) ai)) (fun C cells s0 H0 ex pn hN=>⟨(aX (i:=0) hN rfl (by first | exact Or.inl rfl | exact Or.inr rfl)),bT,(b6 dh ci rfl B.b_list (by decide +kernel) (af (ae 0 (mv 0)) aj))⟩)) (af (cw rfl (CompScope.of (own:=["row"]) (cap:=[]) rfl (by decide +kernel) rfl rfl (by decide +kernel)) (cb (aD (ae 0 (mv 0)) ai)) (fun C cells s0 H0 ex pn hN=>⟨(aX (i:=0) hN rfl (by first | exact Or.inl rfl | exact Or.inr rfl)),bT,(b6 dh ci rfl B.b_list (by decide +kernel) (af (ae 0 (mv 0)) aj))⟩)) aj)) rfl)
  (ax (bo (rF c_Net (aS hE) (hr.mono (by decide)) rfl (af (ae 1 (mv 1)) (af (ae 2 (mv 2)) (af (b6 dh ci rfl B.b_list (by decide +kernel) (af (aD (ae 0 (mv 0)) ai) aj)) (af (b6 dh ci rfl B.b_list (by decide +kernel) (af (aD (ae 0 (mv 0)) ai) aj)) aj))))))))
def ir(a:Ads):ad->FOut:=
 (av (gIf (dO (ft2 dEq (ac 3) (fC (.str "r"))) (ft2 dLt (ac 1) (fCB a7 (aa (f2 dIx (f2 dIx (ac 0) (fC (.int 0))) (fC (.int 0))) ag)))) (br (f2 dIx (f2 dIx (f2 dIx (ac 0) (fC (.int 0))) (ac 2)) (ac 1))) aR)
 (av (gIf (dO (ft2 dEq (ac 3) (fC (.str "u"))) (ft2 dLt (ac 2) (fCB a7 (aa (f2 dIx (ac 0) (fC (.int 1))) ag)))) (br (f2 dIx (f2 dIx (f2 dIx (ac 0) (fC (.int 1))) (ac 2)) (ac 1))) aR)
 (br (fC (.int 0)))))
def cz(a:Ads):List D->Res D:=a8 4 (ir a)
theorem gC:FnScope ["parts", "x", "y", "letter"] ["parts", "x", "y", "letter"] (ar (top 25)):=⟨rfl,rfl,rfl,by decide +kernel,rfl,by decide +kernel,by decide +kernel⟩
theorem lw(B:Bl K mg a)(U:Df K mg "_law_step" (top 25) ["parts", "x", "y", "letter"])  : Cal P w K mg base "_law_step" 4 (cz a) 1:=by
 refine bJ (k:=0) (N:=["parts", "x", "y", "letter"]) U gC fun f cdv A outer s H E Ex hE hr=>?_;have sc:=gC;exact (am (bI (FW.ft (gv (bh (db (hu4 hr)) bU (ae 3 (mv 3)) cE (aU _)) (fw (bh iV (aE _ _) (ae 1 (mv 1)) (aO bA bc rfl B.b_len (by decide +kernel) (af (aD (aD (ae 0 (mv 0)) ai) ai) aj)) (aU _))))) (ax (bo (aD (aD (aD (ae 0 (mv 0)) ai) (ae 2 (mv 2))) (ae 1 (mv 1))))) ba)
  (am (bI (FW.ft (gv (bh (db (hu4 hr)) bU (ae 3 (mv 3)) cE (aU _)) (fw (bh iV (aE _ _) (ae 2 (mv 2)) (aO bA bc rfl B.b_len (by decide +kernel) (af (aD (ae 0 (mv 0)) ai) aj)) (aU _))))) (ax (bo (aD (aD (aD (ae 0 (mv 0)) ai) (ae 2 (mv 2))) (ae 1 (mv 1))))) ba)
  (ax (bo ai))))
def je(a:Ads):ad->FOut:=
 (av (ay 3 (fFz (b5 (aa (bC (aa (ac 1) (aa (fC (.str "")) ag))) ag))))
 (av (b9 (bz (aa (f2 aJ (f2 b4 (f2 dIx (ac 2) (fC (.int 0))) (f2 dIx (ac 1) (fC (.int 0)))) (fCB gW (aa (fC (.int 0)) (aa (f2 b4 (f2 dIx (ac 2) (fC (.int 1))) (f2 dIx (ac 1) (fC (.int 1)))) ag)))) ag)) (au 4) (av (ay 5 (b5 ag))
 (av (b9 (aG (ac 3)) (dN [6,7]) (b9 (aG (fC (.str "ru"))) (au 8) (av (ay 9 (fFz (bC (aa (f2 aJ (f2 dIx (ac 6) (fC (.int 0))) (fCB eB (aa (f2 dEq (ac 8) (fC (.str "r"))) ag))) (aa (f2 aJ (f2 dIx (ac 6) (fC (.int 1))) (fCB eB (aa (f2 dEq (ac 8) (fC (.str "u"))) ag))) ag)))))
 (av (ay 10 (fFz (fT (f2 dLe (f2 dIx (ac 9) (fC (.int 0))) (f2 dIx (ac 2) (fC (.int 0)))) (f2 dLe (f2 dIx (ac 9) (fC (.int 1))) (f2 dIx (ac 2) (fC (.int 1)))))))
 (gIf (dO (ftB (ac 10)) (ft2 dGt (ao 4 (cz a) (aa (ac 0) (aa (f2 dIx (ac 6) (fC (.int 0))) (aa (f2 dIx (ac 6) (fC (.int 1))) (aa (ac 8) ag))))) (fC (.int 0)))) (di 5 (bC (aa (ac 9) (aa (f2 aJ (ac 7) (ac 8)) ag)))) aR)))))
 (fun ρ=>(ay 3 (fFz (ac 5))) (frzAt 5 ρ)))))
 (br (fCB dF (aa (aF 2 [2] (aG (ac 3)) (dN [0,1]) (ft2 dEq (ac 0) (ac 2)) (ac 1)) ag)))))
def cS(a:Ads):List D->Res D:=a8 11 (je a)
theorem iu:FnScope ["parts", "here", "end", "rows", "turn", "longer", "place", "walk", "letter", "there", "inside"] ["parts", "here", "end"] (ar (top 27)):=⟨rfl,rfl,rfl,by decide +kernel,rfl,by decide +kernel,by decide +kernel⟩
theorem lX(B:Bl K mg a)(U:Df K mg "_law_all" (top 27) ["parts", "here", "end"])(c__law_step:Cal P w K mg base "_law_step" 4 (cz a) 1):Cal P w K mg base "_law_all" 3 (cS a) 2:=by
 refine bJ (k:=1) (N:=["parts", "here", "end", "rows", "turn", "longer", "place", "walk", "letter", "there", "inside"]) U iu fun f cdv A outer s H E Ex hE hr=>?_;have sc:=iu;exact (am (aK (i:=3) sc.nd rfl (.inl rfl) (be (cG (af (cr (af (ae 1 (mv 1)) (af cE aj))) aj))))
  (am (cI dr rfl (bX rfl B.b_range (af (aA bd aN (aA dl (aE _ _) (aD (ae 2 (mv 2)) ai) (aD (ae 1 (mv 1)) ai)) (aO (rA rfl) om rfl B.b_max (by decide +kernel) (af ai (af (aA dl (aE _ _) (aD (ae 2 (mv 2)) ai) (aD (ae 1 (mv 1)) ai)) aj)))) aj)) (aX (i:=4) sc.nd rfl (.inl rfl)) (am (aK (i:=5) sc.nd rfl (.inl rfl) (cG aj))
  (am (cI dr rfl (cb (ae 3 (mv 3))) (oh (is:=[6,7]) rfl (fR (i:=6) (gU (i:=6) sc.nd rfl (.inl rfl)) (fR (i:=7) (gU (i:=7) sc.nd rfl (.inl rfl)) ma))) (ax (cI dr rfl (cb cE) (aX (i:=8) sc.nd rfl (.inl rfl)) (am (aK (i:=9) sc.nd rfl (.inl rfl) (be (cr (af (aA bd aN (aD (ae 6 (mv 6)) ai) (b6 oo lb rfl B.b_int (by decide +kernel) (af (gr (db (hu4 hr)) bU (ae 8 (mv 8)) cE (aU _)) aj))) (af (aA bd aN (aD (ae 6 (mv 6)) ai) (b6 oo lb rfl B.b_int (by decide +kernel) (af (gr (db (hu4 hr)) bU (ae 8 (mv 8)) cE (aU _)) aj))) aj)))))
  (am (aK (i:=10) sc.nd rfl (.inl rfl) (be (iZ (gr qy (aE _ _) (aD (ae 9 (mv 9)) ai) (aD (ae 2 (mv 2)) ai) (aU _)) (k8 (gr qy (aE _ _) (aD (ae 9 (mv 9)) ai) (aD (ae 2 (mv 2)) ai) (aU _))))))
  (ax (bI (FW.ft (gv (k7 (ae 10 (mv 10))) (fw (bh mZ (aE _ _) (az c__law_step (aS hE) (hr.mono (by decide)) rfl (af (ae 0 (mv 0)) (af (aD (ae 6 (mv 6)) ai) (af (aD (ae 6 (mv 6)) ai) (af (ae 8 (mv 8)) aj))))) ai (aU _))))) (ax (j0 (mv 5) (cr (af (ae 9 (mv 9)) (af (aA bd aN (ae 7 (mv 7)) (ae 8 (mv 8))) aj))))) ba)))))))
  (ax (tU 5 (aK (i:=3) sc.nd rfl (.inl rfl) (be (ae 5 (mv 5)))))))))
  (ax (bo (aO nj lr rfl B.b_sorted (by decide +kernel) (af (cw rfl (CompScope.of (own:=["place", "walk"]) (cap:=[("end", 2)]) rfl (by decide +kernel) rfl rfl (by decide +kernel)) (cb (ae 3 (mv 3))) (fun C cells s0 H0 ex pn hN=>⟨(oh (is:=[0,1]) rfl (fR (i:=0) (gU (i:=0) hN rfl (by first | exact Or.inl rfl | exact Or.inr rfl)) (fR (i:=1) (gU (i:=1) hN rfl (by first | exact Or.inl rfl | exact Or.inr rfl)) ma))),(rm (bh (db (hu4 hr)) bU (ae 0 (mv 0)) (ae 2 (mv 2)) (aU _))),(ae 1 (mv 1))⟩)) aj))))))
def gD(a:Ads):ad->FOut:=
 (br (fT (f1 (iF "list") (ac 0)) (fT (f2 dEq (fCB a7 (aa (ac 0) ag)) (ac 1)) (fCB fj (aa (aF 1 [] (aG (ac 0)) (au 0) aL (f1 (iF "str") (ac 0))) ag)))))
def ce(a:Ads):List D->Res D:=a8 2 (gD a)
theorem gk:FnScope ["found", "many"] ["found", "many"] (ar (top 28)):=⟨rfl,rfl,rfl,by decide +kernel,rfl,by decide +kernel,by decide +kernel⟩
theorem ku(B:Bl K mg a)(U:Df K mg "_law_texts" (top 28) ["found", "many"])  : Cal P w K mg base "_law_texts" 2 (ce a) 1:=by
 refine bJ (k:=0) (N:=["found", "many"]) U gk fun f cdv A outer s H E Ex hE hr=>?_;have sc:=gk
 exact (ax (bo (iZ (oy B.k_list (ae 0 (mv 0)) rfl B.b_isinstance rfl B.b_list (by decide +kernel)) (iZ (gr (db (hu4 hr)) bU (aO bA bc rfl B.b_len (by decide +kernel) (af (ae 0 (mv 0)) aj)) (ae 1 (mv 1)) (aU _)) (k8 (aO (oA rfl) lj rfl B.b_all (by decide +kernel) (af (cw rfl (CompScope.of (own:=["walk"]) (cap:=[]) rfl (by decide +kernel) rfl rfl (by decide +kernel)) (cb (ae 0 (mv 0))) (fun C cells s0 H0 ex pn hN=>⟨(aX (i:=0) hN rfl (by first | exact Or.inl rfl | exact Or.inr rfl)),bT,(oy B.k_str (ae 0 (mv 0)) rfl B.b_isinstance rfl B.b_str (by decide +kernel))⟩)) aj)))))))
def fI(a:Ads):ad->FOut:=
 (av (gy a.BadWalk (bW (ao 3 (cc a) (aa (ac 0) (aa (ac 1) (aa (ac 2) ag))))))
 (br (fC (.bl false))))
def cf(a:Ads):List D->Res D:=a8 4 (fI a)
theorem eX:FnScope ["net", "one", "other", "e"] ["net", "one", "other"] (ar (top 29)):=⟨rfl,rfl,rfl,by decide +kernel,rfl,by decide +kernel,by decide +kernel⟩
theorem jf(B:Bl K mg a)(U:Df K mg "_law_refused" (top 29) ["net", "one", "other"])(c_walks:Cal P w K mg base "walks" 3 (cc a) 3):Cal P w K mg base "_law_refused" 3 (cf a) 4:=by
 refine bJ (k:=3) (N:=["net", "one", "other", "e"]) U eX fun f cdv A outer s H E Ex hE hr=>?_;have sc:=eX;exact (am (pY B.x_BadWalk B.x_WalkError.bound B.s_BadWalk_WalkError sc.nd (i:=3) rfl rfl rfl rfl B.b_isinstance rfl rfl rfl (fun E2 pn2 H2 Ex2 hx=>(ax (dC (az c_walks hx (hr.mono (by decide)) rfl (af (ae 0 (mv 0)) (af (ae 1 (mv 1)) (af (ae 2 (mv 2)) aj))))))))
  (ax (bo mY)))
def g_law(a:Ads):ad->FOut:=
 (av (ay 1 (fFz (ao 4 (bK a) (aa (ac 0) (aa (fC (.int 5)) (aa (fC (.int 4)) (aa (fC (.int 7)) ag)))))))
 (av (ay 2 (fFz (ao 1 (d9 a) (aa (ac 1) ag))))
 (av (ay 3 (fFz (fCB a7 (aa (f2 dIx (ac 1) (fC (.int 2))) ag))))
 (av (b9 (bz (aa (ac 3) ag)) (au 4) (b9 (bz (aa (ac 3) ag)) (au 5) (av (ay 6 (fFz (b5 ag)))
 (av (gIf (ft2 dGe (f2 dIx (f2 dIx (ac 1) (fC (.int 3))) (ac 5)) (f2 dIx (f2 dIx (ac 1) (fC (.int 2))) (ac 4))) (ay 6 (fFz (ao 3 (cS a) (aa (ac 1) (aa (bC (aa (fC (.int 0)) (aa (f2 dIx (f2 dIx (ac 1) (fC (.int 2))) (ac 4)) ag))) (aa (bC (aa (fCB a7 (aa (f2 dIx (f2 dIx (ac 1) (fC (.int 0))) (fC (.int 0))) ag)) (aa (f2 dIx (f2 dIx (ac 1) (fC (.int 3))) (ac 5)) ag))) ag)))))) aR)
 (av (ay 7 (ao 3 (cc a) (aa (ac 2) (aa (ac 4) (aa (ac 5) ag)))))
 (av (gIf (jz (b7 (ftB (ao 2 (ce a) (aa (ac 7) (aa (fCB a7 (aa (ac 6) ag)) ag))))) (ft2 dNe (ac 7) (ac 6))) (br (fC (.bl false))) aR)
 (av (di 7 (fC (.str "r")))
 (gIf (ft2 dNe (ao 3 (cc a) (aa (ac 2) (aa (ac 4) (aa (ac 5) ag)))) (ac 6)) (br (fC (.bl false))) aR))))))))
 (av (ay 8 (fFz (f2 dIx (b5 (aa (f1 fU (fC (.int 1))) (aa (ac 3) (aa (f2 aJ (ac 3) (f2 bP (ao 2 (aq a) (aa (ac 0) (aa (fC (.int 8)) ag))) (fC (.int 9)))) ag)))) (f2 bP (ao 2 (aq a) (aa (ac 0) (aa (fC (.int 9)) ag))) (fC (.int 3))))))
 (br (fT (ao 3 (cf a) (aa (ac 2) (aa (ac 8) (aa (fC (.int 0)) ag)))) (ao 3 (cf a) (aa (ac 2) (aa (fC (.int 0)) (aa (ac 8) ag)))))))))))
def kF(a:Ads):List D->Res D:=a8 9 (g_law a)
theorem oQ:FnScope ["script", "parts", "net", "many", "one", "other", "due", "found", "off"] ["script"] (ar (top 30)):=⟨rfl,rfl,rfl,by decide +kernel,rfl,by decide +kernel,by decide +kernel⟩
theorem rL(B:Bl K mg a){f:Addr}{fd:FuncData}(U:Fun K "law" "law" (top 30) f fd)(c__law_all:Cal P w K mg base "_law_all" 3 (cS a) 2)(c__law_cell_at:Cal P w K mg base "_law_cell_at" 2 (aq a) 1)(c__law_net:Cal P w K mg base "_law_net" 1 (d9 a) 4)(c__law_parts_by:Cal P w K mg base "_law_parts_by" 4 (bK a) 3)(c__law_refused:Cal P w K mg base "_law_refused" 3 (cf a) 4)(c__law_texts:Cal P w K mg base "_law_texts" 2 (ce a) 1)(c_walks:Cal P w K mg base "walks" 3 (cc a) 3):FnOk P w K mg base (CXm P w) 5 f fd ["script"] (spF 1 (kF a)):=by
 refine ub (k:=4) (N:=["script", "parts", "net", "many", "one", "other", "due", "found", "off"]) U oQ fun f cdv A outer s H E Ex hE hr=>?_;have sc:=oQ;exact (am (aK (i:=1) sc.nd rfl (.inl rfl) (be (az c__law_parts_by (aS hE) (hr.mono (by decide)) rfl (af (ae 0 (mv 0)) (af ai (af ai (af ai aj)))))))
  (am (aK (i:=2) sc.nd rfl (.inl rfl) (be (az c__law_net (aS hE) (hr.mono (by decide)) rfl (af (ae 1 (mv 1)) aj))))
  (am (aK (i:=3) sc.nd rfl (.inl rfl) (be (aO bA bc rfl B.b_len (by decide +kernel) (af (aD (ae 1 (mv 1)) ai) aj))))
  (am (cI dr rfl (bX rfl B.b_range (af (ae 3 (mv 3)) aj)) (aX (i:=4) sc.nd rfl (.inl rfl)) (ax (cI dr rfl (bX rfl B.b_range (af (ae 3 (mv 3)) aj)) (aX (i:=5) sc.nd rfl (.inl rfl)) (am (aK (i:=6) sc.nd rfl (.inl rfl) (be (cG aj)))
  (am (bI (bh ve (aE _ _) (aD (aD (ae 1 (mv 1)) ai) (ae 5 (mv 5))) (aD (aD (ae 1 (mv 1)) ai) (ae 4 (mv 4))) (aU _)) (ax (aK (i:=6) sc.nd rfl (.inl rfl) (be (az c__law_all (aS hE) (hr.mono (by decide)) rfl (af (ae 1 (mv 1)) (af (cr (af ai (af (aD (aD (ae 1 (mv 1)) ai) (ae 4 (mv 4))) aj))) (af (cr (af (aO bA bc rfl B.b_len (by decide +kernel) (af (aD (aD (ae 1 (mv 1)) ai) ai) aj)) (af (aD (aD (ae 1 (mv 1)) ai) (ae 5 (mv 5))) aj))) aj))))))) ba)
  (am (aK (i:=7) sc.nd rfl (.inl rfl) (az c_walks (aS hE) (hr.mono (by decide)) rfl (af (ae 2 (mv 2)) (af (ae 4 (mv 4)) (af (ae 5 (mv 5)) aj)))))
  (am (bI (FW.ft (qz (eA (k7 (az c__law_texts (aS hE) (hr.mono (by decide)) rfl (af (ae 7 (mv 7)) (af (aO bA bc rfl B.b_len (by decide +kernel) (af (ae 6 (mv 6)) aj)) aj))))) (oj (bh (qB (hu4 hr)) mj (ae 7 (mv 7)) (ae 6 (mv 6)) (aU _))))) (ax (bo mY)) ba)
  (am (j0 (mv 7) cE)
  (ax (bI (bh (qB (hu4 hr)) mj (az c_walks (aS hE) (hr.mono (by decide)) rfl (af (ae 2 (mv 2)) (af (ae 4 (mv 4)) (af (ae 5 (mv 5)) aj)))) (ae 6 (mv 6)) (aU _)) (ax (bo mY)) ba))))))))))
  (am (aK (i:=8) sc.nd rfl (.inl rfl) (be (aD (cG (af (gw ai) (af (ae 3 (mv 3)) (af (aA bd aN (ae 3 (mv 3)) (aA cF (aE _ _) (az c__law_cell_at (aS hE) (hr.mono (by decide)) rfl (af (ae 0 (mv 0)) (af ai aj))) ai)) aj)))) (aA cF (aE _ _) (az c__law_cell_at (aS hE) (hr.mono (by decide)) rfl (af (ae 0 (mv 0)) (af ai aj))) ai))))
  (ax (bo (iZ (az c__law_refused (aS hE) (hr.mono (by decide)) rfl (af (ae 2 (mv 2)) (af (ae 8 (mv 8)) (af ai aj)))) (k8 (az c__law_refused (aS hE) (hr.mono (by decide)) rfl (af (ae 2 (mv 2)) (af ai (af (ae 8 (mv 8)) aj)))))))))))))
theorem ar1{p:List Value->Prop}(h:∀ a:Value,p [a]):∀ us:List Value,us.length=1->p us:=by
 intro us hl
 cases us with
 |nil=>cases hl
 |cons a us=>
 cases us with
 |nil=>exact h a
 |cons z us=>simp at hl
theorem ar2{p:List Value->Prop}(h:∀ a b:Value,p [a,b]):∀ us:List Value,us.length=2->p us:=by
 intro us hl
 cases us with
 |nil=>cases hl
 |cons a us=>
 cases us with
 |nil=>cases hl
 |cons b us=>
 cases us with
 |nil=>exact h a b
 |cons z us=>simp at hl
theorem ar3{p:List Value->Prop}(h:∀ a b c:Value,p [a,b,c]):∀ us:List Value,us.length=3->p us:=by
 intro us hl
 cases us with
 |nil=>cases hl
 |cons a us=>
 cases us with
 |nil=>cases hl
 |cons b us=>
 cases us with
 |nil=>cases hl
 |cons c us=>
 cases us with
 |nil=>exact h a b c
 |cons z us=>simp at hl
theorem ar4{p:List Value->Prop}(h:∀ a b c d:Value,p [a,b,c,d]):∀ us:List Value,us.length=4->p us:=by
 intro us hl
 cases us with
 |nil=>cases hl
 |cons a us=>
 cases us with
 |nil=>cases hl
 |cons b us=>
 cases us with
 |nil=>cases hl
 |cons c us=>
 cases us with
 |nil=>cases hl
 |cons d us=>
 cases us with
 |nil=>exact h a b c d
 |cons z us=>simp at hl
theorem ar5{p:List Value->Prop}(h:∀ a b c d e:Value,p [a,b,c,d,e]):∀ us:List Value,us.length=5->p us:=by
 intro us hl
 cases us with
 |nil=>cases hl
 |cons a us=>
 cases us with
 |nil=>cases hl
 |cons b us=>
 cases us with
 |nil=>cases hl
 |cons c us=>
 cases us with
 |nil=>cases hl
 |cons d us=>
 cases us with
 |nil=>cases hl
 |cons e us=>
 cases us with
 |nil=>exact h a b c d e
 |cons z us=>simp at hl
theorem uh(main:∀ a ns,List.length ns<=63->kF a [.scr ns]=.ok (.bl true)){l:PySem.W.OpenLaw}{w:World}{K:PySem.W.Frag}{h:Heap}{mg:Str->Option Value}{fa:Addr}(X:K.In h)(G:h.Ns mainGlobals mg)(hfa:mg "law" = some (.ref fa))
    {A_0 A_1 A_3 A_2:Addr}
    {f_2:Addr} {od_2 an_2:Option Addr} {sl_2:Array (Option Value)} {oc_2 kV_2 dc_2 pm_2 cd_2 ct_2:Value}
    {f_law:Addr} {od_law an_law:Option Addr} {sl_law:Array (Option Value)} {oc_law kV_law dc_law pm_law cd_law ct_law:Value}
    {t_LETTERS:Tok}
    {t_MOST_SIDE:Tok}
    {t_MOST_WALKERS:Tok}
    {t_MOST_WEIGHT:Tok}
    (g_0:PySem.W.nsIn K mainGlobals "BadNet" = some (some (.ref A_0)))
    (e_0:PySem.W.excIn K A_0 gX "ValueError.__new__" = true)
    (g_1:PySem.W.nsIn K mainGlobals "BadWalk" = some (some (.ref A_1)))
    (e_1:PySem.W.excIn K A_1 gX "ValueError.__new__" = true)
    (g_3:PySem.W.nsIn K mainGlobals "WalkError" = some (some (.ref A_3)))
    (e_3:PySem.W.excIn K A_3 gX "ValueError.__new__" = true)
    (s_BadWalk_WalkError:PySem.W.kitOne K (.ref A_1) (.ref A_3)=some true)
    (g_2:PySem.W.nsIn K mainGlobals "Net" = some (some (.ref A_2)))
    (i_2:PySem.W.findIn K (.ref A_2) "__init__" = some (some (.ref f_2)))
    (n_2:PySem.W.isFn K (.ref f_2)=true)
    (l_2:K.lookup f_2=some ⟨oc_2,od_2,.func (PySem.W.fnOf "__init__" "Net.__init__" (cv (gc 11 0)) (bw (gc 11 0)) (ar (gc 11 0)) .none kV_2 dc_2 pm_2 an_2 cd_2 ct_2),sl_2⟩)
    (c_2:PySem.W.codeIn K cd_2 "Net.__init__" = true)
    (k_2:PySem.W.keepIn K (.ref f_2)=true)
    (pg_2:PySem.W.plainGet K A_2 Str.empty=true)
    (hd_2:PySem.W.hasDictIn K A_2=true)
    (po_2:PySem.W.plainOver K A_2=true)
    (sa_2:PySem.W.findIn K (.ref A_2) "__setattr__" = some (some (.builtin "object.__setattr__")))
    (mk_2:PySem.W.makesIn K A_2=true)
    (kc_2:PySem.W.keepIn K (.ref A_2)=true)
    (na_Net_columns:PySem.W.findIn K (.ref A_2) "columns" = some none)
    (na_Net_ends:PySem.W.findIn K (.ref A_2) "ends" = some none)
    (na_Net_right:PySem.W.findIn K (.ref A_2) "right" = some none)
    (na_Net_rows:PySem.W.findIn K (.ref A_2) "rows" = some none)
    (na_Net_starts:PySem.W.findIn K (.ref A_2) "starts" = some none)
    (na_Net_up:PySem.W.findIn K (.ref A_2) "up" = some none)
    (U_15:Df K mg "check_side" (top 8) ["length"])
    (U_16:Df K mg "check_steps" (top 9) ["lists", "count", "length"])
    (U_14:Df K mg "check_border" (top 10) ["chosen", "rows"])
    (U_19:Df K mg "step_weight" (top 12) ["net", "x", "y", "letter"])
    (U_18:Df K mg "place_behind" (top 13) ["x", "y", "letter"])
    (U_21:Df K mg "walks_on" (top 17) ["net", "x", "y", "ahead"])
    (U_20:Df K mg "walks" (top 16) ["net", "one", "other"])
    (U_5:Df K mg "_law_cell_at" (top 19) ["script", "k"])
    (U_6:Df K mg "_law_mix" (top 20) ["cell", "k", "many"])
    (U_10:Df K mg "_law_rows_by" (top 21) ["cell", "many", "rows"])
    (U_12:Df K mg "_law_step_by" (top 22) ["cell", "k", "shut"])
    (U_8:Df K mg "_law_parts_by" (top 23) ["script", "most", "walkers", "shut"])
    (U_7:Df K mg "_law_net" (top 24) ["parts"])
    (U_11:Df K mg "_law_step" (top 25) ["parts", "x", "y", "letter"])
    (U_4:Df K mg "_law_all" (top 27) ["parts", "here", "end"])
    (U_13:Df K mg "_law_texts" (top 28) ["found", "many"])
    (U_9:Df K mg "_law_refused" (top 29) ["net", "one", "other"])
    (g_law:PySem.W.nsIn K mainGlobals "law" = some (some (.ref f_law)))
    (l_law:K.lookup f_law=some ⟨oc_law,od_law,.func (PySem.W.fnOf "law" "law" (cv (top 30)) (bw (top 30)) (ar (top 30)) .none kV_law dc_law pm_law an_law cd_law ct_law),sl_law⟩)
    (c_law:PySem.W.codeIn K cd_law "law" = true)
    (k_law:PySem.W.keepIn K (.ref f_law)=true)
    (b_all:PySem.W.nsIn K mainGlobals "all" = some none)
    (b_int:PySem.W.nsIn K mainGlobals "int" = some none)
    (b_isinstance:PySem.W.nsIn K mainGlobals "isinstance" = some none)
    (b_len:PySem.W.nsIn K mainGlobals "len" = some none)
    (b_list:PySem.W.nsIn K mainGlobals "list" = some none)
    (b_max:PySem.W.nsIn K mainGlobals "max" = some none)
    (b_min:PySem.W.nsIn K mainGlobals "min" = some none)
    (b_range:PySem.W.nsIn K mainGlobals "range" = some none)
    (b_sorted:PySem.W.nsIn K mainGlobals "sorted" = some none)
    (b_str:PySem.W.nsIn K mainGlobals "str" = some none)
    (v_LETTERS:PySem.W.nsIn K mainGlobals "LETTERS" = some (some (.str "ru" t_LETTERS)))
    (v_MOST_SIDE:PySem.W.nsIn K mainGlobals "MOST_SIDE" = some (some (.int 8 t_MOST_SIDE)))
    (v_MOST_WALKERS:PySem.W.nsIn K mainGlobals "MOST_WALKERS" = some (some (.int 4 t_MOST_WALKERS)))
    (v_MOST_WEIGHT:PySem.W.nsIn K mainGlobals "MOST_WEIGHT" = some (some (.int 1000 t_MOST_WEIGHT)))
    (kt_list_NoneType:PySem.W.kitOne K (.type "NoneType") (.type "list")=some false)
    (kt_list_bool:PySem.W.kitOne K (.type "bool") (.type "list")=some false)
    (kt_list_int:PySem.W.kitOne K (.type "int") (.type "list")=some false)
    (kt_list_str:PySem.W.kitOne K (.type "str") (.type "list")=some false)
    (kt_list_list:PySem.W.kitOne K (.type "list") (.type "list")=some true)
    (kt_list_tuple:PySem.W.kitOne K (.type "tuple") (.type "list")=some false)
    (kt_list_dict:PySem.W.kitOne K (.type "dict") (.type "list")=some false)
    (kt_str_NoneType:PySem.W.kitOne K (.type "NoneType") (.type "str")=some false)
    (kt_str_bool:PySem.W.kitOne K (.type "bool") (.type "str")=some false)
    (kt_str_int:PySem.W.kitOne K (.type "int") (.type "str")=some false)
    (kt_str_str:PySem.W.kitOne K (.type "str") (.type "str")=some true)
    (kt_str_list:PySem.W.kitOne K (.type "list") (.type "str")=some false)
    (kt_str_tuple:PySem.W.kitOne K (.type "tuple") (.type "str")=some false)
    (kt_str_dict:PySem.W.kitOne K (.type "dict") (.type "str")=some false)
    (nl:gz K=true) :
    ∃ Fl:List D->Res D,(∀ ns:List Int,ns.length<=63->Fl [.scr ns]=.ok (.bl true))/\gz K=true/\∃ fd:FuncData,(∀ (s:Shared) (v:Value),BindsTo s fd ⟨[v],[]⟩ [("script", v)])/\∀ base:Heap,K.In base->base.Ns mainGlobals mg->FnOk l.prog w K mg base (CXm l.prog w) 5 fa fd ["script"] (spF 1 Fl):=by
 have B:Bl K mg ⟨A_0,A_1,A_3,A_2⟩:=⟨PySem.W.mg_none_of X G b_all,PySem.W.mg_none_of X G b_int,PySem.W.mg_none_of X G b_isinstance,PySem.W.mg_none_of X G b_len,PySem.W.mg_none_of X G b_list,PySem.W.mg_none_of X G b_max,PySem.W.mg_none_of X G b_min,PySem.W.mg_none_of X G b_range,PySem.W.mg_none_of X G b_sorted,PySem.W.mg_none_of X G b_str,⟨_,PySem.W.mg_of X G v_LETTERS⟩,⟨_,PySem.W.mg_of X G v_MOST_SIDE⟩,⟨_,PySem.W.mg_of X G v_MOST_WALKERS⟩,⟨_,PySem.W.mg_of X G v_MOST_WEIGHT⟩,kt7 kt_list_NoneType kt_list_bool kt_list_int kt_list_str kt_list_list kt_list_tuple kt_list_dict,kt7 kt_str_NoneType kt_str_bool kt_str_int kt_str_str kt_str_list kt_str_tuple kt_str_dict,iJ X G g_0 e_0,iJ X G g_1 e_1,iJ X G g_3 e_3,s_BadWalk_WalkError,⟨pg_2,hd_2,po_2,sa_2⟩,na_Net_columns,na_Net_ends,na_Net_right,na_Net_rows,na_Net_starts,na_Net_up⟩
 have F_Net:=iR (st:=gc 11 0) l_2 c_2 k_2;have b_Net:=F_Net.binds (ps:=["self", "right", "up", "starts", "ends"]) (fun _ _ _ _ _ _=>ar5 fun _ _ _ _ _=>rfl);have e:=hfa.symm.trans (PySem.W.mg_of X G g_law)
 cases e
 have UL:=iR (st:=top 30) l_law c_law k_law;refine ⟨kF ⟨A_0,A_1,A_3,A_2⟩,main ⟨A_0,A_1,A_3,A_2⟩,nl,PySem.W.fnOf "law" "law" (cv (top 30)) (bw (top 30)) (ar (top 30)) .none kV_law dc_law pm_law an_law cd_law ct_law,fun s v=>.of_eq rfl,fun base _ _=>?_⟩;have C_15:=kr (P:=l.prog) (w:=w) (base:=base) B U_15 ;have C_16:=jC (P:=l.prog) (w:=w) (base:=base) B U_16 
 have C_14:=i5 (P:=l.prog) (w:=w) (base:=base) B U_14 ;have C_2:=ug (P:=l.prog) (w:=w) (base:=base) B ⟨f_2,_,F_Net,PySem.W.mg_of X G g_2,⟨mk_2,i_2,n_2,kc_2⟩,b_Net⟩ C_14 C_15 C_16;have C_19:=jD (P:=l.prog) (w:=w) (base:=base) B U_19 ;have C_18:=i7 (P:=l.prog) (w:=w) (base:=base) B U_18 ;have C_21:=lU (P:=l.prog) (w:=w) (base:=base) B U_21 C_18 C_19
 have C_20:=qd (P:=l.prog) (w:=w) (base:=base) B U_20 C_21;have C_5:=i9 (P:=l.prog) (w:=w) (base:=base) B U_5 ;have C_6:=lV (P:=l.prog) (w:=w) (base:=base) B U_6 ;have C_10:=jb (P:=l.prog) (w:=w) (base:=base) B U_10 C_6;have C_12:=jc (P:=l.prog) (w:=w) (base:=base) B U_12 C_6;have C_8:=iK (P:=l.prog) (w:=w) (base:=base) B U_8 C_5 C_10 C_12;have C_7:=lW (P:=l.prog) (w:=w) (base:=base) B U_7 C_2
 have C_11:=lw (P:=l.prog) (w:=w) (base:=base) B U_11 ;have C_4:=lX (P:=l.prog) (w:=w) (base:=base) B U_4 C_11;have C_13:=ku (P:=l.prog) (w:=w) (base:=base) B U_13 ;have C_9:=jf (P:=l.prog) (w:=w) (base:=base) B U_9 C_20;exact rL (P:=l.prog) (w:=w) (base:=base) B UL C_4 C_5 C_7 C_8 C_9 C_13 C_20
end Lw
namespace Lw
open PySem PySem.W
section
variable {tb:String->Option Builtin}{p:Program}{w:World}{n₀:Nat}{ann:Option Value}
def nr(tb:String->Option Builtin)(p:Program)(w:World)(n₀:Nat)(ann:Option Value):Nat->SharedT->Thread->Option SharedT
 | 0,_,_=>none
 |n+1,s,t=>match through t with
  |true=>some s
  |false=>match stepOk n₀ ann t with
   |false=>none
   |true=>match stepT (denote tb) p w s t with
    |some (s',t')=>nr tb p w n₀ ann n s' t'
    |none=>none
theorem rM(n:Nat):∀ (s r:SharedT) (t:Thread),nr tb p w n₀ ann n s t=some r->topRun tb p w n₀ ann n s.abs t=some r.abs:=by
 induction n with
 |zero=>intro s r t h;cases h
 |succ n ih=>
  intro s r t h;unfold nr at h;unfold topRun
  cases ht:through t with
  |true=>rw[ht] at h;cases h;rfl
  |false=>
   rw[ht] at h
   cases hk:stepOk n₀ ann t with
   |false=>rw[hk] at h;cases h
   |true=>
    rw[hk] at h
    cases hs:stepT (denote tb) p w s t with
    |none=>rw[hs] at h;cases h
    |some x=>
     rw[hs] at h;have e:=stepT_spec hs;dsimp only;rw[e];exact ih _ _ _ h
end
def nu(P:Params):BT:=(boot_heap P).objs.toList.zipIdx.foldl (fun t x=>t.ins x.2 x.1) .nil
def jF(tb:String->Option Builtin)(p:Program)(w:World)(N n:Nat)(life:Life)(ann:Option Value)(os:OsState):Option SharedT:=nr tb p w n ann N ⟨nu w.params,n,life,Array.mk [],boot_drawn,boot_toks,os⟩ (topStub p)
theorem ui{p q:Program}{loose:List Str}{Xt:Shared->Bool}{α:Type}{Yf:Shared->α}{Ya:World->α}{N n:Nat}{life:Life}{ann:Option Value}
    (e:opening p=plainProg p.main.scope.names) (hN:Nat.ble 600 N=true) (f:∀ s,fenceModules? p s=some s)
    (ht:∀ P,absHeap (nu P) n life=boot_heap P)
    (size:∀ P,((boot_heap P).isNs mainGlobals,(boot_heap P).objs.size,(boot_heap P).nsMap mainGlobals "__annotations__")=(true,n,ann))
    (h1:∀ (w:World) (os:OsState),(jF treeTable p w N n life ann os).map (fun r=>(staticsOk (importedModules p.main.body) (boot_heap w.params) r.abs.heap&&namesBound p r.abs.heap&&gensDone r.abs&&laidKept (boot_heap w.params) r.abs.heap,Yf r.abs))=some (true,Ya w))
    (h2:∀ (w:World) (os:OsState),(jF treeTable p w N n life ann os).map (fun r=>(openSeen q loose (importedModules p.main.body) Xt true r.abs).1)=some (openGood q loose).1)
    (h3:∀ (w:World) (os:OsState),(jF treeTable p w N n life ann os).map (fun r=>(openSeen q loose (importedModules p.main.body) Xt true r.abs).2)=some (openGood q loose).2):LeftO p q loose Xt Yf Ya N:=fun w=>by
 obtain ⟨⟨hp,gs,d,k,os⟩,e1,e2⟩:=Option.map_eq_some_iff.mp (boot_open e hN f w);obtain ⟨rfl,rfl,rfl,rfl⟩:hp=boot_heap w.params/\gs=Array.mk []/\d=boot_drawn/\k=boot_toks:=by simpa using e2
 obtain ⟨z1,z2,z3⟩:_/\_/\_:=by simpa only[Prod.mk.injEq] using size w.params
 obtain ⟨r,hr,e3⟩:=Option.map_eq_some_iff.mp (h1 w os);obtain ⟨l1,l3⟩:_/\_:=by simpa only[Prod.mk.injEq] using e3
 have h2:=h2 w os;have h3:=h3 w os;rw[hr] at h2 h3;have l2:=Prod.ext (Option.some.inj h2) (Option.some.inj h3);have t:=rM _ _ _ _ hr;have a:(⟨nu w.params,n,life,Array.mk [],boot_drawn,boot_toks,os⟩:SharedT).abs=⟨boot_heap w.params,Array.mk [],boot_drawn,boot_toks,os⟩:=by unfold SharedT.abs;rw[ht]
 rw[a] at t;have tf:topFrom treeTable p w N ⟨boot_heap w.params,Array.mk [],boot_drawn,boot_toks,os⟩=some r.abs:=by
  unfold topFrom;dsimp only;rw[z1,z2,z3,t];show (match staticsOk (importedModules p.main.body) (boot_heap w.params) r.abs.heap&&namesBound p r.abs.heap&&gensDone r.abs&&laidKept (boot_heap w.params) r.abs.heap with | true=>_ | false=>_)=_;rw[l1]
 unfold openEnds;rw[e1];show (topFrom treeTable p w N _).map _=_;rw[tf];exact congrArg some (Prod.ext l2 l3)
end Lw
namespace Lw
open PySem L2 Mi
abbrev vS(s:String)(t:Tok):Value:=.str (.ofString s) t
abbrev eS(P:Params)(s:String)(t:Tok)(v:Value):DictEntry:=⟨PyData.keyHash P (.ofString s),.str (.ofString s) t,v⟩
abbrev fD(n q:String)(st:Stmt)(dV kV doc pm:Value)(an:Option Addr)(cdv ct:Value):FuncData:=PySem.W.fnOf (.ofString n) (.ofString q) (cv st) (bw st) (ar st) dV kV doc pm an cdv ct
abbrev fO(n q:String)(st:Stmt)(m:String)(t c:Nat):Obj:=⟨.type "function", none,.func (fD n q st .none .none .none (vS m t) none (.ref c) .none),#[]⟩
abbrev tO(l:List Value):Obj:=⟨.type "tuple", none,.seq l.toArray 0,#[]⟩
abbrev cO(n:String)(t1:Nat)(q:String)(t2 t3 l c r1 r2:Nat)(a b d e:Value)(i j t4:Nat):Obj:=⟨.type "code", none,.fields #[vS n t1,vS q t2,vS "/claim/cut.py" t3,.int l 0,.int c 0,.int 0 0,.int 0 0,.int 3 0,.ref r1,.bool true,.int 181 0,.ref r2,a,b,d,e,.int i 0,.int j 0,vS "/claim/cut.py" t4],#[]⟩
def khKeep:List Nat:=[1,2,3,5,6,7,8,9,10,11,12,13,15,16,17,19,20,21,22,23,24,25,26,27,28,29,30]
def khN:Nat:=3104
def nv:List Nat:=2::3::23::24::36::37::48::49::57::58::62::63::69::70::81::82::84::85::95::96::102::103::109::110::114::115::121::122::128::129::135::136::142::143::147::148::152::153::159::160::171::172::176::177::183::184::190::191::[]
def khK:Params->PySem.W.Frag:=fun P=>(nat_lit 2,⟨.none,none,.dict #[] 0,#[]⟩)::(nat_lit 3,⟨.type "dict", none,.dict #[eS P "__name__" 165 (vS "law_lonewalks_k03_all_walks" 345),eS P "__doc__" 166 .none,eS P "__package__" 167 .none,eS P "__loader__" 168 (.builtin "__main__.__loader__#opaque"),eS P "__spec__" 169 .none,eS P "__annotations__" 170 (.ref 6),eS P "__builtins__" 171 (.ref 4),eS P "__file__" 173 (vS "/claim/cut.py" 172),eS P "__cached__" 174 .none,eS P "WalkError" 206 (.ref 24),eS P "BadNet" 222 (.ref 37),eS P "BadWalk" 238 (.ref 49),eS P "MOST_SIDE" 242 (.int 8 241),eS P "MOST_WEIGHT" 244 (.int 1000 243),eS P "MOST_WALKERS" 246 (.int 4 245),eS P "check_side" 253 (.ref 58),eS P "check_steps" 259 (.ref 63),eS P "check_border" 269 (.ref 70),eS P "Net" 301 (.ref 85),eS P "step_weight" 311 (.ref 96),eS P "place_behind" 320 (.ref 103),eS P "LETTERS" 324 (vS "ru" 323),eS P "walks" 338 (.ref 110),eS P "walks_on" 344 (.ref 115),eS P "_law_cell_at" 354 (.ref 122),eS P "_law_mix" 365 (.ref 129),eS P "_law_rows_by" 377 (.ref 136),eS P "_law_step_by" 387 (.ref 143),eS P "_law_parts_by" 393 (.ref 148),eS P "_law_net" 399 (.ref 153),eS P "_law_step" 409 (.ref 160),eS P "_law_went" 423 (.ref 167),eS P "_law_all" 429 (.ref 172),eS P "_law_texts" 435 (.ref 177),eS P "_law_refused" 445 (.ref 184),eS P "law" 460 (.ref 191)] 36,#[]⟩)::(nat_lit 23,⟨.type "dict", none,.dict #[eS P "__module__" 196 (vS "lonewalks.errors" 187),eS P "__firstlineno__" 200 (.int 2 199),eS P "__static_attributes__" 201 (.ref 22),eS P "__weakref__" 203 (.ref 25),eS P "__doc__" 204 .none] 3,#[]⟩)::(nat_lit 24,⟨.type "type", none,.cls ⟨.ofString "WalkError", [.type "ValueError"],[.ref 24,.type "ValueError", .type "Exception", .type "BaseException", .type "object"],23,.ofString "WalkError", true,[],[.ref 37,.ref 49],false,none,false⟩,#[(some (.ref 15)),none,(some (vS "WalkError" 189)),(some (vS "WalkError" 197)),(some (.builtin "ValueError.__new__")),(some (.bool true))]⟩)::(nat_lit 36,⟨.type "dict", none,.dict #[eS P "__module__" 214 (vS "lonewalks.errors" 187),eS P "__firstlineno__" 218 (.int 4 217),eS P "__static_attributes__" 219 (.ref 35),eS P "__doc__" 220 .none] 2,#[]⟩)::(nat_lit 37,⟨.type "type", none,.cls ⟨.ofString "BadNet", [.ref 24],[.ref 37,.ref 24,.type "ValueError", .type "Exception", .type "BaseException", .type "object"],36,.ofString "BadNet", true,[],[],false,none,false⟩,#[(some (.ref 28)),none,(some (vS "BadNet" 207)),(some (vS "BadNet" 215)),(some (.builtin "ValueError.__new__")),(some (.bool true))]⟩)::(nat_lit 48,⟨.type "dict", none,.dict #[eS P "__module__" 230 (vS "lonewalks.errors" 187),eS P "__firstlineno__" 234 (.int 6 233),eS P "__static_attributes__" 235 (.ref 47),eS P "__doc__" 236 .none] 2,#[]⟩)::(nat_lit 49,⟨.type "type", none,.cls ⟨.ofString "BadWalk", [.ref 24],[.ref 49,.ref 24,.type "ValueError", .type "Exception", .type "BaseException", .type "object"],48,.ofString "BadWalk", true,[],[],false,none,false⟩,#[(some (.ref 40)),none,(some (vS "BadWalk" 223)),(some (vS "BadWalk" 231)),(some (.builtin "ValueError.__new__")),(some (.bool true))]⟩)::(nat_lit 57,cO "check_side" 247 "check_side" 248 249 12 1 52 53 .none (.ref 54) (.ref 55) (.ref 56) 251 12 252)::(nat_lit 58,fO "check_side" "check_side" (top 8) "lonewalks.nets" 239 57)::(nat_lit 62,cO "check_steps" 254 "check_steps" 255 256 15 3 59 60 .none .none .none (.ref 61) 257 15 258)::(nat_lit 63,fO "check_steps" "check_steps" (top 9) "lonewalks.nets" 239 62)::(nat_lit 69,cO "check_border" 260 "check_border" 261 262 23 2 64 65 .none (.ref 66) (.ref 67) (.ref 68) 267 23 268)::(nat_lit 70,fO "check_border" "check_border" (top 10) "lonewalks.nets" 239 69)::(nat_lit 81,cO "__init__" 282 "Net.__init__" 283 284 33 5 78 79 .none .none .none (.ref 80) 285 33 286)::(nat_lit 82,fO "__init__" "Net.__init__" (gc 11 0) "lonewalks.nets" 239 81)::(nat_lit 84,⟨.type "dict", none,.dict #[eS P "__module__" 277 (vS "lonewalks.nets" 239),eS P "__firstlineno__" 281 (.int 31 280),eS P "__init__" 287 (.ref 82),eS P "__static_attributes__" 294 (.ref 83),eS P "__dict__" 296 (.ref 86),eS P "__weakref__" 298 (.ref 87),eS P "__doc__" 299 .none] 4,#[]⟩)::(nat_lit 85,⟨.type "type", none,.cls ⟨.ofString "Net", [.type "object"],[.ref 85,.type "object"],84,.ofString "Net", true,[],[],false,none,false⟩,#[none,none,(some (vS "Net" 270)),(some (vS "Net" 278)),(some (.builtin "object.__new__")),(some (.bool true))]⟩)::(nat_lit 95,cO "step_weight" 302 "step_weight" 303 304 50 4 90 91 .none (.ref 92) (.ref 93) (.ref 94) 309 50 310)::(nat_lit 96,fO "step_weight" "step_weight" (top 12) "lonewalks.nets" 239 95)::(nat_lit 102,cO "place_behind" 312 "place_behind" 313 314 56 3 97 98 .none (.ref 99) (.ref 100) (.ref 101) 318 56 319)::(nat_lit 103,fO "place_behind" "place_behind" (top 13) "lonewalks.nets" 239 102)::(nat_lit 109,cO "walks" 325 "walks" 326 327 60 3 104 105 .none (.ref 106) (.ref 107) (.ref 108) 336 60 337)::(nat_lit 110,fO "walks" "walks" (top 16) "lonewalks.walks" 321 109)::(nat_lit 114,cO "walks_on" 339 "walks_on" 340 341 70 4 111 112 .none .none .none (.ref 113) 342 70 343)::(nat_lit 115,fO "walks_on" "walks_on" (top 17) "lonewalks.walks" 321 114)::(nat_lit 121,cO "_law_cell_at" 347 "_law_cell_at" 348 349 77 2 116 117 .none (.ref 118) (.ref 119) (.ref 120) 352 77 353)::(nat_lit 122,fO "_law_cell_at" "_law_cell_at" (top 19) "law_lonewalks_k03_all_walks" 345 121)::(nat_lit 128,cO "_law_mix" 355 "_law_mix" 356 357 81 3 123 124 .none (.ref 125) (.ref 126) (.ref 127) 363 81 364)::(nat_lit 129,fO "_law_mix" "_law_mix" (top 20) "law_lonewalks_k03_all_walks" 345 128)::(nat_lit 135,cO "_law_rows_by" 366 "_law_rows_by" 367 368 86 3 130 131 .none (.ref 132) (.ref 133) (.ref 134) 375 86 376)::(nat_lit 136,fO "_law_rows_by" "_law_rows_by" (top 21) "law_lonewalks_k03_all_walks" 345 135)::(nat_lit 142,cO "_law_step_by" 378 "_law_step_by" 379 380 92 3 137 138 .none (.ref 139) (.ref 140) (.ref 141) 385 92 386)::(nat_lit 143,fO "_law_step_by" "_law_step_by" (top 22) "law_lonewalks_k03_all_walks" 345 142)::(nat_lit 147,cO "_law_parts_by" 388 "_law_parts_by" 389 390 99 4 144 145 .none .none .none (.ref 146) 391 99 392)::(nat_lit 148,fO "_law_parts_by" "_law_parts_by" (top 23) "law_lonewalks_k03_all_walks" 345 147)::(nat_lit 152,cO "_law_net" 394 "_law_net" 395 396 113 1 149 150 .none .none .none (.ref 151) 397 113 398)::(nat_lit 153,fO "_law_net" "_law_net" (top 24) "law_lonewalks_k03_all_walks" 345 152)::(nat_lit 159,cO "_law_step" 400 "_law_step" 401 402 116 4 154 155 .none (.ref 156) (.ref 157) (.ref 158) 407 116 408)::(nat_lit 160,fO "_law_step" "_law_step" (top 25) "law_lonewalks_k03_all_walks" 345 159)::(nat_lit 171,cO "_law_all" 424 "_law_all" 425 426 138 3 168 169 .none .none .none (.ref 170) 427 138 428)::(nat_lit 172,fO "_law_all" "_law_all" (top 27) "law_lonewalks_k03_all_walks" 345 171)::(nat_lit 176,cO "_law_texts" 430 "_law_texts" 431 432 150 2 173 174 .none .none .none (.ref 175) 433 150 434)::(nat_lit 177,fO "_law_texts" "_law_texts" (top 28) "law_lonewalks_k03_all_walks" 345 176)::(nat_lit 183,cO "_law_refused" 436 "_law_refused" 437 438 152 3 178 179 .none (.ref 180) (.ref 181) (.ref 182) 443 152 444)::(nat_lit 184,fO "_law_refused" "_law_refused" (top 29) "law_lonewalks_k03_all_walks" 345 183)::(nat_lit 190,cO "law" 446 "law" 447 448 158 1 185 186 .none (.ref 187) (.ref 188) (.ref 189) 458 158 459)::(nat_lit 191,fO "law" "law" (top 30) "law_lonewalks_k03_all_walks" 345 190)::[]
def vw:Program:={ PySem.Challenge.pw_lonewalks_k03_all_walks with main:={ PySem.Challenge.pw_lonewalks_k03_all_walks.main with body:=khKeep.map top } }
end Lw
namespace Lw
open PySem PySem.W PyProof.Rows
abbrev khL:Life:={ debug:=0,thresholds:=[2000,10,10] }
abbrev khX(s:Shared):Bool:=xlAt vw [] s&&recOk (RowW.records (OpenRow.toRowW (OpenLaw.row PySem.Challenge.rw_lonewalks_k03_all_walks))) s
abbrev khH:Hook:=kHook khK nv (fun _=>by kernel_rfl)
set_option maxRecDepth 100000
theorem left1(w:World)(os:OsState):(jF treeTable (OpenLaw.row PySem.Challenge.rw_lonewalks_k03_all_walks).prog w khN 11 khL (some (.ref 6)) os).map (fun r=>(staticsOk (importedModules (OpenLaw.row PySem.Challenge.rw_lonewalks_k03_all_walks).prog.main.body) (boot_heap w.params) r.abs.heap&&namesBound (OpenLaw.row PySem.Challenge.rw_lonewalks_k03_all_walks).prog r.abs.heap&&gensDone r.abs&&laidKept (boot_heap w.params) r.abs.heap,khH.obs r.abs))=some (true,khH.val w):=by
 rewrite[Fast.te5923862056798008813,Fast.te2368527892694137696,Fast.te14364793385576792824];kernel_rfl
theorem vl(w:World)(os:OsState):(jF treeTable (OpenLaw.row PySem.Challenge.rw_lonewalks_k03_all_walks).prog w khN 11 khL (some (.ref 6)) os).map (fun r=>(openSeen vw [] (importedModules (OpenLaw.row PySem.Challenge.rw_lonewalks_k03_all_walks).prog.main.body) khX true r.abs).1)=some (openGood vw []).1:=by
 rewrite[Fast.te4187177175401517315,Fast.te5923862056798008813,Fast.te2368527892694137696,Fast.te14364793385576792824];kernel_rfl
theorem vm(w:World)(os:OsState):(jF treeTable (OpenLaw.row PySem.Challenge.rw_lonewalks_k03_all_walks).prog w khN 11 khL (some (.ref 6)) os).map (fun r=>(openSeen vw [] (importedModules (OpenLaw.row PySem.Challenge.rw_lonewalks_k03_all_walks).prog.main.body) khX true r.abs).2)=some (openGood vw []).2:=by
 rewrite[Fast.te4187177175401517315,Fast.te5923862056798008813,Fast.te2368527892694137696,Fast.te14364793385576792824];kernel_rfl
theorem left:LeftO (OpenLaw.row PySem.Challenge.rw_lonewalks_k03_all_walks).prog vw [] khX khH.obs khH.val khN:=
 ui (n:=11) (life:=khL) (ann:=some (.ref 6)) (by kernel_rfl) (by kernel_rfl) (fun s=>by kernel_rfl) (fun P=>by kernel_rfl) (fun P=>by kernel_rfl) left1 vl vm
end Lw
namespace Lw
open Mi PySem
section
theorem bok{α β:Type}(a:α)(f:α->Res β):(Res.ok a >>= f)=f a:=rfl
theorem wf{α β:Type}(f:α->Res β):((Res.bad:Res α) >>= f)=.bad:=rfl
theorem wg{α β:Type}(C:Value)(f:α->Res β):((Res.exc C:Res α) >>= f)=.exc C:=rfl
theorem aok{α:Type}(a:α)(k:α->FOut):aft (Res.ok a) k=k a:=rfl
theorem uj{α:Type}(C:Value)(k:α->FOut):aft (Res.exc C:Res α) k=.exc C:=rfl
theorem gZ(i:Int):(D.int i).tag=.f:=rfl
theorem rN(i:Str):(D.str i).tag=.f:=rfl
theorem uk(i:Bool):(D.bl i).tag=.f:=rfl
theorem rO:D.non.tag=.f:=rfl
theorem rP(i:List D):(D.tup i).tag=.f:=rfl
theorem jG(t:Tg)(i:List D):(D.lst t i).tag=t:=rfl
theorem rQ(t:Tg)(C:Addr)(i):(D.ins t C i).tag=t:=rfl
theorem rR(i:List Int):(D.scr i).tag=.f:=rfl
theorem oR(i:Int):(D.int i).rd=.int i:=rfl
theorem oS(i:Str):(D.str i).rd=.str i:=rfl
theorem qE(i:Bool):(D.bl i).rd=.bl i:=rfl
theorem um:D.non.rd=.non:=rfl
theorem oU(i:List D):(D.tup i).rd=.tup i:=rfl
theorem oV(i:List D):(D.lst .f i).rd=.lst .f i:=rfl
theorem oW(i:List D):(D.lst .o i).rd=.lst .b i:=rfl
theorem oX(i:List Int):(D.scr i).rd=.scr i:=rfl
theorem ml(C:Addr)(i):(D.ins .f C i).rd=.ins .f C i:=rfl
theorem uo(p C:Addr)(i):(D.slf p C i).rd=.ins .b C i:=rfl
theorem aw(i:Int):(D.int i).fz=.int i:=rfl
theorem eL(i:Str):(D.str i).fz=.str i:=rfl
theorem kG(i:Bool):(D.bl i).fz=.bl i:=rfl
theorem lx:D.non.fz=.non:=rfl
theorem cM(i:List D):(D.tup i).fz=.tup (D.fzs i):=rfl
theorem bi(t:Tg)(i:List D):(D.lst t i).fz=.lst .f (D.fzs i):=rfl
theorem jg(t:Tg)(C:Addr)(i):(D.ins t C i).fz=.ins .f C i:=rfl
theorem aC:D.fzs []=[]:=rfl
theorem ak(x:D)(r:List D):D.fzs (x::r)=x.fz::D.fzs r:=rfl
theorem jh(i j:Int):aJ (.int i) (.int j)=.ok (.int (i+j)):=rfl
theorem qF(i j:Int):b4 (.int i) (.int j)=.ok (.int (i - j)):=rfl
theorem qG(i j:Int)(h:-(2 ^ 64)<j/\j<2 ^ 64):ck (.int i) (.int j)=.ok (.int (i*j)):=by
 unfold ck gI;simp only;rw[if_pos (by rw[Bool.or_eq_true];right;rw[Bool.and_eq_true,decide_eq_true_eq,decide_eq_true_eq];exact h)]
theorem gE(i j:Int)(h:-(2 ^ 64)<i/\i<2 ^ 64):ck (.int i) (.int j)=.ok (.int (i*j)):=by
 unfold ck gI;simp only;rw[if_pos (by rw[Bool.or_eq_true];left;rw[Bool.and_eq_true,decide_eq_true_eq,decide_eq_true_eq];exact h)]
theorem dQ(i j:Int)(h:0<j):bP (.int i) (.int j)=.ok (.int (i % j)):=by
 unfold bP gI;simp only;rw[if_pos (by simpa using h)]
theorem oY(i j:Int)(h:0<j/\j<1073741824):iU (.int i) (.int j)=.ok (.int (i / j)):=by
 unfold iU gI;simp only;rw[if_pos (by rw[Bool.and_eq_true,decide_eq_true_eq,decide_eq_true_eq];exact h)]
theorem oZ(ns:List Int):a7 [.scr ns]=.ok (.int ns.length):=rfl
theorem uq(i j:Int):dLt (.int i) (.int j)=.ok (.bl (decide (i<j))):=rfl
theorem ut(i j:Int):dLe (.int i) (.int j)=.ok (.bl (decide (i<=j))):=rfl
theorem qe(i j:Int):dGt (.int i) (.int j)=.ok (.bl (decide (j<i))):=rfl
theorem uu(i j:Int):dGe (.int i) (.int j)=.ok (.bl (decide (j<=i))):=rfl
theorem bnf(b:Bool):(false != b)=b:=by cases b<;>rfl
theorem qH(i j:Int):dEq (.int i) (.int j)=.ok (.bl (decide (i=j))):=congrArg (fun b=>Res.ok (D.bl b)) (bnf _)
theorem qI(i j:Str):dEq (.str i) (.str j)=.ok (.bl (decide (i=j))):=congrArg (fun b=>Res.ok (D.bl b)) (bnf _)
theorem nw(i j:Int):de true (.int i) (.int j)=.ok (.bl (!decide (i=j))):=congrArg (fun b=>Res.ok (D.bl b)) (by cases decide (i=j)<;>rfl)
theorem gd(b:Bool):asB (.bl b)=.ok b:=rfl
theorem ntb{t:Tg}(h:(t == .b)=false):t≠.b:=by
 intro z;subst z
 cases h
theorem uw:(Tg.f == Tg.b)=false:=rfl
theorem ux:(Tg.o == Tg.b)=false:=rfl
theorem bO(i:Nat)(ρ:ad)(d:D)(h:ρ[i]?=some (some d)):ac i ρ=.ok d.rd:=by unfold ac;rw[h]
end
end Lw
local macro_rules | `(tactic| simp_arith [$ts,*])=>`(tactic| simp only[Lw.bok,Lw.wf,Lw.wg,Lw.aok,Lw.uj,Mi.a8,Mi.av,Mi.gIf,Mi.ay,Mi.br,Mi.aR,Mi.ft2,Mi.ftB,Mi.b7,Mi.f2,Mi.f1,Mi.fC,Mi.fFz,Mi.ac,Mi.fCB,Mi.aa,Mi.ag,Mi.b5,Mi.bC,Mi.nb,List.all_cons,List.all_nil,List.length_cons,List.length_nil,List.map_cons,List.map_nil,Lw.gZ,Lw.rN,Lw.uk,Lw.rO,Lw.rP,Lw.jG,Lw.rQ,Lw.rR,Lw.oR,Lw.oS,Lw.qE,Lw.um,Lw.oU,Lw.oV,Lw.oW,Lw.oX,Lw.ml,Lw.uo,Lw.aw,Lw.eL,Lw.kG,Lw.lx,Lw.cM,Lw.bi,Lw.jg,Lw.aC,Lw.ak,Lw.jh,Lw.qF,Lw.uq,Lw.ut,Lw.qe,Lw.uu,Lw.qH,Lw.qI,Lw.nw,Lw.gd,Lw.uw,Lw.ux,List.getElem?_cons_zero,List.getElem?_cons_succ,List.set_cons_zero,List.set_cons_succ,List.replicate,List.cons_append,List.nil_append,reduceCtorEq,false_or,or_false,or_self,if_false,if_true,ite_true,ite_false,Nat.reduceAdd,Nat.reduceSub,Nat.reduceLeDiff,Nat.zero_add,Bool.and_true,Bool.true_and,Bool.not_true,Bool.not_false,decide_true,decide_false,$ts,*])
namespace Lw
open Mi PySem
def cell(ns:List Int)(k:Nat):Int:=(ns[k]?).getD 0
theorem jH(a:Ads)(ns:List Int)(k:Nat):aq a [.scr ns,.int k]=.ok (.int (cell ns k)):=by
 by_cases h:(k:Int)<ns.length
 ·have hk:k<ns.length:=by lia
  have hx:L2.atI ns (k:Int)=some (ns[k]):=by
   unfold L2.atI L2.ixN;rw[if_pos (by lia),if_pos h];exact List.getElem?_eq_getElem hk
  have hd:dIx (.scr ns) (.int k)=.ok (.int (cell ns k)):=by
   show (match L2.atI ns (k:Int) with | some v=>Res.ok (D.int v) | none=>.bad)=_;rw[hx,cell,List.getElem?_eq_getElem hk];rfl
  simp_arith [aq,dH,oZ,h,hd]
 ·have hc:cell ns k=0:=by rw[cell,List.getElem?_eq_none (by lia)];rfl
  simp_arith [aq,dH,oZ,h,hc]
theorem dJ{t:Tg}(xs:List Int)(i:Int)(h0:0<=i)(h1:i<xs.length):dIx (.lst t (xs.map D.int)) (.int i)=.ok (.int (xs.getD i.toNat 0)):=by
 have hj:i.toNat<xs.length:=by lia
 have e:L2.ixN (xs.map D.int).length i=some i.toNat:=by
  unfold L2.ixN;rw[List.length_map,if_pos h0,if_pos h1]
 unfold dIx;simp only[e];have g:(xs.map D.int)[i.toNat]?=some (.int (xs.getD i.toNat 0)):=by rw[List.getElem?_map,List.getD,List.getElem?_eq_getElem hj];rfl
 cases t
 ·show bq ((xs.map D.int)[i.toNat]?.map D.asF)=_;rw[g];rfl
 ·show bq ((xs.map D.int)[i.toNat]?)=_;rw[g];rfl
 ·show bq ((xs.map D.int)[i.toNat]?.map D.rd)=_;rw[g];rfl
def tbl:List Int:=[48271,69621,16807,39373,30269,40014,40692,50021,61687,71993,83869,95561,30307]
def tb(k:Int):Int:=tbl.getD (k % 13).toNat 0
def bR(c k many:Int):Int:=((c % 2147483647+12345)*tb k*(2*(k / 13)+1)+977*k) % 1000000007 / 7 % many
theorem ji(a:Ads)(c k many:Int)(k0:0<=k)(k1:k<1000000)(hm:0<many):bj a [.int c,.int k,.int many]=.ok (.int (bR c k many)):=by
 have hi:=dJ (t:=.f) tbl (k % 13) (by lia) (by show k % 13<13;lia);have hi':dIx (D.lst .f [D.int 48271,D.int 69621,D.int 16807,D.int 39373,D.int 30269,D.int 40014,D.int 40692,D.int 50021,D.int 61687,D.int 71993,D.int 83869,D.int 95561,D.int 30307]) (.int (k % 13))=.ok (.int (tb k)):=hi;have hz:(13:Nat)<=sizeLine:=by decide
 have b1:tb k<100000:=by
  have:∀ j,tbl.getD j 0<100000:=by
   intro j;simp only[tbl]
   match j with
   | 0 | 1 | 2 | 3 | 4 | 5 | 6 | 7 | 8 | 9 | 10 | 11 | 12=>decide
   |n+13=>simp
  exact this _
 have b0:-1<tb k:=by
  have:∀ j,-1<tbl.getD j 0:=by
   intro j;simp only[tbl]
   match j with
   | 0 | 1 | 2 | 3 | 4 | 5 | 6 | 7 | 8 | 9 | 10 | 11 | 12=>decide
   |n+13=>simp
  exact this _
 have hz:(13:Nat)<=sizeLine:=by decide
 simp_arith [bj,ja,hz,hi',dQ c 2147483647 (by decide),dQ k 13 (by decide),qG _ (tb k) (by lia),oY k 13 (by decide),gE 2 _ (by decide),qG _ (2*(k / 13)+1) (by lia),gE 977 _ (by decide),dQ _ 1000000007 (by decide),oY _ 7 (by decide),dQ _ many hm,bR]
theorem bu{n:Nat}{F:List D->Res D}{fa:ad->Res (List D)}{ρ:ad}{ds:List D}{d:D}(h:fa ρ=.ok ds)(hn:ds.length=n)(hF:F (D.fzs ds)=.ok d)(ha:d.atom=true):ao n F fa ρ=.ok d:=by
 unfold ao;rw[h,bok,if_pos hn];unfold c0;rw[hF];show (if _ then _ else _)=_;rw[if_pos (.inr ha)]
theorem hG(c k many:Int)(h:0<many):0<=bR c k many/\bR c k many<many:=⟨Int.emod_nonneg _ (by lia),Int.emod_lt_of_pos _ h⟩
def cT(c k shut:Int):Int:=if bR c k shut=0 then 0 else if bR c k shut=1 then [1000,c % 1001].getD (bR c (k+500) 2).toNat 0 else 1+bR c (k+900) 5
theorem ly(c k shut:Int)(h:0<shut):0<=cT c k shut/\cT c k shut<=1000:=by
 unfold cT;split
 ·lia
 ·split
  ·have h2:=hG c (k+500) 2 (by decide)
   have:bR c (k+500) 2=0\/bR c (k+500) 2=1:=by lia
   rcases this with e | e<;>rw[e] <;> simp<;>lia
  ·have:=hG c (k+900) 5 (by decide)
   lia
theorem mm(a:Ads)(c k shut:Int)(k0:0<=k)(k1:k<900000)(hs:0<shut):bb a [.int c,.int k,.int shut]=.ok (.int (cT c k shut)):=by
 have m1:∀ (e:Option D),ao 3 (bj a) (aa (ac 0) (aa (ac 1) (aa (ac 2) ag))) [some (.int c),some (.int k),some (.int shut),e]=.ok (.int (bR c k shut)):=fun e=>
  bu (ds:=[.int c,.int k,.int shut]) rfl rfl (by rw[ak,ak,ak,aC,aw,aw,aw];exact ji a c k shut k0 (by lia) hs) rfl
 have m2:∀ (e:Option D),ao 3 (bj a) (aa (ac 0) (aa (f2 aJ (ac 1) (fC (.int 500))) (aa (fC (.int 2)) ag))) [some (.int c),some (.int k),some (.int shut),e]=.ok (.int (bR c (k+500) 2)):=fun e=>
  bu (ds:=[.int c,.int (k+500),.int 2]) rfl rfl (by rw[ak,ak,ak,aC,aw,aw,aw];exact ji a c (k+500) 2 (by lia) (by lia) (by decide)) rfl
 have m3:∀ (e:Option D),ao 3 (bj a) (aa (ac 0) (aa (f2 aJ (ac 1) (fC (.int 900))) (aa (fC (.int 5)) ag))) [some (.int c),some (.int k),some (.int shut),e]=.ok (.int (bR c (k+900) 5)):=fun e=>
  bu (ds:=[.int c,.int (k+900),.int 5]) rfl rfl (by rw[ak,ak,ak,aC,aw,aw,aw];exact ji a c (k+900) 5 (by lia) (by lia) (by decide)) rfl
 have hz:(2:Nat)<=sizeLine:=by decide
 have h2:=hG c (k+500) 2 (by decide);have hix:dIx (D.lst .o [D.int 1000,D.int (c % 1001)]) (.int (bR c (k+500) 2))=.ok (.int ([1000,c % 1001].getD (bR c (k+500) 2).toNat 0)):=dJ (t:=.o) [1000,c % 1001] _ h2.1 h2.2;unfold cT;by_cases h0:bR c k shut=0
 ·simp_arith [bb,cR,m1,h0]
 ·by_cases h1:bR c k shut=1
  ·simp_arith [bb,cR,m1,m2,h1,hz,hix,dQ c 1001 (by decide),Int.reduceEq]
  ·simp_arith [bb,cR,m1,m3,h0,h1]
theorem j9{α β:Type}(f:α->β):∀ (l:List α) (q:Nat),(l.map f).eraseIdx q=(l.eraseIdx q).map f
 | [],_=>rfl
 |_::_,0=>rfl
 |x::l,q+1=>by simp[j9 f l q]
theorem jj{α:Type}:∀ (l:List α) (q:Nat) (h:q<l.length),(l[q]::l.eraseIdx q).Perm l
 |x::l,0,_=>.refl _
 |x::l,q+1,h=>by
  have h':q<l.length:=by simpa using h
  exact (List.Perm.swap x _ _).trans (List.Perm.cons x (jj l q h'))
def stR(c many rows:Int)(L Fd:List Int)(e:Option D):ad:=[some (.int c),some (.int many),some (.int rows),some (.lst .o (L.map D.int)),some (.lst .o (Fd.map D.int)),e]
abbrev fkR(a:Ads):ad->Res D:=ao 3 (bj a) (aa (ac 0) (aa (f2 ck (fC (.int 7)) (ac 5)) (aa (fCB a7 (aa (ac 3) ag)) ag)))
theorem rS(t:Tg)(xs:List D):a7 [.lst t xs]=.ok (.int xs.length):=rfl
theorem qf(a:Ads)(c many rows:Int)(L Fd:List Int)(j:Nat)(hj:j<1000)(hL:0<L.length)(hL8:L.length<1000)(hF:Fd.length<1000) :
    ∃ q:Nat,∃ hq:q<L.length,cy 4 3 (fkR a) (stR c many rows L Fd (some (.int (0+(j:Int)))))=.nx (stR c many rows (L.eraseIdx q) (Fd++[L[q]]) (some (.int (0+(j:Int))))):=by
 have hm:=hG c (7*(0+(j:Int))) L.length (by lia);have hz:Fd.length<sizeLine:=Nat.lt_trans hF (by decide);refine ⟨(bR c (7*(0+(j:Int))) L.length).toNat,by lia,?_⟩;have hk:fkR a (stR c many rows L Fd (some (.int (0+(j:Int)))))=.ok (.int (bR c (7*(0+(j:Int))) L.length)):=by
  refine bu (ds:=[.int c,.int (7*(0+(j:Int))),.int L.length]) ?_ rfl ?_ rfl
  ·simp_arith [stR,rS,List.length_map,gE 7 _ (by decide)]
  ·rw[ak,ak,ak,aC,aw,aw,aw]
   exact ji a c _ _ (by lia) (by lia) (by lia)
 have hs:seqIndex? (bR c (7*(0+(j:Int))) L.length) (L.map D.int).length=some (bR c (7*(0+(j:Int))) L.length).toNat:=by
  refine (L2.l6 ?_).1;unfold L2.ixN;rw[List.length_map,if_pos hm.1,if_pos hm.2]
 have hg:(L.map D.int)[(bR c (7*(0+(j:Int))) L.length).toNat]?=some (.int (L[(bR c (7*(0+(j:Int))) L.length).toNat]'(by lia))):=by
  rw[List.getElem?_map,List.getElem?_eq_getElem (by lia)];rfl
 have e4:(stR c many rows L Fd (some (.int (0+(j:Int)))))[4]?=some (some (.lst .o (Fd.map D.int))):=rfl;have e3:(stR c many rows L Fd (some (.int (0+(j:Int)))))[3]?=some (some (.lst .o (L.map D.int))):=rfl;unfold cy;simp only[e4,e3,hk,aok,hs,hg];rw[if_neg (by rw[gZ,List.length_map];simp only[reduceCtorEq,false_or];lia)];rw[j9];simp[stR]
theorem bG{gt:D->ad->Res ad}{gb:ad->FOut}{x:D}{xs:List D}{ρ ρ1 ρ2:ad}{o:FOut}(h1:gt x ρ=.ok ρ1)(h2:gb ρ1=.nx ρ2)(h3:bN gt gb xs ρ2=o):bN gt gb (x::xs) ρ=o:=by
 show (match gt x ρ with
  | .ok ρ1=>match gb ρ1 with
   | .nx ρ2=>bN gt gb xs ρ2
   | .ct ρ2=>bN gt gb xs ρ2
   | .bk ρ2=>.nx ρ2
   |r=>r
  |_=>.bad)=o
 rw[h1];simp only[h2,h3]
theorem ka(a:Ads)(c many rows:Int):∀ (m i:Nat) (L Fd:List Int) (e:Option D),m<=L.length->L.length<1000->i+m<1000->Fd.length+m<1000 →
    ∃ L' Fd' e',bN (au 5) (cy 4 3 (fkR a)) ((List.range' i m).map fun (j:Nat)=>D.int (0+(j:Int))) (stR c many rows L Fd e)=.nx (stR c many rows L' Fd' e')/\(L'++Fd').Perm (L++Fd)/\Fd'.length=Fd.length+m
 | 0,i,L,Fd,e,_,_,_,_=>⟨L,Fd,e,rfl,.refl _,rfl⟩
 |m+1,i,L,Fd,e,h1,h2,h3,h4=>by
  obtain ⟨q,hq,hs⟩:=qf a c many rows L Fd i (by lia) (by lia) h2 (by lia);have hl:(L.eraseIdx q).length=L.length - 1:=List.length_eraseIdx_of_lt hq;obtain ⟨L',Fd',e',k1,k2,k3⟩:=ka a c many rows m (i+1) (L.eraseIdx q) (Fd++[L[q]]) (some (.int (0+(i:Int)))) (by lia) (by lia) (by lia) (by simp;lia);refine ⟨L',Fd',e',?_,k2.trans ?_,by rw[k3];simp;lia⟩
  ·rw[List.range'_succ,List.map_cons]
   exact bG rfl hs k1
  ·have p:(L[q]::L.eraseIdx q).Perm L:=jj L q hq
   refine List.Perm.trans ?_ (List.Perm.append_right Fd p);rw[<- List.append_assoc,List.cons_append];exact List.perm_append_singleton _ _
structure Rising (rows:Int) (many:Nat) (L:List Int):Prop where
 len:L.length=many
 asc:L.Pairwise (· < ·)
 inn:∀ x∈L,0<=x/\x<rows
theorem cA{fa:ad->Res (List D)}{ρ:ad}{n:Nat}(h:fa ρ=.ok [.int (n:Int)])(hn:n<1000):bz fa ρ=.ok (aB 0 n):=by
 have h1:-(2 ^ 62)<=(n:Int):=by lia
 have h2:(n:Int)<2 ^ 62:=by lia
 unfold bz;rw[h,bok];show (if (decide (-(2 ^ 62)<=(n:Int))&&decide ((n:Int)<2 ^ 62))=true then Res.ok (aB 0 (n:Int).toNat) else .bad)=_;rw[if_pos (by rw[Bool.and_eq_true,decide_eq_true_eq,decide_eq_true_eq];exact ⟨h1,h2⟩),Int.toNat_natCast]
theorem kb{fa:ad->Res (List D)}{ρ:ad}{n:Nat}(h:fa ρ=.ok [.int (n:Int)])(hn:n<1000):cx fa ρ=.ok (.lst .o (aB 0 n)):=by
 have hl:(aB 0 n).length<=1000000:=by
  have:(aB 0 n).length=n:=by simp[aB]
  lia
 unfold cx;rw[cA h hn,bok,if_pos hl]
theorem bM:∀ L:List Int,D.fzs (L.map D.int)=L.map D.int
 | []=>aC
 |x::L=>by rw[List.map_cons,ak,aw,bM L]
theorem o0(t:Tg)(L:List Int)(hi:D.its (.lst t (L.map D.int))=some (L.map D.int))(h:L.length<64):cm [.lst t (L.map D.int)]=.ok (.lst .o ((cQ L).map D.int)):=by
 unfold cm;simp only[hi,m5];rw[if_pos ⟨rfl,h⟩]
theorem kc(n:Nat):aB 0 n=((List.range n).map fun (i:Nat)=>(0+(i:Int))).map D.int:=by simp[aB]
theorem vn(L:List Int):D.its (.lst .b (L.map D.int))=some (L.map D.int):=by
 show (if ((L.map D.int).all fun x=>x.tag == Tg.f)=true then some (L.map D.int) else none)=_;refine if_pos ?_;rw[List.all_eq_true];intro x hx;obtain ⟨i,_,rfl⟩:=List.mem_map.mp hx;rfl
theorem jI{N:Nat}{g:ad->FOut}{ds:List D}{d:D}(h:g (ds.map some++List.replicate (N - ds.length) none)=.rt d):a8 N g ds=.ok d:=by unfold a8;rw[h]
def jJ(c:Int)(many rows:Nat):ad:=[some (.int c),some (.int many),some (.int rows),none,none,none]
def ny(c:Int)(many rows:Nat):ad:=[some (.int c),some (.int many),some (.int rows),some (.lst .o (aB 0 rows)),none,none]
abbrev L0(rows:Nat):List Int:=(List.range rows).map fun (i:Nat)=>(0+(i:Int))
theorem rr1(c:Int)(many rows:Nat)(hr:rows<1000):ay 3 (cx (aa (ac 2) ag)) (jJ c many rows)=.nx (ny c many rows):=by
 have fl:cx (aa (ac 2) ag) (jJ c many rows)=.ok (.lst .o (aB 0 rows)):=kb (by simp_arith [jJ]) hr;unfold ay;rw[fl,aok,jG,if_neg (by simp[jJ])];simp only[jJ,ny,List.set_cons_zero,List.set_cons_succ]
theorem rr2(c:Int)(many rows:Nat):ay 4 (b5 ag) (ny c many rows)=.nx (stR c many rows (L0 rows) [] none):=by
 have hz:(0:Nat)<=sizeLine:=Nat.zero_le _;simp_arith [stR,ny,kc,hz]
theorem rr3(a:Ads)(c:Int)(many rows:Nat)(hm:many<1000){r:ad}(k1:bN (au 5) (cy 4 3 (fkR a)) (aB 0 many) (stR c many rows (L0 rows) [] none)=.nx r) :
    b9 (bz (aa (ac 1) ag)) (au 5) (cy 4 3 (fkR a)) (stR c many rows (L0 rows) [] none)=.nx r:=by
 have ff:bz (aa (ac 1) ag) (stR c many rows (L0 rows) [] none)=.ok (aB 0 many):=cA (by simp_arith [stR]) hm;unfold b9;rw[ff,aok];exact k1
theorem rr4(c many rows:Int)(L' Fd:List Int)(e':Option D)(hF:Fd.length<64):br (fCB cm (aa (ac 4) ag)) (stR c many rows L' Fd e')=.rt (.lst .o ((cQ Fd).map D.int)):=by
 have fs:fCB cm (aa (ac 4) ag) (stR c many rows L' Fd e')=.ok (.lst .o ((cQ Fd).map D.int)):=by
  simp_arith [stR];exact o0 .b Fd (vn Fd) hF
 unfold br;rw[fs,aok,jG,if_neg (by simp)]
theorem aM{g1 g2:ad->FOut}{r r':ad}(h:g1 r=.nx r'):av g1 g2 r=g2 r':=by unfold av;rw[h]
theorem rr5(a:Ads)(c:Int)(many rows:Nat)(hm:many<1000)(hr:rows<1000){L' Fd:List Int}{e':Option D}
    (k1:bN (au 5) (cy 4 3 (fkR a)) (aB 0 many) (stR c many rows (L0 rows) [] none)=.nx (stR c many rows L' Fd e')) (hF:Fd.length<64):dI a (jJ c many rows)=.rt (.lst .o ((cQ Fd).map D.int)):=by
 unfold dI;rw[aM (rr1 c many rows hr),aM (rr2 c many rows),aM (rr3 a c many rows hm k1)];exact rr4 c many rows L' Fd e' hF
theorem qg(a:Ads)(c:Int)(many rows:Nat)(hm:many<1000)(hr:rows<1000){L' Fd:List Int}{e':Option D}
    (k1:bN (au 5) (cy 4 3 (fkR a)) (aB 0 many) (stR c many rows (L0 rows) [] none)=.nx (stR c many rows L' Fd e')) (hF:Fd.length<64) :
    bn a [.int c,.int many,.int rows]=.ok (.lst .o ((cQ Fd).map D.int)):=by
 have gg:=rr5 a c many rows hm hr k1 hF;exact jI gg
theorem rT(a:Ads)(c:Int)(many rows:Nat)(h1:many<=rows)(h2:rows<=8):∃ L,bn a [.int c,.int many,.int rows]=.ok (.lst .o (L.map D.int))/\Rising rows many L:=by
 obtain ⟨L',Fd,e',k1,k2,k3⟩:=ka a c many rows many 0 ((List.range rows).map fun (i:Nat)=>(0+(i:Int))) [] none (by simp;lia) (by simp;lia) (by lia) (by simp;lia);have hr:aB 0 many=(List.range' 0 many).map fun (j:Nat)=>D.int (0+(j:Int)):=by rw[aB,List.range_eq_range']
 rw[<- hr] at k1;have kl:Fd.length=many:=by rw[k3];simp
 have nd:(L'++Fd).Nodup:=by
  refine (k2.nodup_iff).mpr ?_;rw[List.append_nil];exact List.Pairwise.map _ (fun a b h z=>h (by lia)) (List.nodup_range (n:=rows))
 have inn:∀ x∈Fd,0<=x/\x<rows:=fun x hx=>by
  have:=k2.subset (List.mem_append_right L' hx);simp at this;obtain ⟨i,hi,rfl⟩:=this;lia
 refine ⟨cQ Fd,qg a c many rows (by lia) (by lia) k1 (by lia),by rw[(dm Fd).length_eq,kl],?_,fun x hx=>inn x ((dm Fd).subset hx)⟩;have h1:=gx Fd;have h2:(cQ Fd).Nodup:=((dm Fd).nodup_iff).mpr (List.nodup_append.mp nd).2.1;exact (List.pairwise_and_iff.mpr ⟨h1,h2⟩).imp fun ⟨x,y⟩=>by lia
def onI(f:Int->D):D->D:=fun d=>match d with | .int x=>f x | d=>d
theorem hJ(f:Int->D)(x:Int):onI f (.int x)=f x:=rfl
theorem kf{rest:ad}{fe:ad->Res D}{h:D->D}:∀ (items:List D) (e:Option D) (acc:List D),(∀ x∈items,fe (some x::rest)=.ok (h x)/\(h x).tag≠.b)->acc.length+items.length<=1000 →
    aV (au 0) aL fe items (e::rest) acc=.ok (acc++items.map h)
 | [],_,acc,_,_=>by rw[List.map_nil,List.append_nil];rfl
 |x::xs,e,acc,hh,hl=>by
  have hz:¬ sizeLine<=acc.length:=by
   have:(1000:Nat)<sizeLine:=by decide
   simp at hl;lia
  obtain ⟨h1,h2⟩:=hh x List.mem_cons_self;unfold aV;have ht:au 0 x (e::rest)=.ok (some x::rest):=by
   unfold au;rw[if_neg (by simp)];rfl
  rw[ht,bok];show (aL (some x::rest) >>= _)=_;rw[show aL (some x::rest)=.ok true from rfl,bok,if_pos rfl,h1,bok,if_neg (fun z=>z.elim h2 hz)];rw[kf xs (some x) (acc++[h x]) (fun y hy=>hh y (List.mem_cons_of_mem _ hy)) (by simp at hl ⊢;lia)];simp
theorem eY{cap:List Nat}{fi:ad->Res (List D)}{fe:ad->Res D}{ρ:ad}{items:List D}(h:D->D)(hi:fi ρ=.ok items)(hh:∀ x∈items,fe (some x::cap.map (aZ ρ))=.ok (h x)/\(h x).tag≠.b)(hl:items.length<=1000) :
    aF 1 cap fi (au 0) aL fe ρ=.ok (.lst .o (items.map h)):=by
 unfold aF;rw[hi,bok];have:=kf (rest:=cap.map (aZ ρ)) (fe:=fe) (h:=h) items none [] hh (by simpa using hl);show (match aV (au 0) aL fe items (none::cap.map (aZ ρ)) [] with
  | .ok ds=>Res.ok (D.lst .o ds)
  |_=>.bad)=_
 rw[this];rfl
theorem jk{n:Nat}{F:List D->Res D}{fa:ad->Res (List D)}{ρ:ad}{ds:List D}{d:D}(h:fa ρ=.ok ds)(hn:ds.length=n)(hF:F (D.fzs ds)=.ok d)(ha:d.atom=true):eI n F fa ρ=.ok d:=by
 unfold eI;rw[h,bok,if_pos hn];have:c0 F ds=.ok d:=by
  unfold c0;rw[hF];show (if _ then _ else _)=_;rw[if_pos (.inr ha)]
 rw[this]
theorem dY{n:Nat}{x:D}(h:x∈aB 0 n):∃ i:Nat,i<n/\x=.int i:=by
 unfold aB at h;obtain ⟨i,hi,rfl⟩:=List.mem_map.mp h;exact ⟨i,List.mem_range.mp hi,by simp⟩
def ah(t:Tg)(g:List (List Int)):List D:=g.map fun r=>D.lst t (r.map D.int)
def aP(c shut:Int)(cols rows:Nat):List (List Int):=(List.range rows).map fun (y:Nat)=>(List.range cols).map fun (x:Nat)=>cT c (10*(y:Int)+(x:Int)) shut
def aW(c shut:Int)(cols rows:Nat):List (List Int):=(List.range rows).map fun (y:Nat)=>(List.range cols).map fun (x:Nat)=>cT c (200+10*(y:Int)+(x:Int)) shut
abbrev feR(a:Ads):ad->Res D:=aF 1 [0,1,3] (bz (aa (f2 b4 (ac 2) (fC (.int 1))) ag)) (au 0) aL (eI 3 (bb a) (aa (ac 3) (aa (f2 aJ (f2 ck (fC (.int 10)) (ac 1)) (ac 0)) (aa (ac 2) ag))))
theorem o3(a:Ads)(c shut:Int)(cols y:Nat)(hs:0<shut)(hc:cols<100)(hy:y<100) :
    feR a [some (.int y),some (.int shut),some (.int ((cols:Int)+1)),some (.int c)]=.ok (.lst .o ((aB 0 cols).map (onI fun (x:Int)=>D.int (cT c (10*(y:Int)+x) shut)))):=by
 refine eY (items:=aB 0 cols) _ (cA ?_ (by lia)) (fun d hd=>?_) (by simp[aB];lia)
 ·simp_arith []
  congr 3;lia
 ·obtain ⟨x,hx,rfl⟩:=dY hd
  refine ⟨?_,ntb rfl⟩;refine jk (ds:=[.int c,.int (10*(y:Int)+(x:Int)),.int shut]) ?_ rfl ?_ rfl
  ·simp_arith [aZ,gE 10 _ (by decide)]
  ·rw[ak,ak,ak,aC,aw,aw,aw]
   exact mm a c _ shut (by lia) (by lia) hs
theorem jK(cols:Nat)(f:Int->Int):((aB 0 cols).map (onI fun (x:Int)=>D.int (f x)))=((List.range cols).map fun (x:Nat)=>f (x:Int)).map D.int:=by
 unfold aB;rw[List.map_map,List.map_map];refine List.map_congr_left fun x _=>?_;simp only[Function.comp_apply,hJ,Int.zero_add]
theorem nz(a:Ads)(c shut:Int)(cols rows:Nat)(hs:0<shut)(hc:cols<100)(hr:rows<100){ρ:ad}(h3:ρ[3]?=some (some (.int shut)))(h4:ρ[4]?=some (some (.int ((cols:Int)+1))))(h5:ρ[5]?=some (some (.int rows)))(h6:ρ[6]?=some (some (.int c))) :
    aF 1 [3,4,6] (bz (aa (ac 5) ag)) (au 0) aL (feR a) ρ=.ok (.lst .o (ah .o (aP c shut cols rows))):=by
 have e:=eY (cap:=[3,4,6]) (fi:=bz (aa (ac 5) ag)) (fe:=feR a) (ρ:=ρ) (items:=aB 0 rows) ((onI fun (y:Int)=>D.lst .o (((List.range cols).map fun (x:Nat)=>cT c (10*y+(x:Int)) shut).map D.int)))
  (cA (by unfold aa ag;rw[bO 5 ρ _ h5];simp_arith []) (by lia)) (fun d hd=>?_) (by simp[aB];lia)
 ·rw[e]
  congr 2;unfold aB ah aP;rw[List.map_map,List.map_map];refine List.map_congr_left fun y _=>?_;simp only[Function.comp_apply,hJ,Int.zero_add]
 ·obtain ⟨y,hy,rfl⟩:=dY hd
  refine ⟨?_,ntb rfl⟩;have hcap:[3,4,6].map (aZ ρ)=[some (.int shut),some (.int ((cols:Int)+1)),some (.int c)]:=by
   simp only[List.map_cons,List.map_nil,aZ,h3,h4,h6,gZ,if_true]
  rw[hcap,o3 a c shut cols y hs hc (by lia),jK cols fun x=>cT c (10*(y:Int)+x) shut,hJ]
abbrev feU(a:Ads):ad->Res D:=aF 1 [0,1,3] (bz (aa (ac 2) ag)) (au 0) aL (eI 3 (bb a) (aa (ac 3) (aa (f2 aJ (f2 aJ (fC (.int 200)) (f2 ck (fC (.int 10)) (ac 1))) (ac 0)) (aa (ac 2) ag))))
theorem uy(a:Ads)(c shut:Int)(cols y:Nat)(hs:0<shut)(hc:cols<100)(hy:y<100) :
    feU a [some (.int y),some (.int shut),some (.int (cols:Int)),some (.int c)]=.ok (.lst .o ((aB 0 cols).map (onI fun (x:Int)=>D.int (cT c (200+10*(y:Int)+x) shut)))):=by
 refine eY (items:=aB 0 cols) _ (cA ?_ (by lia)) (fun d hd=>?_) (by simp[aB];lia)
 ·simp_arith []
 ·obtain ⟨x,hx,rfl⟩:=dY hd
  refine ⟨?_,ntb rfl⟩;refine jk (ds:=[.int c,.int (200+10*(y:Int)+(x:Int)),.int shut]) ?_ rfl ?_ rfl
  ·simp_arith [aZ,gE 10 _ (by decide)]
  ·rw[ak,ak,ak,aC,aw,aw,aw]
   exact mm a c _ shut (by lia) (by lia) hs
theorem rV(a:Ads)(c shut:Int)(cols rows:Nat)(hs:0<shut)(hc:cols<100)(hr:rows<100){ρ:ad}(h3:ρ[3]?=some (some (.int shut)))(h4:ρ[4]?=some (some (.int (cols:Int))))(h5:ρ[5]?=some (some (.int ((rows:Int)+1))))(h6:ρ[6]?=some (some (.int c))) :
    aF 1 [3,4,6] (bz (aa (f2 b4 (ac 5) (fC (.int 1))) ag)) (au 0) aL (feU a) ρ=.ok (.lst .o (ah .o (aW c shut cols rows))):=by
 have e:=eY (cap:=[3,4,6]) (fi:=bz (aa (f2 b4 (ac 5) (fC (.int 1))) ag)) (fe:=feU a) (ρ:=ρ) (items:=aB 0 rows) ((onI fun (y:Int)=>D.lst .o (((List.range cols).map fun (x:Nat)=>cT c (200+10*y+(x:Int)) shut).map D.int)))
  (cA (by
   unfold aa ag f2 fC
   rw[bO 5 ρ _ h5]
   simp_arith []
   congr 3
   lia) (by lia)) (fun d hd=>?_) (by simp[aB];lia)
 ·rw[e]
  congr 2;unfold aB ah aW;rw[List.map_map,List.map_map];refine List.map_congr_left fun y _=>?_;simp only[Function.comp_apply,hJ,Int.zero_add]
 ·obtain ⟨y,hy,rfl⟩:=dY hd
  refine ⟨?_,ntb rfl⟩;have hcap:[3,4,6].map (aZ ρ)=[some (.int shut),some (.int (cols:Int)),some (.int c)]:=by
   simp only[List.map_cons,List.map_nil,aZ,h3,h4,h6,gZ,if_true]
  rw[hcap,uy a c shut cols y hs hc (by lia)];exact congrArg (fun l=>Res.ok (D.lst Tg.o l)) (jK cols fun x=>cT c (200+10*(y:Int)+x) shut)
theorem cq(t:Tg):∀ g:List (List Int),D.fzs (ah t g)=ah .f g
 | []=>aC
 |r::g=>by
  show D.fzs (D.lst t (r.map D.int)::ah t g)=_;rw[ak,bi,bM,cq t g];rfl
structure Parts where
 cols:Nat
 rows:Nat
 right:List (List Int)
 up:List (List Int)
 starts:List Int
 ends:List Int
def Parts.d(p:Parts):D:=.tup [.lst .f (ah .f p.right),.lst .f (ah .f p.up),.lst .f (p.starts.map D.int),.lst .f (p.ends.map D.int)]
structure Good (most walkers:Nat) (p:Parts):Prop where
 c1:1<=p.cols/\p.cols<=most
 r1:1<=p.rows/\p.rows<=most
 rl:p.right.length=p.rows
 rr:∀ r∈p.right,r.length+1=p.cols/\∀ v∈r,0<=v/\v<=1000
 ul:p.up.length+1=p.rows
 ur:∀ r∈p.up,r.length=p.cols/\∀ v∈r,0<=v/\v<=1000
 many:∃ m,1<=m/\m<=walkers/\Rising p.rows m p.starts/\Rising p.rows m p.ends
theorem qh(c shut:Int)(cols rows:Nat)(hs:0<shut):(aP c shut cols rows).length=rows/\∀ r∈aP c shut cols rows,r.length=cols/\∀ v∈r,0<=v/\v<=1000:=by
 refine ⟨by simp[aP],fun r hr=>?_⟩;obtain ⟨y,_,rfl⟩:=List.mem_map.mp hr;refine ⟨by simp,fun v hv=>?_⟩;obtain ⟨x,_,rfl⟩:=List.mem_map.mp hv;exact ly _ _ _ hs
theorem qi(c shut:Int)(cols rows:Nat)(hs:0<shut):(aW c shut cols rows).length=rows/\∀ r∈aW c shut cols rows,r.length=cols/\∀ v∈r,0<=v/\v<=1000:=by
 refine ⟨by simp[aW],fun r hr=>?_⟩;obtain ⟨y,_,rfl⟩:=List.mem_map.mp hr;refine ⟨by simp,fun v hv=>?_⟩;obtain ⟨x,_,rfl⟩:=List.mem_map.mp hv;exact ly _ _ _ hs
theorem jl(ns:List Int):(D.scr ns).fz=.scr ns:=rfl
theorem lA{i:Nat}{f:ad->Res D}{ρ:ad}{d:D}(h:f ρ=.ok d)(hb:d.tag≠.b)(hi:i<ρ.length):ay i f ρ=.nx (ρ.set i (some d)):=by
 unfold ay;rw[h,aok,if_neg (fun z=>z.elim hb (by lia))]
theorem qJ{f:ad->Res D}{ρ:ad}{d:D}(h:f ρ=.ok d)(hb:d.tag≠.b):fFz f ρ=.ok d.fz:=by
 unfold fFz;rw[h,bok,if_neg hb]
theorem cX{i:Nat}{f:ad->Res D}{ρ:ad}{d:D}(h:f ρ=.ok d)(hb:d.tag≠.b)(hi:i<ρ.length):ay i (fFz f) ρ=.nx (ρ.set i (some d.fz)):=lA (qJ h hb) (by rw[d.fz_tag];decide) hi
theorem cg{f:ad->Res D}{g:ad->Res (List D)}{ρ:ad}{d:D}{ds:List D}(h1:f ρ=.ok d)(h2:g ρ=.ok ds):aa f g ρ=.ok (d::ds):=by unfold aa;rw[h1,bok,h2,bok]
theorem eM{g:D->D->Res D}{f1 f2':ad->Res D}{ρ:ad}{x y:D}(h1:f1 ρ=.ok x)(h2:f2' ρ=.ok y):f2 g f1 f2' ρ=g x y:=by unfold f2;rw[h1,bok,h2,bok]
theorem qj{n:Nat}{F:List D->Res D}{fa:ad->Res (List D)}{ρ:ad}{ds:List D}{d:D}(h:fa ρ=.ok ds)(hn:ds.length=n)(hF:F (D.fzs ds)=.ok d)(hb:nb ds=true)(ht:d.tag≠.b):ao n F fa ρ=.ok d:=by
 unfold ao;rw[h,bok,if_pos hn];unfold c0;rw[hF];show (if _ then _ else _)=_;rw[if_pos (.inl ⟨hb,ht⟩)]
theorem dj(a:Ads)(ns:List Int)(k:Nat){ρ:ad}(h:ρ[0]?=some (some (.scr ns))):ao 2 (aq a) (aa (ac 0) (aa (fC (.int (k:Int))) ag)) ρ=.ok (.int (cell ns k)):=by
 refine bu (ds:=[.scr ns,.int k]) ?_ rfl ?_ rfl
 ·unfold aa ag fC
  rw[bO 0 ρ _ h];rfl
 ·rw[ak,ak,aC,jl,aw]
  exact jH a ns k
theorem lB(a:Ads)(ns:List Int)(k:Nat){ρ:ad}(j:Nat)(m:Int)(h:ρ[0]?=some (some (.scr ns)))(hj:ρ[j]?=some (some (.int m)))(hm:0<m) :
    f2 aJ (fC (.int 1)) (f2 bP (ao 2 (aq a) (aa (ac 0) (aa (fC (.int (k:Int))) ag))) (ac j)) ρ=.ok (.int (1+cell ns k % m)):=by
 rw[eM (x:=.int 1) rfl ((eM (dj a ns k h) (bO j ρ _ hj)).trans (dQ _ _ hm)),jh]
theorem kg(a:Ads)(ns:List Int)(k:Nat)(many rows:Nat){ρ:ad}(h:ρ[0]?=some (some (.scr ns)))(h9:ρ[9]?=some (some (.int many)))(h5:ρ[5]?=some (some (.int rows)))(h1:many<=rows)(h2:rows<=8) :
    ∃ L,ao 3 (bn a) (aa (ao 2 (aq a) (aa (ac 0) (aa (fC (.int (k:Int))) ag))) (aa (ac 9) (aa (ac 5) ag))) ρ=.ok (.lst .o (L.map D.int))/\Rising rows many L:=by
 obtain ⟨L,e,r⟩:=rT a (cell ns k) many rows h1 h2;refine ⟨L,?_,r⟩;refine qj (ds:=[.int (cell ns k),.int many,.int rows]) (cg (dj a ns k h) (cg (bO 9 ρ _ h9) (cg (bO 5 ρ _ h5) rfl))) rfl ?_ rfl (ntb rfl);rw[ak,ak,ak,aC,aw,aw,aw,e]
theorem lC(rows many:Nat)(h:many<=rows):Rising rows many ((List.range many).map fun (i:Nat)=>(0+(i:Int))):=by
 refine ⟨by simp,List.Pairwise.map _ (fun a b h=>by lia) (List.pairwise_lt_range (n:=many)),fun x hx=>?_⟩;obtain ⟨i,hi,rfl⟩:=List.mem_map.mp hx;have:=List.mem_range.mp hi;lia
theorem nA(rows many:Nat)(h:many<=rows):Rising rows many ((List.range many).map fun (i:Nat)=>((rows:Int) - many+(i:Int))):=by
 refine ⟨by simp,List.Pairwise.map _ (fun a b h=>by lia) (List.pairwise_lt_range (n:=many)),fun x hx=>?_⟩;obtain ⟨i,hi,rfl⟩:=List.mem_map.mp hx;have:=List.mem_range.mp hi;lia
def E0(ns:List Int)(most walkers:Nat)(shut:Int)(v4 v5 v6 v7 v8 v9:Option D):ad:=[some (.scr ns),some (.int most),some (.int walkers),some (.int shut),v4,v5,v6,v7,v8,v9,none,none]
def E1(ns:List Int)(most walkers:Nat)(shut:Int)(C R:Nat)(c:Int)(r u:D)(M:Nat)(st en:Option D):ad:=
 [some (.scr ns),some (.int most),some (.int walkers),some (.int shut),some (.int ((C:Int)+1)),some (.int ((R+1:Nat):Int)),some (.int c),some r,some u,some (.int M),st,en]
theorem qk(a:Ads)(ns:List Int)(most walkers:Nat)(shut:Int)(hm:1<=most)(hm8:most<=8)(hw:1<=walkers)(hs:0<shut):∃ p:Parts,Good most walkers p/\∃ d,bK a [.scr ns,.int most,.int walkers,.int shut]=.ok d/\d=p.d:=by
 obtain ⟨C,hC,hC2⟩:∃ C:Nat,1+cell ns 0 % (most:Int)=(C:Int)+1/\C<most:=⟨(cell ns 0 % (most:Int)).toNat,by have:=Int.emod_nonneg (cell ns 0) (b:=(most:Int)) (by lia);lia,by have:=Int.emod_lt_of_pos (cell ns 0) (b:=(most:Int)) (by lia);have:=Int.emod_nonneg (cell ns 0) (b:=(most:Int)) (by lia);lia⟩
 obtain ⟨R,hR,hR2⟩:∃ R:Nat,1+cell ns 1 % (most:Int)=(R:Int)+1/\R<most:=⟨(cell ns 1 % (most:Int)).toNat,by have:=Int.emod_nonneg (cell ns 1) (b:=(most:Int)) (by lia);lia,by have:=Int.emod_lt_of_pos (cell ns 1) (b:=(most:Int)) (by lia);have:=Int.emod_nonneg (cell ns 1) (b:=(most:Int)) (by lia);lia⟩
 have hmn:0<(if ((R:Int)+1)<(walkers:Int) then ((R:Int)+1) else (walkers:Int)):=by split<;>lia
 obtain ⟨M,hM,hM2,hM3⟩:∃ M:Nat,1+cell ns 4 % (if ((R:Int)+1)<(walkers:Int) then ((R:Int)+1) else (walkers:Int))=(M:Int)/\1<=M/\M<=R+1/\M<=walkers:=by
  have h1:=Int.emod_nonneg (cell ns 4) (b:=(if ((R:Int)+1)<(walkers:Int) then ((R:Int)+1) else (walkers:Int))) (by lia);have h2:=Int.emod_lt_of_pos (cell ns 4) hmn;refine ⟨(1+cell ns 4 % (if ((R:Int)+1)<(walkers:Int) then ((R:Int)+1) else (walkers:Int))).toNat,by lia,by lia,?_,?_⟩ <;> split at h2<;>split<;>lia
 obtain ⟨L1,s1,r1⟩:=kg a ns 5 M (R+1) (ρ:=E1 ns most walkers shut C R (cell ns 3) (.lst .f (ah .f (aP (cell ns 2) shut C (R+1)))) (.lst .f (ah .f (aW (cell ns 3) shut (C+1) R))) M none none) rfl rfl rfl (by lia) (by lia)
 obtain ⟨L2,s2,r2⟩:=kg a ns 6 M (R+1) (ρ:=E1 ns most walkers shut C R (cell ns 3) (.lst .f (ah .f (aP (cell ns 2) shut C (R+1)))) (.lst .f (ah .f (aW (cell ns 3) shut (C+1) R))) M (some (.lst .f (L1.map D.int))) none) rfl rfl rfl (by lia) (by lia)
 have h4:ay 4 (fFz (f2 aJ (fC (.int 1)) (f2 bP (ao 2 (aq a) (aa (ac 0) (aa (fC (.int 0)) ag))) (ac 1)))) (E0 ns most walkers shut none none none none none none)=.nx (E0 ns most walkers shut (some (.int ((C:Int)+1))) none none none none none):=by
  have:=cX (i:=4) (ρ:=E0 ns most walkers shut none none none none none none) (lB a ns 0 1 most rfl rfl (by lia)) (ntb rfl) (by show 4<12;decide);rw[hC,aw] at this;exact this
 have h5:ay 5 (fFz (f2 aJ (fC (.int 1)) (f2 bP (ao 2 (aq a) (aa (ac 0) (aa (fC (.int 1)) ag))) (ac 1)))) (E0 ns most walkers shut (some (.int ((C:Int)+1))) none none none none none)=.nx (E0 ns most walkers shut (some (.int ((C:Int)+1))) (some (.int ((R+1:Nat):Int))) none none none none):=by
  have:=cX (i:=5) (ρ:=E0 ns most walkers shut (some (.int ((C:Int)+1))) none none none none none) (lB a ns 1 1 most rfl rfl (by lia)) (ntb rfl) (by show 5<12;decide);rw[hR,aw] at this;exact this
 have h6:ay 6 (fFz (ao 2 (aq a) (aa (ac 0) (aa (fC (.int 2)) ag)))) (E0 ns most walkers shut (some (.int ((C:Int)+1))) (some (.int ((R+1:Nat):Int))) none none none none)=.nx (E0 ns most walkers shut (some (.int ((C:Int)+1))) (some (.int ((R+1:Nat):Int))) (some (.int (cell ns 2))) none none none):=by
  have:=cX (i:=6) (ρ:=E0 ns most walkers shut (some (.int ((C:Int)+1))) (some (.int ((R+1:Nat):Int))) none none none none) (dj a ns 2 rfl) (ntb rfl) (by show 6<12;decide);rw[aw] at this;exact this
 have h7:ay 7 (fFz (aF 1 [3,4,6] (bz (aa (ac 5) ag)) (au 0) aL (feR a))) (E0 ns most walkers shut (some (.int ((C:Int)+1))) (some (.int ((R+1:Nat):Int))) (some (.int (cell ns 2))) none none none)=.nx (E0 ns most walkers shut (some (.int ((C:Int)+1))) (some (.int ((R+1:Nat):Int))) (some (.int (cell ns 2))) (some (.lst .f (ah .f (aP (cell ns 2) shut C (R+1))))) none none):=by
  have:=cX (i:=7) (ρ:=E0 ns most walkers shut (some (.int ((C:Int)+1))) (some (.int ((R+1:Nat):Int))) (some (.int (cell ns 2))) none none none) (nz a (cell ns 2) shut C (R+1) hs (by lia) (by lia) rfl rfl rfl rfl) (ntb rfl) (by show 7<12;decide);rw[bi,cq] at this;exact this
 have h6b:ay 6 (fFz (ao 2 (aq a) (aa (ac 0) (aa (fC (.int 3)) ag)))) (E0 ns most walkers shut (some (.int ((C:Int)+1))) (some (.int ((R+1:Nat):Int))) (some (.int (cell ns 2))) (some (.lst .f (ah .f (aP (cell ns 2) shut C (R+1))))) none none)=.nx (E0 ns most walkers shut (some (.int ((C:Int)+1))) (some (.int ((R+1:Nat):Int))) (some (.int (cell ns 3))) (some (.lst .f (ah .f (aP (cell ns 2) shut C (R+1))))) none none):=by
  have:=cX (i:=6) (ρ:=(E0 ns most walkers shut (some (.int ((C:Int)+1))) (some (.int ((R+1:Nat):Int))) (some (.int (cell ns 2))) (some (.lst .f (ah .f (aP (cell ns 2) shut C (R+1))))) none none)) (dj a ns 3 rfl) (ntb rfl) (by show 6<12;decide);rw[aw] at this;exact this
 have h8:ay 8 (fFz (aF 1 [3,4,6] (bz (aa (f2 b4 (ac 5) (fC (.int 1))) ag)) (au 0) aL (feU a))) (E0 ns most walkers shut (some (.int ((C:Int)+1))) (some (.int ((R+1:Nat):Int))) (some (.int (cell ns 3))) (some (.lst .f (ah .f (aP (cell ns 2) shut C (R+1))))) none none)=.nx (E0 ns most walkers shut (some (.int ((C:Int)+1))) (some (.int ((R+1:Nat):Int))) (some (.int (cell ns 3))) (some (.lst .f (ah .f (aP (cell ns 2) shut C (R+1))))) (some (.lst .f (ah .f (aW (cell ns 3) shut (C+1) R)))) none):=by
  have:=cX (i:=8) (ρ:=(E0 ns most walkers shut (some (.int ((C:Int)+1))) (some (.int ((R+1:Nat):Int))) (some (.int (cell ns 3))) (some (.lst .f (ah .f (aP (cell ns 2) shut C (R+1))))) none none)) (rV a (cell ns 3) shut (C+1) R hs (by lia) (by lia) rfl rfl rfl rfl) (ntb rfl) (by show 8<12;decide);rw[bi,cq] at this;exact this
 have h9:ay 9 (fFz (f2 aJ (fC (.int 1)) (f2 bP (ao 2 (aq a) (aa (ac 0) (aa (fC (.int 4)) ag))) (fCB fV (aa (ac 2) (aa (ac 5) ag)))))) (E0 ns most walkers shut (some (.int ((C:Int)+1))) (some (.int ((R+1:Nat):Int))) (some (.int (cell ns 3))) (some (.lst .f (ah .f (aP (cell ns 2) shut C (R+1))))) (some (.lst .f (ah .f (aW (cell ns 3) shut (C+1) R)))) none)=.nx (E1 ns most walkers shut C R (cell ns 3) (.lst .f (ah .f (aP (cell ns 2) shut C (R+1)))) (.lst .f (ah .f (aW (cell ns 3) shut (C+1) R))) M none none):=by
  have e:=(eM (g:=aJ) (f1:=fC (.int 1)) (x:=.int 1) (ρ:=(E0 ns most walkers shut (some (.int ((C:Int)+1))) (some (.int ((R+1:Nat):Int))) (some (.int (cell ns 3))) (some (.lst .f (ah .f (aP (cell ns 2) shut C (R+1))))) (some (.lst .f (ah .f (aW (cell ns 3) shut (C+1) R)))) none)) rfl ((eM (g:=bP) (dj a ns 4 rfl) (show fCB fV (aa (ac 2) (aa (ac 5) ag)) (E0 ns most walkers shut (some (.int ((C:Int)+1))) (some (.int ((R+1:Nat):Int))) (some (.int (cell ns 3))) (some (.lst .f (ah .f (aP (cell ns 2) shut C (R+1))))) (some (.lst .f (ah .f (aW (cell ns 3) shut (C+1) R)))) none)=.ok (.int (if ((R:Int)+1)<(walkers:Int) then ((R:Int)+1) else (walkers:Int))) from rfl)).trans (dQ _ _ hmn))).trans (jh _ _)
  have:=cX (i:=9) e (ntb rfl) (by show 9<12;decide);rw[hM,aw] at this;exact this
 have h10:ay 10 (fFz (ao 3 (bn a) (aa (ao 2 (aq a) (aa (ac 0) (aa (fC (.int 5)) ag))) (aa (ac 9) (aa (ac 5) ag))))) (E1 ns most walkers shut C R (cell ns 3) (.lst .f (ah .f (aP (cell ns 2) shut C (R+1)))) (.lst .f (ah .f (aW (cell ns 3) shut (C+1) R))) M none none)=.nx (E1 ns most walkers shut C R (cell ns 3) (.lst .f (ah .f (aP (cell ns 2) shut C (R+1)))) (.lst .f (ah .f (aW (cell ns 3) shut (C+1) R))) M (some (.lst .f (L1.map D.int))) none):=by
  have:=cX (i:=10) s1 (ntb rfl) (by show 10<12;decide);rw[bi,bM] at this;exact this
 have h11:ay 11 (fFz (ao 3 (bn a) (aa (ao 2 (aq a) (aa (ac 0) (aa (fC (.int 6)) ag))) (aa (ac 9) (aa (ac 5) ag))))) (E1 ns most walkers shut C R (cell ns 3) (.lst .f (ah .f (aP (cell ns 2) shut C (R+1)))) (.lst .f (ah .f (aW (cell ns 3) shut (C+1) R))) M (some (.lst .f (L1.map D.int))) none)=.nx (E1 ns most walkers shut C R (cell ns 3) (.lst .f (ah .f (aP (cell ns 2) shut C (R+1)))) (.lst .f (ah .f (aW (cell ns 3) shut (C+1) R))) M (some (.lst .f (L1.map D.int))) (some (.lst .f (L2.map D.int)))):=by
  have:=cX (i:=11) s2 (ntb rfl) (by show 11<12;decide);rw[bi,bM] at this;exact this
 have hret:∀ S T:List Int,br (bC (aa (ac 7) (aa (ac 8) (aa (ac 10) (aa (ac 11) ag))))) (E1 ns most walkers shut C R (cell ns 3) (.lst .f (ah .f (aP (cell ns 2) shut C (R+1)))) (.lst .f (ah .f (aW (cell ns 3) shut (C+1) R))) M (some (.lst .f ((S).map D.int))) (some (.lst .f ((T).map D.int))))=.rt (Parts.d ⟨C+1,R+1,aP (cell ns 2) shut C (R+1),aW (cell ns 3) shut (C+1) R,S,T⟩):=fun S T=>by
  have hz:(4:Nat)<=sizeLine:=by decide
  simp_arith [E1,hz,cq,bM,Parts.d]
 have htest:ft2 dGt (f2 bP (ao 2 (aq a) (aa (ac 0) (aa (fC (.int 7)) ag))) (fC (.int 3))) (fC (.int 0)) (E1 ns most walkers shut C R (cell ns 3) (.lst .f (ah .f (aP (cell ns 2) shut C (R+1)))) (.lst .f (ah .f (aW (cell ns 3) shut (C+1) R))) M (some (.lst .f ((L1).map D.int))) (some (.lst .f ((L2).map D.int))))=.ok (decide (0<cell ns 7 % 3)):=by
  have hc7:(ao 2 (aq a) (aa (ac 0) (aa (fC (.int 7)) ag))) (E1 ns most walkers shut C R (cell ns 3) (.lst .f (ah .f (aP (cell ns 2) shut C (R+1)))) (.lst .f (ah .f (aW (cell ns 3) shut (C+1) R))) M (some (.lst .f ((L1).map D.int))) (some (.lst .f ((L2).map D.int))))=.ok (.int (cell ns 7)):=dj a ns 7 rfl
  have hx:f2 dGt (f2 bP (ao 2 (aq a) (aa (ac 0) (aa (fC (.int 7)) ag))) (fC (.int 3))) (fC (.int 0)) (E1 ns most walkers shut C R (cell ns 3) (.lst .f (ah .f (aP (cell ns 2) shut C (R+1)))) (.lst .f (ah .f (aW (cell ns 3) shut (C+1) R))) M (some (.lst .f ((L1).map D.int))) (some (.lst .f ((L2).map D.int))))=.ok (.bl (decide (0<cell ns 7 % 3))):=
   (eM (g:=dGt) (y:=.int 0) ((eM (g:=bP) (y:=.int 3) hc7 rfl).trans (dQ _ _ (by decide))) rfl).trans (qe _ _)
  unfold ft2;rw[hx,bok,gd]
 have hgood:∀ S T:List Int,Rising ((R+1:Nat):Int) M S->Rising ((R+1:Nat):Int) M T->Good most walkers ⟨C+1,R+1,aP (cell ns 2) shut C (R+1),aW (cell ns 3) shut (C+1) R,S,T⟩:=fun S T q1 q2=>by
  have g1:=qh (cell ns 2) shut C (R+1) hs;have g2:=qi (cell ns 3) shut (C+1) R hs;exact ⟨⟨by show 1<=C+1;lia,by show C+1<=most;lia⟩,⟨by show 1<=R+1;lia,by show R+1<=most;lia⟩,g1.1,fun r hr=>⟨by rw[(g1.2 r hr).1],(g1.2 r hr).2⟩,by rw[g2.1],fun r hr=>g2.2 r hr,M,hM2,hM3.2,q1,q2⟩
 have go:∀ S T:List Int,gIf (ft2 dGt (f2 bP (ao 2 (aq a) (aa (ac 0) (aa (fC (.int 7)) ag))) (fC (.int 3))) (fC (.int 0))) (av (ay 10 (fFz (cx (aa (ac 9) ag)))) (ay 11 (fFz (aF 1 [5,9] (bz (aa (ac 9) ag)) (au 0) aL (f2 aJ (f2 b4 (ac 1) (ac 2)) (ac 0)))))) aR (E1 ns most walkers shut C R (cell ns 3) (.lst .f (ah .f (aP (cell ns 2) shut C (R+1)))) (.lst .f (ah .f (aW (cell ns 3) shut (C+1) R))) M (some (.lst .f ((L1).map D.int))) (some (.lst .f ((L2).map D.int))))=.nx (E1 ns most walkers shut C R (cell ns 3) (.lst .f (ah .f (aP (cell ns 2) shut C (R+1)))) (.lst .f (ah .f (aW (cell ns 3) shut (C+1) R))) M (some (.lst .f ((S).map D.int))) (some (.lst .f ((T).map D.int)))) →
     bK a [.scr ns,.int most,.int walkers,.int shut]=.ok (Parts.d ⟨C+1,R+1,aP (cell ns 2) shut C (R+1),aW (cell ns 3) shut (C+1) R,S,T⟩):=fun S T hif=>by
  refine jI ?_;show dy a (E0 ns most walkers shut none none none none none none)=_;unfold dy;rw[aM h4,aM h5,aM h6,aM h7,aM h6b,aM h8,aM h9,aM h10,aM h11,aM hif];exact hret S T
 by_cases ht:0<cell ns 7 % 3
 ·have k10:ay 10 (fFz (cx (aa (ac 9) ag))) (E1 ns most walkers shut C R (cell ns 3) (.lst .f (ah .f (aP (cell ns 2) shut C (R+1)))) (.lst .f (ah .f (aW (cell ns 3) shut (C+1) R))) M (some (.lst .f ((L1).map D.int))) (some (.lst .f ((L2).map D.int))))=.nx (E1 ns most walkers shut C R (cell ns 3) (.lst .f (ah .f (aP (cell ns 2) shut C (R+1)))) (.lst .f (ah .f (aW (cell ns 3) shut (C+1) R))) M (some (.lst .f (((List.range M).map fun (i:Nat)=>(0+(i:Int))).map D.int))) (some (.lst .f ((L2).map D.int)))):=by
     have:=cX (i:=10) (ρ:=(E1 ns most walkers shut C R (cell ns 3) (.lst .f (ah .f (aP (cell ns 2) shut C (R+1)))) (.lst .f (ah .f (aW (cell ns 3) shut (C+1) R))) M (some (.lst .f ((L1).map D.int))) (some (.lst .f ((L2).map D.int))))) (kb (n:=M) (fa:=aa (ac 9) ag) rfl (by lia)) (ntb rfl) (by show 10<12;decide);rw[kc,bi,bM] at this;exact this
  have k11:ay 11 (fFz (aF 1 [5,9] (bz (aa (ac 9) ag)) (au 0) aL (f2 aJ (f2 b4 (ac 1) (ac 2)) (ac 0)))) (E1 ns most walkers shut C R (cell ns 3) (.lst .f (ah .f (aP (cell ns 2) shut C (R+1)))) (.lst .f (ah .f (aW (cell ns 3) shut (C+1) R))) M (some (.lst .f (((List.range M).map fun (i:Nat)=>(0+(i:Int))).map D.int))) (some (.lst .f ((L2).map D.int))))=.nx (E1 ns most walkers shut C R (cell ns 3) (.lst .f (ah .f (aP (cell ns 2) shut C (R+1)))) (.lst .f (ah .f (aW (cell ns 3) shut (C+1) R))) M (some (.lst .f (((List.range M).map fun (i:Nat)=>(0+(i:Int))).map D.int))) (some (.lst .f (((List.range M).map fun (i:Nat)=>(((R+1:Nat):Int) - (M:Int)+(i:Int))).map D.int)))):=by
   have e:=eY (cap:=[5,9]) (fi:=bz (aa (ac 9) ag)) (fe:=f2 aJ (f2 b4 (ac 1) (ac 2)) (ac 0)) (ρ:=(E1 ns most walkers shut C R (cell ns 3) (.lst .f (ah .f (aP (cell ns 2) shut C (R+1)))) (.lst .f (ah .f (aW (cell ns 3) shut (C+1) R))) M (some (.lst .f (((List.range M).map fun (i:Nat)=>(0+(i:Int))).map D.int))) (some (.lst .f ((L2).map D.int))))) (items:=aB 0 M) ((onI fun (x:Int)=>D.int (((R+1:Nat):Int) - (M:Int)+x))) (cA rfl (by lia)) (fun d hd=>by
    obtain ⟨x,hx,rfl⟩:=dY hd
    exact ⟨rfl,ntb rfl⟩) (by simp[aB];lia)
   have:=cX (i:=11) e (ntb rfl) (by show 11<12;decide);rw[bi] at this;have hm2:((aB 0 M).map (onI fun (x:Int)=>D.int (((R+1:Nat):Int) - (M:Int)+x)))=((List.range M).map fun (i:Nat)=>(((R+1:Nat):Int) - (M:Int)+(i:Int))).map D.int:=jK M fun x=>((R+1:Nat):Int) - (M:Int)+x;have hm3:=congrArg (fun l=>D.fzs l) hm2;refine this.trans ?_
   refine (congrArg (fun l=>FOut.nx (List.set (E1 ns most walkers shut C R (cell ns 3) (.lst .f (ah .f (aP (cell ns 2) shut C (R+1)))) (.lst .f (ah .f (aW (cell ns 3) shut (C+1) R))) M (some (.lst .f (((List.range M).map fun (i:Nat)=>(0+(i:Int))).map D.int))) (some (.lst .f ((L2).map D.int)))) 11 (some (.lst .f l)))) (hm3.trans (bM _))).trans rfl
  refine ⟨_,hgood _ _ (lC (R+1) M (by lia)) (nA (R+1) M (by lia)),_,go _ _ ?_,rfl⟩;unfold gIf;rw[htest,aok,decide_eq_true ht,if_pos rfl,aM k10];exact k11
 ·refine ⟨_,hgood _ _ r1 r2,_,go _ _ ?_,rfl⟩
  unfold gIf;rw[htest,aok,decide_eq_false ht,if_neg (by decide)];rfl
theorem eN{p p':Int->Int->Bool}{fa fb fc:ad->Res D}{ρ:ad}{i j k:Int}(h1:fa ρ=.ok (.int i))(h2:fb ρ=.ok (.int j))(h3:fc ρ=.ok (.int k)):bD p p' fa fb fc ρ=.ok (.bl (p i j&&p' j k)):=by
 unfold bD;rw[h1,bok,h2,bok];show (if p i j=true then fc ρ >>= _ else _)=_;by_cases h:p i j=true
 ·rw[if_pos h,h3,bok,h,Bool.true_and]
 ·rw[if_neg h]
  have:p i j=false:=by simpa using h
  rw[this,Bool.false_and]
theorem hW{f:ad->Res D}{g:ad->FOut}{ρ:ad}(h:f ρ=.ok (.bl true)):gIf (b7 (ftB f)) g aR ρ=.nx ρ:=by
 unfold gIf b7 ftB;rw[h,bok,gd,bok,aok];rfl
theorem jL{fa fb:ad->Res D}{g:ad->FOut}{ρ:ad}{i:Int}(h1:fa ρ=.ok (.int i))(h2:fb ρ=.ok (.int i)):gIf (ft2 (de true) fa fb) g aR ρ=.nx ρ:=by
 unfold gIf ft2;rw[eM h1 h2,nw,bok,gd,aok];simp[aR]
theorem jM{N:Nat}{g:ad->FOut}{ds:List D}{r:ad}(h:g (ds.map some++List.replicate (N - ds.length) none)=.nx r):a8 N g ds=.ok .non:=by unfold a8;rw[h]
theorem jm(a:Ads)(n:Int)(h1:1<=n)(h2:n<=8):bQ a [.int n]=.ok .non:=by
 refine jM (r:=[some (.int n)]) ?_;show eJ a [some (.int n)]=_;unfold eJ;refine hW ?_;rw[eN (i:=1) (j:=n) (k:=8) rfl rfl rfl,decide_eq_true h1,decide_eq_true h2];rfl
theorem dL{j:Nat}{ρ:ad}{t:Tg}{xs:List D}(h:ρ[j]?=some (some (.lst t xs)))(ht:t=.f):fCB a7 (aa (ac j) ag) ρ=.ok (.int xs.length):=by
 subst ht;unfold fCB;rw[cg (bO j ρ _ h) rfl,bok];rfl
theorem gF(g:List (List Int)):(ah .f g).map D.asF=ah .f g:=by
 unfold ah;rw[List.map_map];exact List.map_congr_left fun r _=>rfl
theorem cN(L:List Int):(L.map D.int).map D.asF=L.map D.int:=by
 rw[List.map_map];exact List.map_congr_left fun r _=>rfl
theorem lD{j:Nat}{ρ:ad}{g:List (List Int)}(h:ρ[j]?=some (some (.lst .f (ah .f g)))):aG (ac j) ρ=.ok (ah .f g):=by
 unfold aG;rw[bO j ρ _ h,bok];show (if (Tg.f=Tg.b) then Res.bad else bq (some ((ah .f g).map D.asF)))=_;rw[if_neg (by decide),gF];rfl
theorem lE{j:Nat}{ρ:ad}{L:List Int}(h:ρ[j]?=some (some (.lst .f (L.map D.int)))):aG (ac j) ρ=.ok (L.map D.int):=by
 unfold aG;rw[bO j ρ _ h,bok];show (if (Tg.f=Tg.b) then Res.bad else bq (some ((L.map D.int).map D.asF)))=_;rw[if_neg (by decide),cN];rfl
def inW:D->D
 | .int v=>.bl (decide (0<=v)&&decide (v<=1000))
 |d=>d
theorem mn(f:Int->Bool):∀ r:List Int,du (r.map fun v=>D.bl (f v))=some (r.map f)
 | []=>rfl
 |v::r=>by
  show (du (r.map fun v=>D.bl (f v))).map (f v::·)=_;rw[mn f r];rfl
theorem uz(r:List Int)(h:∀ v∈r,0<=v/\v<=1000):fj [.lst .o ((r.map D.int).map inW)]=.ok (.bl true):=by
 have e:(r.map D.int).map inW=r.map fun v=>D.bl (decide (0<=v)&&decide (v<=1000)):=by
  rw[List.map_map];exact List.map_congr_left fun v _=>rfl
 rw[e];unfold fj;simp only[mn];congr 2;rw[List.all_eq_true];intro b hb;obtain ⟨v,hv,rfl⟩:=List.mem_map.mp hb;have:=h v hv;simp[this.1,this.2]
abbrev gbS(a:Ads):ad->FOut:=(av (gIf (ft2 (de true) (fCB a7 (aa (ac 3) ag)) (ac 2)) (fun _=>.exc (.ref a.BadNet)) aR)
 (gIf (b7 (ftB (fCB fj (aa (aF 1 [] (aG (ac 3)) (au 0) aL (bD (fun i j=>decide (i<=j)) (fun i j=>decide (i<=j)) (fC (.int 0)) (ac 0) (fC (.int 1000)))) ag)))) (fun _=>.exc (.ref a.BadNet)) aR))
theorem nC(a:Ads)(v0 v1:Option D)(r:List Int)(hr:∀ v∈r,0<=v/\v<=1000)(hl:r.length<=1000):gbS a [v0,v1,some (.int r.length),some (.lst .f (r.map D.int))]=.nx [v0,v1,some (.int r.length),some (.lst .f (r.map D.int))]:=by
 have hlen:=dL (j:=3) (ρ:=[v0,v1,some (.int r.length),some (.lst .f (r.map D.int))]) rfl rfl;rw[List.length_map] at hlen;refine (aM (jL hlen rfl)).trans (hW ?_)
 have hc:=eY (cap:=[]) (fi:=aG (ac 3)) (fe:=bD (fun i j=>decide (i<=j)) (fun i j=>decide (i<=j)) (fC (.int 0)) (ac 0) (fC (.int 1000))) (ρ:=[v0,v1,some (.int r.length),some (.lst .f (r.map D.int))]) (items:=r.map D.int) inW (lE rfl) (fun x hx=>by
  obtain ⟨v,_,rfl⟩:=List.mem_map.mp hx
  exact ⟨eN (i:=0) (j:=v) (k:=1000) rfl rfl rfl,ntb rfl⟩) (by rw[List.length_map];exact hl)
 unfold fCB;rw[cg hc rfl,bok];exact uz r hr
theorem jn(a:Ads)(v0 v1:Option D)(len:Nat)(hl:len<=1000):∀ (g:List (List Int)) (e:Option D),(∀ r∈g,r.length=len/\∀ v∈r,0<=v/\v<=1000)->∃ e',bN (au 3) (gbS a) (ah .f g) [v0,v1,some (.int len),e]=.nx [v0,v1,some (.int len),e']
 | [],e,_=>⟨e,rfl⟩
 |r::g,e,h=>by
  obtain ⟨h1,h2⟩:=h r List.mem_cons_self;obtain ⟨e',k⟩:=jn a v0 v1 len hl g (some (.lst .f (r.map D.int))) fun q hq=>h q (List.mem_cons_of_mem _ hq);refine ⟨e',?_⟩;have st:=nC a v0 v1 r h2 (by lia);rw[h1] at st;exact bG (xs:=ah .f g) rfl st k
theorem cZ{fi:ad->Res (List D)}{gt:D->ad->Res ad}{gb:ad->FOut}{ρ:ad}{items:List D}{o:FOut}(h1:fi ρ=.ok items)(h2:bN gt gb items ρ=o):b9 fi gt gb ρ=o:=by unfold b9;rw[h1,aok,h2]
theorem iw(a:Ads)(g:List (List Int))(len:Nat)(hl:len<=1000)(h:∀ r∈g,r.length=len/\∀ v∈r,0<=v/\v<=1000):bL a [.lst .f (ah .f g),.int g.length,.int len]=.ok .non:=by
 obtain ⟨e',k⟩:=jn a (some (.lst .f (ah .f g))) (some (.int g.length)) len hl g none h;refine jM (r:=[some (.lst .f (ah .f g)),some (.int g.length),some (.int len),e']) ?_;show d4 a [some (.lst .f (ah .f g)),some (.int g.length),some (.int len),none]=_;unfold d4;have hlen:=dL (j:=0) (ρ:=[some (.lst .f (ah .f g)),some (.int g.length),some (.int len),none]) rfl rfl
 have:(ah .f g).length=g.length:=by simp[ah]
 rw[this] at hlen;exact (aM (jL hlen rfl)).trans (cZ (lD rfl) k)
abbrev gbB(a:Ads):ad->FOut:=(av (gIf (b7 (ftB (bD (fun i j=>decide (i<j)) (fun i j=>decide (i<j)) (ac 2) (ac 3) (ac 1)))) (fun _=>.exc (.ref a.BadNet)) aR)
 (ay 2 (fFz (ac 3))))
theorem iy(a:Ads)(v0:Option D)(rows:Int):∀ (L:List Int) (last:Int) (e:Option D),L.Pairwise (· < ·)->(∀ x∈L,last<x/\x<rows)->∃ l' e',bN (au 3) (gbB a) (L.map D.int) [v0,some (.int rows),some (.int last),e]=.nx [v0,some (.int rows),some (.int l'),e']
 | [],last,e,_,_=>⟨last,e,rfl⟩
 |x::L,last,e,hp,h=>by
  obtain ⟨h1,h2⟩:=h x List.mem_cons_self;obtain ⟨q1,q2⟩:=List.pairwise_cons.mp hp;obtain ⟨l',e',k⟩:=iy a v0 rows L x (some (.int x)) q2 fun y hy=>⟨q1 y hy,(h y (List.mem_cons_of_mem _ hy)).2⟩
  refine ⟨l',e',?_⟩;have st:gbB a [v0,some (.int rows),some (.int last),some (.int x)]=.nx [v0,some (.int rows),some (.int x),some (.int x)]:=by
   refine (aM (hW ?_)).trans ?_
   ·rw[eN (i:=last) (j:=x) (k:=rows) rfl rfl rfl,decide_eq_true h1,decide_eq_true h2]
    rfl
   ·have:=cX (i:=2) (f:=ac 3) (ρ:=[v0,some (.int rows),some (.int last),some (.int x)]) (d:=.int x) rfl (ntb rfl) (by show 2<4;decide)
    rw[aw] at this;exact this
  exact bG (xs:=L.map D.int) rfl st k
theorem gG(a:Ads)(L:List Int)(rows:Int)(m:Nat)(h1:1<=m)(h2:m<=4)(r:Rising rows m L):bE a [.lst .f (L.map D.int),.int rows]=.ok .non:=by
 obtain ⟨l',e',k⟩:=iy a (some (.lst .f (L.map D.int))) rows L (-1) none r.asc fun x hx=>by have:=r.inn x hx;lia
 refine jM (r:=[some (.lst .f (L.map D.int)),some (.int rows),some (.int l'),e']) ?_;show dG a [some (.lst .f (L.map D.int)),some (.int rows),none,none]=_;unfold dG;have hlen:=dL (j:=0) (ρ:=[some (.lst .f (L.map D.int)),some (.int rows),none,none]) rfl rfl;rw[List.length_map,r.len] at hlen
 refine (aM (hW ?_)).trans ((aM (r':=[some (.lst .f (L.map D.int)),some (.int rows),some (.int (-1)),none]) ?_).trans (cZ (lE rfl) k))
 ·rw[eN (i:=1) (j:=m) (k:=4) rfl hlen rfl,decide_eq_true (show (1:Int)<=m by lia),decide_eq_true (show (m:Int)<=4 by lia)]
  rfl
 ·have:=cX (i:=2) (f:=f1 fU (fC (.int 1))) (ρ:=[some (.lst .f (L.map D.int)),some (.int rows),none,none]) (d:=.int (-1)) rfl (ntb rfl) (by show 2<4;decide)
  rw[aw] at this;exact this
theorem ek{f:ad->Res D}{ρ:ad}{d:D}(h:f ρ=.ok d):bW f ρ=.nx ρ:=by unfold bW;rw[h,aok]
theorem fJ{C p:Addr}{fld:Str}{fv:ad->Res D}{ρ:ad}{fs:List (Str × D)}{d:D}(h:ρ[0]?=some (some (.slf p C fs)))(hv:fv ρ=.ok d)(hb:d.tag≠.b)(hl:fs.length<1000):cW 0 C fld fv ρ=.nx (ρ.set 0 (some (.slf p C (fW fld d.fz fs)))):=by
 unfold cW;rw[h];simp only[hv,aok];rw[if_neg (fun z=>z.elim (fun z=>z rfl) fun z=>z.elim hb fun z=>absurd z (by lia))]
def cpL:D->D
 | .lst _ xs=>.lst .o (xs.map D.asF)
 |d=>d
theorem kh{j:Nat}{ρ:ad}{g:List (List Int)}(h:ρ[j]?=some (some (.lst .f (ah .f g))))(hl:g.length<=1000):aF 1 [] (aG (ac j)) (au 0) aL (fCB bt (aa (ac 0) ag)) ρ=.ok (.lst .o (ah .o g)):=by
 have e:=eY (cap:=[]) (fi:=aG (ac j)) (fe:=fCB bt (aa (ac 0) ag)) (ρ:=ρ) (items:=ah .f g) cpL (lD h) (fun x hx=>by
  obtain ⟨r,_,rfl⟩:=List.mem_map.mp hx
  exact ⟨rfl,ntb rfl⟩) (by simp[ah];exact hl)
 rw[e];congr 2;unfold ah;rw[List.map_map];refine List.map_congr_left fun r _=>?_;show D.lst .o ((r.map D.int).map D.asF)=_;rw[cN]
theorem ki{j:Nat}{ρ:ad}{L:List Int}(h:ρ[j]?=some (some (.lst .f (L.map D.int)))):fCB bt (aa (ac j) ag) ρ=.ok (.lst .o (L.map D.int)):=by
 unfold fCB;rw[cg (bO j ρ _ h) rfl,bok];show Res.ok (D.lst .o ((L.map D.int).map D.asF))=_;rw[cN]
def lF(p:Parts):List (Str × D):=[("right", .lst .f (ah .f p.right)),("up", .lst .f (ah .f p.up)),("starts", .lst .f (p.starts.map D.int)),("ends", .lst .f (p.ends.map D.int)),("columns", .int p.cols),("rows", .int p.rows)]
def EN(x C:Addr)(p:Parts)(fs:List (Str × D))(r c:Option D):ad:=[some (.slf x C fs),some (.lst .f (ah .f p.right)),some (.lst .f (ah .f p.up)),some (.lst .f (p.starts.map D.int)),some (.lst .f (p.ends.map D.int)),r,c]
theorem uA(a:Ads)(x:Addr)(p:Parts)(most walkers:Nat)(h8:most<=8)(h4:walkers<=4)(G:Good most walkers p):i6 a x [.lst .f (ah .f p.right),.lst .f (ah .f p.up),.lst .f (p.starts.map D.int),.lst .f (p.ends.map D.int)]=.ok (lF p):=by
 obtain ⟨m,m1,m2,rs,re⟩:=G.many;have hrl:(ah .f p.right).length=p.rows:=by simp[ah,G.rl]
 obtain ⟨r0,rest,hr0⟩:∃ r0 rest,p.right=r0::rest:=by
  cases e:p.right with
  |nil=>have:=G.rl;have:=G.r1;rw[e] at *;simp at *;lia
  |cons r0 rest=>exact ⟨r0,rest,rfl⟩
 have hc0:r0.length+1=p.cols:=(G.rr r0 (by rw[hr0];exact List.mem_cons_self)).1;have l1:∀ fs r c,fCB a7 (aa (ac 1) ag) (EN x a.Net p fs r c)=.ok (.int p.rows):=fun fs r c=>by
  have:=dL (j:=1) (ρ:=EN x a.Net p fs r c) rfl rfl;rw[hrl] at this;exact this
 have s1:∀ fs r c,bW (ao 1 (bQ a) (aa (fCB a7 (aa (ac 1) ag)) ag)) (EN x a.Net p fs r c)=.nx (EN x a.Net p fs r c):=fun fs r c=>
  ek (bu (d:=.non) (ds:=[.int p.rows]) (cg (l1 fs r c) rfl) rfl (by rw[ak,aC,aw];exact jm a _ (by have:=G.r1;lia) (by have:=G.r1;lia)) rfl)
 have s2:ay 5 (fFz (fCB a7 (aa (ac 1) ag))) (EN x a.Net p [] none none)=.nx (EN x a.Net p [] (some (.int p.rows)) none):=by
  have:=cX (i:=5) (l1 [] none none) (ntb rfl) (by show 5<7;decide);rw[aw] at this;exact this
 have s3:ay 6 (fFz (f2 aJ (fCB a7 (aa (f2 dIx (ac 1) (fC (.int 0))) ag)) (fC (.int 1)))) (EN x a.Net p [] (some (.int p.rows)) none)=.nx (EN x a.Net p [] (some (.int p.rows)) (some (.int p.cols))):=by
  have ix:f2 dIx (ac 1) (fC (.int 0)) (EN x a.Net p [] (some (.int p.rows)) none)=.ok (.lst .f (r0.map D.int)):=by
   refine (eM (g:=dIx) (x:=.lst .f (ah .f p.right)) (y:=.int 0) rfl rfl).trans ?_;rw[hr0];show (match L2.ixN ((ah .f (r0::rest)).length) 0 with
    |some j=>bq (D.el (.lst .f (ah .f (r0::rest))) j)
    |none=>Res.bad)=_
   have:L2.ixN ((ah .f (r0::rest)).length) 0=some 0:=by unfold L2.ixN;rw[if_pos (by lia),if_pos (by show (0:Int)<((ah .f (r0::rest)).length:Int);rw[show (ah .f (r0::rest)).length=rest.length+1 by simp[ah]];lia)];try rfl
   rw[this];rfl
  have ln:fCB a7 (aa (f2 dIx (ac 1) (fC (.int 0))) ag) (EN x a.Net p [] (some (.int p.rows)) none)=.ok (.int r0.length):=by
   unfold fCB;rw[cg ix rfl,bok];show Res.ok (D.int ((r0.map D.int).length:Nat))=_;rw[List.length_map]
  have:=cX (i:=6) ((eM (g:=aJ) (f2':=fC (.int 1)) (y:=.int 1) ln rfl).trans (jh _ _)) (ntb rfl) (by show 6<7;decide);rw[aw,show ((r0.length:Int)+1)=(p.cols:Int) by lia] at this;exact this
 have s4:bW (ao 1 (bQ a) (aa (ac 6) ag)) (EN x a.Net p [] (some (.int p.rows)) (some (.int p.cols)))=.nx (EN x a.Net p [] (some (.int p.rows)) (some (.int p.cols))):=
  ek (bu (d:=.non) (ds:=[.int p.cols]) rfl rfl (by rw[ak,aC,aw];exact jm a _ (by have:=G.c1;lia) (by have:=G.c1;lia)) rfl)
 have s5:bW (ao 3 (bL a) (aa (ac 1) (aa (ac 5) (aa (f2 b4 (ac 6) (fC (.int 1))) ag)))) (EN x a.Net p [] (some (.int p.rows)) (some (.int p.cols)))=.nx (EN x a.Net p [] (some (.int p.rows)) (some (.int p.cols))):=by
  refine ek (bu (d:=.non) (ds:=[.lst .f (ah .f p.right),.int p.rows,.int ((p.cols:Int) - 1)]) rfl rfl ?_ rfl);rw[ak,ak,ak,aC,bi,cq,aw,aw,<- G.rl,show (p.cols:Int) - 1=((p.cols - 1:Nat):Int) by have:=G.c1;lia];exact iw a p.right _ (by have:=G.c1;lia) fun r hr=>⟨by have:=(G.rr r hr).1;lia,(G.rr r hr).2⟩
 have s6:bW (ao 3 (bL a) (aa (ac 2) (aa (f2 b4 (ac 5) (fC (.int 1))) (aa (ac 6) ag)))) (EN x a.Net p [] (some (.int p.rows)) (some (.int p.cols)))=.nx (EN x a.Net p [] (some (.int p.rows)) (some (.int p.cols))):=by
  refine ek (bu (d:=.non) (ds:=[.lst .f (ah .f p.up),.int ((p.rows:Int) - 1),.int p.cols]) rfl rfl ?_ rfl);rw[ak,ak,ak,aC,bi,cq,aw,aw,show (p.rows:Int) - 1=((p.up.length:Nat):Int) by have:=G.ul;lia];exact iw a p.up _ (by have:=G.c1;lia) fun r hr=>G.ur r hr
 have s7:bW (ao 2 (bE a) (aa (ac 3) (aa (ac 5) ag))) (EN x a.Net p [] (some (.int p.rows)) (some (.int p.cols)))=.nx (EN x a.Net p [] (some (.int p.rows)) (some (.int p.cols))):=by
  refine ek (bu (d:=.non) (ds:=[.lst .f (p.starts.map D.int),.int p.rows]) rfl rfl ?_ rfl);rw[ak,ak,aC,bi,bM,aw];exact gG a p.starts _ m m1 (by lia) rs
 have s8:bW (ao 2 (bE a) (aa (ac 4) (aa (ac 5) ag))) (EN x a.Net p [] (some (.int p.rows)) (some (.int p.cols)))=.nx (EN x a.Net p [] (some (.int p.rows)) (some (.int p.cols))):=by
  refine ek (bu (d:=.non) (ds:=[.lst .f (p.ends.map D.int),.int p.rows]) rfl rfl ?_ rfl);rw[ak,ak,aC,bi,bM,aw];exact gG a p.ends _ m m1 (by lia) re
 have s9:gIf (ft2 (de true) (fCB a7 (aa (ac 3) ag)) (fCB a7 (aa (ac 4) ag))) (fun _=>.exc (.ref a.BadNet)) aR (EN x a.Net p [] (some (.int p.rows)) (some (.int p.cols)))=.nx (EN x a.Net p [] (some (.int p.rows)) (some (.int p.cols))):=by
  have e3:=dL (j:=3) (ρ:=(EN x a.Net p [] (some (.int p.rows)) (some (.int p.cols)))) rfl rfl;have e4:=dL (j:=4) (ρ:=(EN x a.Net p [] (some (.int p.rows)) (some (.int p.cols)))) rfl rfl;rw[List.length_map,rs.len] at e3;rw[List.length_map,re.len] at e4;exact jL e3 e4
 have t1:cW 0 a.Net "right" (aF 1 [] (aG (ac 1)) (au 0) aL (fCB bt (aa (ac 0) ag))) (EN x a.Net p [] (some (.int p.rows)) (some (.int p.cols)))=.nx (EN x a.Net p [("right", .lst .f (ah .f p.right))] (some (.int p.rows)) (some (.int p.cols))):=by
  have:=fJ (C:=a.Net) (p:=x) (fld := "right") (fs:=[]) (ρ:=(EN x a.Net p [] (some (.int p.rows)) (some (.int p.cols)))) rfl (kh (j:=1) (g:=p.right) rfl (by have:=G.rl;have:=G.r1;lia)) (ntb rfl) (by decide);rw[bi,cq] at this;exact this
 have t2:cW 0 a.Net "up" (aF 1 [] (aG (ac 2)) (au 0) aL (fCB bt (aa (ac 0) ag))) (EN x a.Net p [("right", .lst .f (ah .f p.right))] (some (.int p.rows)) (some (.int p.cols)))=.nx (EN x a.Net p [("right", .lst .f (ah .f p.right)),("up", .lst .f (ah .f p.up))] (some (.int p.rows)) (some (.int p.cols))):=by
  have:=fJ (C:=a.Net) (p:=x) (fld := "up") (fs:=[("right", .lst .f (ah .f p.right))]) (ρ:=(EN x a.Net p [("right", .lst .f (ah .f p.right))] (some (.int p.rows)) (some (.int p.cols)))) rfl (kh (j:=2) (g:=p.up) rfl (by have:=G.ul;have:=G.r1;lia)) (ntb rfl) (by show 1<1000;decide);rw[bi,cq] at this;exact this
 have t3:cW 0 a.Net "starts" (fCB bt (aa (ac 3) ag)) (EN x a.Net p [("right", .lst .f (ah .f p.right)),("up", .lst .f (ah .f p.up))] (some (.int p.rows)) (some (.int p.cols)))=.nx (EN x a.Net p [("right", .lst .f (ah .f p.right)),("up", .lst .f (ah .f p.up)),("starts", .lst .f (p.starts.map D.int))] (some (.int p.rows)) (some (.int p.cols))):=by
  have:=fJ (C:=a.Net) (p:=x) (fld := "starts") (fs:=[("right", .lst .f (ah .f p.right)),("up", .lst .f (ah .f p.up))]) (ρ:=(EN x a.Net p [("right", .lst .f (ah .f p.right)),("up", .lst .f (ah .f p.up))] (some (.int p.rows)) (some (.int p.cols)))) rfl (ki (j:=3) (L:=p.starts) rfl) (ntb rfl) (by show 2<1000;decide);rw[bi,bM] at this;exact this
 have t4:cW 0 a.Net "ends" (fCB bt (aa (ac 4) ag)) (EN x a.Net p [("right", .lst .f (ah .f p.right)),("up", .lst .f (ah .f p.up)),("starts", .lst .f (p.starts.map D.int))] (some (.int p.rows)) (some (.int p.cols)))=.nx (EN x a.Net p [("right", .lst .f (ah .f p.right)),("up", .lst .f (ah .f p.up)),("starts", .lst .f (p.starts.map D.int)),("ends", .lst .f (p.ends.map D.int))] (some (.int p.rows)) (some (.int p.cols))):=by
  have:=fJ (C:=a.Net) (p:=x) (fld := "ends") (fs:=[("right", .lst .f (ah .f p.right)),("up", .lst .f (ah .f p.up)),("starts", .lst .f (p.starts.map D.int))]) (ρ:=(EN x a.Net p [("right", .lst .f (ah .f p.right)),("up", .lst .f (ah .f p.up)),("starts", .lst .f (p.starts.map D.int))] (some (.int p.rows)) (some (.int p.cols)))) rfl (ki (j:=4) (L:=p.ends) rfl) (ntb rfl) (by show 3<1000;decide)
  rw[bi,bM] at this;exact this
 have t5:cW 0 a.Net "columns" (ac 6) (EN x a.Net p [("right", .lst .f (ah .f p.right)),("up", .lst .f (ah .f p.up)),("starts", .lst .f (p.starts.map D.int)),("ends", .lst .f (p.ends.map D.int))] (some (.int p.rows)) (some (.int p.cols)))=.nx (EN x a.Net p [("right", .lst .f (ah .f p.right)),("up", .lst .f (ah .f p.up)),("starts", .lst .f (p.starts.map D.int)),("ends", .lst .f (p.ends.map D.int)),("columns", .int p.cols)] (some (.int p.rows)) (some (.int p.cols))):=by
  have:=fJ (C:=a.Net) (p:=x) (fld := "columns") (fs:=[("right", .lst .f (ah .f p.right)),("up", .lst .f (ah .f p.up)),("starts", .lst .f (p.starts.map D.int)),("ends", .lst .f (p.ends.map D.int))]) (ρ:=(EN x a.Net p [("right", .lst .f (ah .f p.right)),("up", .lst .f (ah .f p.up)),("starts", .lst .f (p.starts.map D.int)),("ends", .lst .f (p.ends.map D.int))] (some (.int p.rows)) (some (.int p.cols)))) (fv:=ac 6) (d:=.int p.cols) rfl rfl (ntb rfl) (by show 4<1000;decide)
  rw[aw] at this;exact this
 have t6:cW 0 a.Net "rows" (ac 5) (EN x a.Net p [("right", .lst .f (ah .f p.right)),("up", .lst .f (ah .f p.up)),("starts", .lst .f (p.starts.map D.int)),("ends", .lst .f (p.ends.map D.int)),("columns", .int p.cols)] (some (.int p.rows)) (some (.int p.cols)))=.nx (EN x a.Net p (lF p) (some (.int p.rows)) (some (.int p.cols))):=by
  have:=fJ (C:=a.Net) (p:=x) (fld := "rows") (fs:=[("right", .lst .f (ah .f p.right)),("up", .lst .f (ah .f p.up)),("starts", .lst .f (p.starts.map D.int)),("ends", .lst .f (p.ends.map D.int)),("columns", .int p.cols)]) (ρ:=(EN x a.Net p [("right", .lst .f (ah .f p.right)),("up", .lst .f (ah .f p.up)),("starts", .lst .f (p.starts.map D.int)),("ends", .lst .f (p.ends.map D.int)),("columns", .int p.cols)] (some (.int p.rows)) (some (.int p.cols)))) (fv:=ac 5) (d:=.int p.rows) rfl rfl (ntb rfl) (by show 5<1000;decide)
  rw[aw] at this;exact this
 have all:nq a (EN x a.Net p [] none none)=.nx (EN x a.Net p (lF p) (some (.int p.rows)) (some (.int p.cols))):=by
  unfold nq;rw[aM (s1 [] none none),aM s2,aM s3,aM s4,aM s5,aM s6,aM s7,aM s8,aM s9,aM t1,aM t2,aM t3,aM t4,aM t5];exact t6
 unfold i6 bY;rw[show (some (D.slf x a.Net [])::(List.map some [D.lst .f (ah .f p.right),D.lst .f (ah .f p.up),D.lst .f (p.starts.map D.int),D.lst .f (p.ends.map D.int)]++List.replicate (7 - ([D.lst .f (ah .f p.right),D.lst .f (ah .f p.up),D.lst .f (p.starts.map D.int),D.lst .f (p.ends.map D.int)].length+1)) none))=(EN x a.Net p [] none none) from rfl,all]
 show (if x=x/\a.Net=a.Net then Res.ok (lF p) else .bad)=_;rw[if_pos ⟨rfl,rfl⟩]
theorem vo{i:Nat}{ρ:ad}{d d':D}(h:ρ[i]?=some (some d))(hd:d.rd=d'):ac i ρ=.ok d':=by rw[bO i ρ d h,hd]
theorem v_C{d:D}{ρ:ad}:fC d ρ=.ok d:=rfl
theorem wj{g:D->D->Res D}{fa fb:ad->Res D}{ρ:ad}{x y z:D}(h1:fa ρ=.ok x)(h2:fb ρ=.ok y)(h3:g x y=.ok z):f2 g fa fb ρ=.ok z:=by rw[eM h1 h2,h3]
theorem wl{g:D->Res D}{fa:ad->Res D}{ρ:ad}{x z:D}(h1:fa ρ=.ok x)(h3:g x=.ok z):f1 g fa ρ=.ok z:=by unfold f1;rw[h1,bok,h3]
theorem ql{g:List D->Res D}{fa:ad->Res (List D)}{ρ:ad}{x:List D}{z:D}(h1:fa ρ=.ok x)(h3:g x=.ok z):fCB g fa ρ=.ok z:=by unfold fCB;rw[h1,bok,h3]
theorem kH{ρ:ad}:ag ρ=.ok []:=rfl
theorem ge{n:Nat}(h:n<=1000):n<=sizeLine:=Nat.le_trans h (by decide)
theorem vp{fa:ad->Res (List D)}{ρ:ad}{es es':List D}(h1:fa ρ=.ok es)(h2:nb es=true)(h3:es.length<=1000)(h4:D.fzs es=es'):bC fa ρ=.ok (.tup es'):=by
 unfold bC;rw[h1,bok,if_pos (by rw[h2,decide_eq_true (ge h3)];rfl),h4]
theorem vq{fa:ad->Res (List D)}{ρ:ad}{es:List D}(h1:fa ρ=.ok es)(h2:nb es=true)(h3:es.length<=1000):b5 fa ρ=.ok (.lst .o es):=by
 unfold b5;rw[h1,bok,if_pos (by rw[h2,decide_eq_true (ge h3)];rfl)]
theorem o4{n:Nat}{F:List D->Res D}{fa:ad->Res (List D)}{ρ:ad}{ds ds':List D}{d:D}(h:fa ρ=.ok ds)(hn:ds.length=n)(hz:D.fzs ds=ds')(hF:F ds'=.ok d)(ha:(nb ds=true/\d.tag≠.b)\/d.atom=true):ao n F fa ρ=.ok d:=by
 unfold ao;rw[h,bok,if_pos hn];unfold c0;rw[hz,hF];show (if _ then _ else _)=_;rw[if_pos ha]
theorem rW{n:Nat}{F:List D->Res D}{fa:ad->Res (List D)}{ρ:ad}{ds ds':List D}{C:Value}(h:fa ρ=.ok ds)(hn:ds.length=n)(hz:D.fzs ds=ds')(hF:F ds'=.exc C):ao n F fa ρ=.exc C:=by
 unfold ao;rw[h,bok,if_pos hn];unfold c0;rw[hz,hF]
theorem wm{f:ad->Res D}{ρ:ad}{d d':D}(h:f ρ=.ok d)(hb:d.tag≠.b)(hz:d.fz=d'):fFz f ρ=.ok d':=by rw[qJ h hb,hz]
theorem fK{p p':Int->Int->Bool}{fa fb fc:ad->Res D}{ρ:ad}{i j k:Int}(h1:fa ρ=.ok (.int i))(h2:fb ρ=.ok (.int j))(h3:fc ρ=.ok (.int k)):bD p p' fa fb fc ρ=.ok (.bl (p i j&&p' j k)):=eN h1 h2 h3
theorem kI{s t:ad->Res D}{ρ:ad}{b c:Bool}(h1:s ρ=.ok (.bl b))(h2:t ρ=.ok (.bl c)):fT s t ρ=.ok (.bl (b&&c)):=by
 unfold fT;rw[h1,bok,gd,bok];cases b<;>simp[h2]
theorem t_2{g:D->D->Res D}{fa fb:ad->Res D}{ρ:ad}{x y:D}{b:Bool}(h1:fa ρ=.ok x)(h2:fb ρ=.ok y)(h3:g x y=.ok (.bl b)):ft2 g fa fb ρ=.ok b:=by
 unfold ft2;rw[eM h1 h2,h3,bok,gd]
theorem t_B{f:ad->Res D}{ρ:ad}{b:Bool}(h1:f ρ=.ok (.bl b)):ftB f ρ=.ok b:=by unfold ftB;rw[h1,bok,gd]
theorem hX{t:ad->Res Bool}{ρ:ad}{b:Bool}(h1:t ρ=.ok b):b7 t ρ=.ok (!b):=by unfold b7;rw[h1,bok]
theorem vt{s t:ad->Res Bool}{ρ:ad}{b c:Bool}(h1:s ρ=.ok b)(h2:t ρ=.ok c):dO s t ρ=.ok (b&&c):=by unfold dO;rw[h1,bok];cases b<;>simp[h2]
theorem nD{s t:ad->Res Bool}{ρ:ad}{b c:Bool}(h1:s ρ=.ok b)(h2:t ρ=.ok c):jz s t ρ=.ok (b||c):=by unfold jz;rw[h1,bok];cases b<;>simp[h2]
theorem uB{t:ad->Res Bool}{f g:ad->Res D}{ρ:ad}{b:Bool}{d e:D}(h1:t ρ=.ok b)(h2:f ρ=.ok d)(h3:g ρ=.ok e):fIf t f g ρ=.ok (if b=true then d else e):=by
 unfold fIf;rw[h1,bok];cases b<;>simp[h2,h3]
theorem ix_tup{xs:List D}{k:Nat}{x x':D}(h:xs[k]?=some x)(hx:x.asF=x'):dIx (.tup xs) (.int (k:Int))=.ok x':=by
 have hk:k<xs.length:=(List.getElem?_eq_some_iff.mp h).1;have e:L2.ixN xs.length (k:Int)=some k:=by unfold L2.ixN;rw[if_pos (by lia),if_pos (by lia)];simp
 show (match L2.ixN xs.length (k:Int) with
  |some j=>bq (D.el (.tup xs) j)
  |none=>Res.bad)=_
 rw[e];show bq (xs[k]?.map D.asF)=_;rw[h,<- hx];rfl
theorem uC{xs:List D}{k:Nat}{x x':D}(h:xs[k]?=some x)(hx:x.asF=x'):dIx (.lst .f xs) (.int (k:Int))=.ok x':=by
 have hk:k<xs.length:=(List.getElem?_eq_some_iff.mp h).1;have e:L2.ixN xs.length (k:Int)=some k:=by unfold L2.ixN;rw[if_pos (by lia),if_pos (by lia)];simp
 show (match L2.ixN xs.length (k:Int) with
  |some j=>bq (D.el (.lst .f xs) j)
  |none=>Res.bad)=_
 rw[e];show bq (xs[k]?.map D.asF)=_;rw[h,<- hx];rfl
theorem lG{xs:List D}{k:Nat}{x:D}(h:xs[k]?=some x):dIx (.lst .o xs) (.int (k:Int))=.ok x:=by
 have hk:k<xs.length:=(List.getElem?_eq_some_iff.mp h).1;have e:L2.ixN xs.length (k:Int)=some k:=by unfold L2.ixN;rw[if_pos (by lia),if_pos (by lia)];simp
 show (match L2.ixN xs.length (k:Int) with
  |some j=>bq (D.el (.lst .o xs) j)
  |none=>Res.bad)=_
 rw[e];show bq (xs[k]?)=_;rw[h];rfl
theorem ix0{x x':D}{r:List D}(h:x.asF=x'):dIx (.tup (x::r)) (.int 0)=.ok x':=ix_tup (k:=0) rfl h
theorem ix1{x x' y:D}{r:List D}(h:x.asF=x'):dIx (.tup (y::x::r)) (.int 1)=.ok x':=ix_tup (k:=1) rfl h
theorem ix2{x x' y z:D}{r:List D}(h:x.asF=x'):dIx (.tup (y::z::x::r)) (.int 2)=.ok x':=ix_tup (k:=2) rfl h
theorem ix3{x x' y z w:D}{r:List D}(h:x.asF=x'):dIx (.tup (y::z::w::x::r)) (.int 3)=.ok x':=ix_tup (k:=3) rfl h
theorem wn:nb []=true:=rfl
theorem wp{x:D}{xs:List D}(h:x.tag≠.b)(h2:nb xs=true):nb (x::xs)=true:=by
 unfold nb at *;rw[List.all_cons,h2];cases e:x.tag<;>simp_all
theorem jo(i:Int):(D.int i).asF=.int i:=rfl
theorem vu(i:Int):fU (.int i)=.ok (.int (-i)):=rfl
theorem uD(t:Tg)(xs:List D):a7 [.lst t xs]=.ok (.int xs.length):=rfl
theorem vv{i:Nat}{f:ad->Res D}{ρ ρ':ad}{d:D}(h:f ρ=.ok d)(hb:d.tag≠.b)(hi:i<ρ.length)(he:ρ.set i (some d)=ρ'):ay i f ρ=.nx ρ':=by rw[lA h hb hi,he]
theorem hZ{f:ad->Res D}{ρ:ad}{d:D}(h:f ρ=.ok d)(hb:d.tag≠.b):br f ρ=.rt d:=by unfold br;rw[h,aok,if_neg hb]
theorem uE{t:ad->Res Bool}{g1 g2:ad->FOut}{ρ:ad}{b:Bool}(h:t ρ=.ok b):gIf t g1 g2 ρ=if b=true then g1 ρ else g2 ρ:=by unfold gIf;rw[h,aok]
theorem eZ{t:ad->Res Bool}{g1 g2:ad->FOut}{ρ:ad}{b:Bool}{o:FOut}(h:t ρ=.ok b)(hb:b=true)(h1:g1 ρ=o):gIf t g1 g2 ρ=o:=by rw[uE h,hb,if_pos rfl,h1]
theorem dR{t:ad->Res Bool}{g1 g2:ad->FOut}{ρ:ad}{b:Bool}{o:FOut}(h:t ρ=.ok b)(hb:b=false)(h1:g2 ρ=o):gIf t g1 g2 ρ=o:=by rw[uE h,hb,if_neg (by decide),h1]
theorem bf{g1 g2:ad->FOut}{ρ ρ':ad}{o:FOut}(h:g1 ρ=.nx ρ')(h2:g2 ρ'=o):av g1 g2 ρ=o:=by rw[aM h,h2]
theorem gH{g1 g2:ad->FOut}{ρ:ad}{d:D}(h:g1 ρ=.rt d):av g1 g2 ρ=.rt d:=by unfold av;rw[h]
theorem uF{g1 g2:ad->FOut}{ρ:ad}{C:Value}(h:g1 ρ=.exc C):av g1 g2 ρ=.exc C:=by unfold av;rw[h]
theorem fm{N:Nat}{g:ad->FOut}{ds:List D}{d:D}{ρ:ad}(hρ:ds.map some++List.replicate (N - ds.length) none=ρ)(h:g ρ=.rt d):a8 N g ds=.ok d:=by subst hρ;exact jI h
theorem vx{N:Nat}{g:ad->FOut}{ds:List D}{C:Value}{ρ:ad}(hρ:ds.map some++List.replicate (N - ds.length) none=ρ)(h:g ρ=.exc C):a8 N g ds=.exc C:=by subst hρ;unfold a8;rw[h]
theorem qK{i:Nat}{f:ad->Res D}{ρ ρ':ad}{xs:List D}{d:D}(h0:ρ[i]?=some (some (.lst .o xs)))(h:f ρ=.ok d)(hb:d.tag≠.b)(hl:xs.length<1000)(he:ρ.set i (some (.lst .o (xs++[d])))=ρ'):di i f ρ=.nx ρ':=by
 have:¬ sizeLine<=xs.length:=by have:1000<sizeLine:=(by decide);lia
 unfold di;rw[h0];simp only[h,aok];rw[if_neg (fun z=>z.elim hb this),he]
theorem rX{gt:D->ad->Res ad}{gb:ad->FOut}{ρ:ad}:bN gt gb [] ρ=.nx ρ:=rfl
theorem cU{i:Nat}{d:D}{ρ ρ':ad}(hi:i<ρ.length)(he:ρ.set i (some d)=ρ'):au i d ρ=.ok ρ':=by unfold au;rw[if_neg (by lia),he]
theorem fL(t:Tg)(L:List Int):(D.lst t (L.map D.int)).fz=.lst .f (L.map D.int):=by rw[bi,bM]
theorem df(t t':Tg)(g:List (List Int)):(D.lst t (ah t' g)).fz=.lst .f (ah .f g):=by rw[bi,cq]
theorem nE(p:Parts):p.d.fz=p.d:=by
 unfold Parts.d;rw[cM,ak,ak,ak,ak,aC,df,df,fL,fL]
theorem vy(p:Parts):p.d.rd=p.d:=rfl
theorem pd0(p:Parts):dIx p.d (.int 0)=.ok (.lst .f (ah .f p.right)):=ix0 rfl
theorem pd1(p:Parts):dIx p.d (.int 1)=.ok (.lst .f (ah .f p.up)):=ix1 rfl
theorem pd2(p:Parts):dIx p.d (.int 2)=.ok (.lst .f (p.starts.map D.int)):=ix2 rfl
theorem pd3(p:Parts):dIx p.d (.int 3)=.ok (.lst .f (p.ends.map D.int)):=ix3 rfl
theorem nF{x y:D}{xs ys:List D}(h:x.fz=y)(h2:D.fzs xs=ys):D.fzs (x::xs)=y::ys:=by rw[ak,h,h2]
end Lw
local macro_rules | `(tactic| sizeOf_list_dec)=>`(tactic| first
 | (((with_reducible apply Lw.vo);(exact rfl);(with_reducible first | exact Lw.oR _ | exact Lw.oS _ | exact Lw.qE _ | exact Lw.oU _ | exact Lw.oV _ | exact Lw.oW _ | exact Lw.oX _ | exact Lw.ml _ _ | exact Lw.vy _)))
 | (with_reducible exact Lw.v_C)
 | (with_reducible exact Lw.kH)
 | (with_reducible apply Lw.wj)
 | (with_reducible apply Lw.wl)
 | (with_reducible apply Lw.ql)
 | (with_reducible apply Lw.cg)
 | (with_reducible apply Lw.vp)
 | (with_reducible exact Lw.jh _ _)
 | (with_reducible exact Lw.qF _ _)
 | (with_reducible exact Lw.uq _ _)
 | (with_reducible exact Lw.qe _ _)
 | (with_reducible exact Lw.ut _ _)
 | (with_reducible exact Lw.uu _ _)
 | (with_reducible exact Lw.qH _ _)
 | (with_reducible exact Lw.qI _ _)
 | (with_reducible exact Lw.nw _ _)
 | (with_reducible exact Lw.vu _)
 | (with_reducible exact Lw.uD _ _)
 | (with_reducible exact Lw.pd0 _)
 | (with_reducible exact Lw.pd1 _)
 | (with_reducible exact Lw.pd2 _)
 | (with_reducible exact Lw.pd3 _)
 | ((with_reducible apply Lw.ix0;(with_reducible first | exact Lw.jo _)))
 | ((with_reducible apply Lw.ix1;(with_reducible first | exact Lw.jo _)))
 | ((with_reducible apply Lw.ix2;(with_reducible first | exact Lw.jo _)))
 | ((with_reducible apply Lw.ix3;(with_reducible first | exact Lw.jo _)))
 | (with_reducible apply Lw.fK)
 | (with_reducible apply Lw.kI)
 | (with_reducible apply Lw.t_2)
 | (with_reducible apply Lw.t_B)
 | (with_reducible apply Lw.hX)
 | (with_reducible apply Lw.vt)
 | (with_reducible apply Lw.nD)
 | (with_reducible apply Lw.vq)
 | (with_reducible apply Lw.o4)
 | (with_reducible apply Lw.wm)
 | (with_reducible apply Lw.vv)
 | (with_reducible apply Lw.hZ)
 | (with_reducible exact Lw.wn)
 | (with_reducible apply Lw.wp)
 | (with_reducible exact Lw.aC)
 | (with_reducible apply Lw.nF)
 | ((with_reducible first | exact Lw.aw _ | exact Lw.eL _ | exact Lw.kG _ | exact Lw.jl _ | exact Lw.jg _ _ _ | exact Lw.nE _ | exact Lw.fL _ _ | exact Lw.df _ _ _))
 | ((show Mi.D.tag _≠_;exact Lw.ntb rfl))
 | ((show List.length _<=_;exact Nat.le_of_ble_eq_true rfl))
 | ((show _<List.length _;exact Nat.le_of_ble_eq_true rfl))
 | ((show List.length _=_;exact rfl))
 | ((show List.set _ _ _=_;(first | ((simp only[List.set_cons_zero,List.set_cons_succ]);with_reducible rfl) | exact rfl)))
 | ((show (_/\_)\/Mi.D.atom _=true;exact .inr rfl))
 | ((show (_/\_)\/Mi.D.atom _=true;exact .inl ⟨rfl,Lw.ntb rfl⟩))
 | (with_reducible apply Lw.uB))
namespace Lw
open Mi PySem
def a9(p:Parts)(x y:Int)(l:Str):Int:=if l = "r" /\ x+1<p.cols then (p.right.getD y.toNat []).getD x.toNat 0 else if l = "u" /\ y+1<p.rows then (p.up.getD y.toNat []).getD x.toNat 0 else 0
abbrev bp(a:Ads)(p:Parts):D:=.ins .f a.Net (lF p)
theorem qm(a:Ads)(p:Parts):cV a.Net "right" (bp a p)=.ok (.lst .f (ah .f p.right)):=by
 show (if a.Net=a.Net then _ else _)=_;rw[if_pos rfl];rfl
theorem vz(a:Ads)(p:Parts):cV a.Net "up" (bp a p)=.ok (.lst .f (ah .f p.up)):=by
 show (if a.Net=a.Net then _ else _)=_;rw[if_pos rfl];rfl
theorem gf(a:Ads)(p:Parts):cV a.Net "columns" (bp a p)=.ok (.int p.cols):=by
 show (if a.Net=a.Net then _ else _)=_;rw[if_pos rfl];rfl
theorem mo(a:Ads)(p:Parts):cV a.Net "rows" (bp a p)=.ok (.int p.rows):=by
 show (if a.Net=a.Net then _ else _)=_;rw[if_pos rfl];rfl
theorem fM(g:List (List Int))(y:Int)(h0:0<=y)(h1:y<g.length):dIx (.lst .f (ah .f g)) (.int y)=.ok (.lst .f ((g.getD y.toNat []).map D.int)):=by
 obtain ⟨k,rfl⟩:∃ k:Nat,y=(k:Int):=⟨y.toNat,by lia⟩
 have hk:k<g.length:=by lia
 refine uC (x:=.lst .f ((g.getD k []).map D.int)) ?_ rfl;unfold ah;rw[List.getElem?_map,List.getElem?_eq_getElem hk];simp[List.getD,List.getElem?_eq_getElem hk]
theorem gJ{m w:Nat}{p:Parts}(G:Good m w p)(y:Int)(h0:0<=y)(h1:y<p.rows):(p.right.getD y.toNat []).length+1=p.cols/\∀ v∈p.right.getD y.toNat [],0<=v/\v<=1000:=by
 have hk:y.toNat<p.right.length:=by have:=G.rl;lia
 have:p.right.getD y.toNat []∈p.right:=by simp[List.getD,List.getElem?_eq_getElem hk]
 exact G.rr _ this
theorem o5{m w:Nat}{p:Parts}(G:Good m w p)(y:Int)(h0:0<=y)(h1:y+1<p.rows):(p.up.getD y.toNat []).length=p.cols/\∀ v∈p.up.getD y.toNat [],0<=v/\v<=1000:=by
 have hk:y.toNat<p.up.length:=by have:=G.ul;lia
 have:p.up.getD y.toNat []∈p.up:=by simp[List.getD,List.getElem?_eq_getElem hk]
 exact G.ur _ this
def On(p:Parts)(x y:Int):Prop:=(0<=x/\x<p.cols)/\(0<=y/\y<p.rows)
theorem lY(a:Ads){m w:Nat}{p:Parts}(G:Good m w p){x y:Int}(o:On p x y)(l:Str):bV a [bp a p,.int x,.int y,.str l]=.ok (.int (a9 p x y l)):=by
 refine fm (ρ:=[some (bp a p),some (.int x),some (.int y),some (.str l)]) rfl ?_;unfold gj a9;by_cases h1:l = "r" /\ x+1<p.cols
 ·rw[if_pos h1]
  refine gH (eZ (b:=decide (l = "r")&&decide (x+1<(p.cols:Int))) ?_ (by simp[h1.1,h1.2]) ?_)
  ·(repeat' first|(with_reducible first|apply gf)|sizeOf_list_dec)
  ·have e1:=fM p.right y o.2.1 (by have:=G.rl;have:=o.2.2;lia)
   have e2:=dJ (t:=.f) (p.right.getD y.toNat []) x o.1.1 (by have:=(gJ G y o.2.1 o.2.2).1;lia);(repeat' first|(with_reducible first|apply qm|apply e1|apply e2)|sizeOf_list_dec)
 ·rw[if_neg h1]
  refine bf (dR (b:=decide (l = "r")&&decide (x+1<(p.cols:Int))) ?_ (by by_cases q:l = "r" <;> simp[q] at h1 ⊢;lia) rfl) ?_
  ·(repeat' first|(with_reducible first|apply gf)|sizeOf_list_dec)
  ·by_cases h2:l = "u" /\ y+1<p.rows
   ·rw[if_pos h2]
    refine gH (eZ (b:=decide (l = "u")&&decide (y+1<(p.rows:Int))) ?_ (by simp[h2.1,h2.2]) ?_)
    ·(repeat' first|(with_reducible first|apply mo)|sizeOf_list_dec)
    ·have e1:=fM p.up y o.2.1 (by have:=G.ul;have:=h2.2;lia)
     have e2:=dJ (t:=.f) (p.up.getD y.toNat []) x o.1.1 (by have:=(o5 G y o.2.1 h2.2).1;have:=o.1.2;lia);(repeat' first|(with_reducible first|apply vz|apply e1|apply e2)|sizeOf_list_dec)
   ·rw[if_neg h2]
    refine bf (dR (b:=decide (l = "u")&&decide (y+1<(p.rows:Int))) ?_ (by by_cases q:l = "u" <;> simp[q] at h2 ⊢;lia) rfl) ?_
    ·(repeat' first|(with_reducible first|apply mo)|sizeOf_list_dec)
    ·(repeat' sizeOf_list_dec)
theorem kj{m w:Nat}{p:Parts}(G:Good m w p):dIx (.lst .f (ah .f p.right)) (.int 0)=.ok (.lst .f ((p.right.getD 0 []).map D.int))/\((((p.right.getD 0 []).map D.int).length:Nat):Int)=(p.cols:Int) - 1:=by
 have r1:=G.r1;have e:=fM p.right 0 (by lia) (by have:=G.rl;lia);have l:=(gJ G 0 (by lia) (by lia)).1;have z:(0:Int).toNat=0:=rfl;rw[z] at l e;rw[List.length_map];exact ⟨e,by lia⟩
theorem qo(a:Ads){m w:Nat}{p:Parts}(G:Good m w p){x y:Int}(o:On p x y)(l:Str):cz a [p.d,.int x,.int y,.str l]=.ok (.int (a9 p x y l)):=by
 obtain ⟨f0,fl⟩:=kj G;have ul:(((ah .f p.up).length:Nat):Int)=(p.rows:Int) - 1:=by have:=G.ul;simp[ah];lia
 refine fm (ρ:=[some p.d,some (.int x),some (.int y),some (.str l)]) rfl ?_;unfold ir a9;by_cases h1:l = "r" /\ x+1<p.cols
 ·rw[if_pos h1]
  refine gH (eZ (b:=decide (l = "r")&&decide (x<(((p.right.getD 0 []).map D.int).length:Nat))) ?_ (by rw[fl];have:=h1.2;simp[h1.1];lia) ?_)
  ·(repeat' first|(with_reducible first|apply f0)|sizeOf_list_dec)
  ·have e1:=fM p.right y o.2.1 (by have:=G.rl;have:=o.2.2;lia)
   have e2:=dJ (t:=.f) (p.right.getD y.toNat []) x o.1.1 (by have:=(gJ G y o.2.1 o.2.2).1;lia);(repeat' first|(with_reducible first|apply e1|apply e2)|sizeOf_list_dec)
 ·rw[if_neg h1]
  refine bf (dR (b:=decide (l = "r")&&decide (x<(((p.right.getD 0 []).map D.int).length:Nat))) ?_ (by rw[fl];by_cases q:l = "r" <;> simp[q] at h1 ⊢;lia) rfl) ?_
  ·(repeat' first|(with_reducible first|apply f0)|sizeOf_list_dec)
  ·by_cases h2:l = "u" /\ y+1<p.rows
   ·rw[if_pos h2]
    refine gH (eZ (b:=decide (l = "u")&&decide (y<((ah .f p.up).length:Nat))) ?_ (by rw[ul];have:=h2.2;simp[h2.1];lia) ?_)
    ·(repeat' sizeOf_list_dec)
    ·have e1:=fM p.up y o.2.1 (by have:=G.ul;have:=h2.2;lia)
     have e2:=dJ (t:=.f) (p.up.getD y.toNat []) x o.1.1 (by have:=(o5 G y o.2.1 h2.2).1;have:=o.1.2;lia);(repeat' first|(with_reducible first|apply e1|apply e2)|sizeOf_list_dec)
   ·rw[if_neg h2]
    refine bf (dR (b:=decide (l = "u")&&decide (y<((ah .f p.up).length:Nat))) ?_ (by rw[ul];by_cases q:l = "u" <;> simp[q] at h2 ⊢;lia) rfl) ?_
    ·(repeat' sizeOf_list_dec)
    ·(repeat' sizeOf_list_dec)
def nX(x:Int)(l:Str):Int:=if l = "r" then x+1 else x
def nY(y:Int)(l:Str):Int:=if l = "r" then y else y+1
theorem lH(a:Ads)(x y:Int)(l:Str):bF a [.int x,.int y,.str l]=.ok (.tup [.int (nX x l),.int (nY y l)]):=by
 have e:(D.tup [.int (nX x l),.int (nY y l)])=if decide (l = "r")=true then .tup [.int (x+1),.int y] else .tup [.int x,.int (y+1)]:=by
  unfold nX nY;by_cases h:l = "r" <;> simp[h]
 refine fm (ρ:=[some (.int x),some (.int y),some (.str l)]) rfl ?_;unfold fH;rw[e];refine hZ (uB ?_ ?_ ?_) ?_
 ·(repeat' sizeOf_list_dec)
 ·(repeat' sizeOf_list_dec)
 ·(repeat' sizeOf_list_dec)
 ·split<;>exact ntb rfl
theorem rY{m w:Nat}{p:Parts}(G:Good m w p){x y:Int}(o:On p x y)(l:Str)(h:a9 p x y l≠0):On p (nX x l) (nY y l):=by
 have o':=o;unfold On at o' ⊢;unfold a9 at h;unfold nX nY;split at h
 ·rename_i q;rw[if_pos q.1,if_pos q.1];lia
 ·split at h
  ·rename_i q1 q
   have:¬ l = "r" := by intro e;rw[e] at q;exact absurd q.1 (by decide)
   rw[if_neg this,if_neg this];lia
  ·exact absurd rfl h
theorem jp{f:ad->Res D}{ρ:ad}{g:List (List Int)}(h:f ρ=.ok (.lst .f (ah .f g)))(hl:g.length<=1000):aF 1 [] (aG f) (au 0) aL (fCB bt (aa (ac 0) ag)) ρ=.ok (.lst .o (ah .o g)):=by
 have hi:aG f ρ=.ok (ah .f g):=by
  unfold aG;rw[h,bok];show (if _ then _ else bq (some ((ah .f g).map D.asF)))=_;rw[if_neg (ntb rfl),gF];rfl
 have e:=eY (cap:=[]) (fi:=aG f) (fe:=fCB bt (aa (ac 0) ag)) (ρ:=ρ) (items:=ah .f g) cpL hi (fun x hx=>by
  obtain ⟨r,_,rfl⟩:=List.mem_map.mp hx
  exact ⟨rfl,ntb rfl⟩) (by simp[ah];exact hl)
 rw[e];congr 2;unfold ah;rw[List.map_map];refine List.map_congr_left fun r _=>?_;show D.lst .o ((r.map D.int).map D.asF)=_;rw[cN]
theorem rZ(L:List Int):bt [.lst .f (L.map D.int)]=.ok (.lst .o (L.map D.int)):=by
 show Res.ok (D.lst .o ((L.map D.int).map D.asF))=_;rw[cN]
theorem r6(a:Ads){m w:Nat}{p:Parts}(h8:m<=8)(h4:w<=4)(G:Good m w p):d9 a [p.d]=.ok (bp a p):=by
 have r1:=G.r1;refine fm (ρ:=[some p.d,none,none]) rfl ?_;unfold jd;refine bf (ρ':=[some p.d,some (.lst .f (ah .f p.right)),some (.lst .f (ah .f p.up))]) ?_ ?_
 ·unfold pX
  have e0:f2 dIx (ac 0) (fC (.int 0)) [some p.d,none,none]=.ok (.lst .f (ah .f p.right)):=by (repeat' sizeOf_list_dec)
  have e1:f2 dIx (ac 0) (fC (.int 1)) [some p.d,none,none]=.ok (.lst .f (ah .f p.up)):=by (repeat' sizeOf_list_dec)
  rw[cg (jp e0 (by have:=G.rl;lia)) (cg (jp e1 (by have:=G.ul;lia)) kH),aok];show (if _ then FOut.bad else FOut.nx _)=_;rw[if_neg (by rintro (z | z | z | z)<;>first | exact nomatch z | exact absurd z (by show ¬ 3<=_;decide))];rw[df,df];rfl
 ·refine hZ ?_ (ntb rfl)
  have ha:aa (ac 1) (aa (ac 2) (aa (fCB bt (aa (f2 dIx (ac 0) (fC (.int 2))) ag)) (aa (fCB bt (aa (f2 dIx (ac 0) (fC (.int 3))) ag)) ag))) [some p.d,some (.lst .f (ah .f p.right)),some (.lst .f (ah .f p.up))]=.ok [.lst .f (ah .f p.right),.lst .f (ah .f p.up),.lst .o (p.starts.map D.int),.lst .o (p.ends.map D.int)]:=by (repeat' first|(with_reducible first|apply rZ)|sizeOf_list_dec)
  have hz:D.fzs [.lst .f (ah .f p.right),.lst .f (ah .f p.up),.lst .o (p.starts.map D.int),.lst .o (p.ends.map D.int)]=[.lst .f (ah .f p.right),.lst .f (ah .f p.up),.lst .f (p.starts.map D.int),.lst .f (p.ends.map D.int)]:=by (repeat' first | (with_reducible exact Lw.aC) | (with_reducible apply Lw.nF) | (with_reducible first | exact Lw.aw _ | exact Lw.eL _ | exact Lw.kG _ | exact Lw.lx | exact Lw.jl _ | exact Lw.jg _ _ _ | exact Lw.nE _ | exact Lw.fL _ _ | exact Lw.df _ _ _))
  unfold ng;rw[ha,bok,if_pos ⟨rfl,rfl⟩,hz,ou fun x=>uA a x p m w h8 h4 G];rfl
def go(p:Parts):List Str->Int->Int->Option (List (Int × Int) × Int)
 | [],_,_=>some ([],1)
 |l::ls,x,y=>if a9 p x y l=0 then none else match go p ls (nX x l) (nY y l) with
  |some (ps,w)=>some ((nX x l,nY y l)::ps,a9 p x y l*w)
  |none=>none
def ins(p:Parts)(x y:Int):Bool:=(decide (0<=x)&&decide (x<p.cols))&&(decide (0<=y)&&decide (y<p.rows))
def jN(x:Str):List Str:=x.cps.toList.map fun c=>⟨#[c]⟩
theorem r8(x:Str):iH x=(jN x).map D.str:=by unfold iH jN;rw[List.map_map];rfl
theorem o6{f:ad->Res D}{ρ:ad}{x:Str}(h:f ρ=.ok (.str x))(ha:asc x=true):aG f ρ=.ok ((jN x).map D.str):=by
 unfold aG;rw[h,bok,<- r8];show (if _ then _ else _)=_;rw[if_pos ha]
def due(p:Parts)(x y:Int)(s:Str):Option (List (Int × Int) × Int):=if ins p x y=true then go p (jN s) x y else none
theorem gK(a:Ads)(p:Parts):cV a.Net "starts" (bp a p)=.ok (.lst .f (p.starts.map D.int)):=by
 show (if a.Net=a.Net then _ else _)=_;rw[if_pos rfl];rfl
theorem jO(a:Ads)(p:Parts):cV a.Net "ends" (bp a p)=.ok (.lst .f (p.ends.map D.int)):=by
 show (if a.Net=a.Net then _ else _)=_;rw[if_pos rfl];rfl
theorem ia{m w:Nat}{p:Parts}(G:Good m w p):p.ends.length<=w/\p.starts.length=p.ends.length/\(∀ e∈p.ends,0<=e/\e<p.rows)/\(∀ e∈p.starts,0<=e/\e<p.rows)/\1<=p.starts.length:=by
 obtain ⟨k,k1,k2,rs,re⟩:=G.many;exact ⟨by rw[re.len];exact k2,by rw[rs.len,re.len],re.inn,rs.inn,by rw[rs.len];exact k1⟩
abbrev Pt:=(Int × Int) × Str
def prD(q:Pt):D:=.tup [.tup [.int q.1.1,.int q.1.2],.str q.2]
def thX(x:Int)(l:Str):Int:=x+(if decide (l = "r") then 1 else 0)
def thY(y:Int)(l:Str):Int:=y+(if decide (l = "u") then 1 else 0)
def cC(p:Parts)(ex ey:Int)(q:Pt)(l:Str):List Pt:=if (decide (thX q.1.1 l<=ex)&&decide (thY q.1.2 l<=ey))=true/\0<a9 p q.1.1 q.1.2 l then [((thX q.1.1 l,thY q.1.2 l),q.2++l)] else []
def ext(p:Parts)(ex ey:Int)(q:Pt):List Pt:=cC p ex ey q "r" ++ cC p ex ey q "u"
def bfs(p:Parts)(ex ey:Int):Nat->List Pt->List Pt
 | 0,R=>R
 |n+1,R=>bfs p ex ey n (R.flatMap (ext p ex ey))
theorem vA(q:Pt):(prD q).fz=prD q:=by unfold prD;rw[cM,ak,ak,aC,cM,ak,ak,aC,aw,aw,eL]
theorem jP:∀ L:List Pt,D.fzs (L.map prD)=L.map prD
 | []=>aC
 |q::L=>by rw[List.map_cons,ak,vA,jP L]
def stB(p:Parts)(h:Option D)(ex ey:Int)(R:Option D)(t:Option D)(Lg:List Pt)(e6 e7 e8 e9 e10:Option D):ad:=[some p.d,h,some (.tup [.int ex,.int ey]),R,t,some (.lst .o (Lg.map prD)),e6,e7,e8,e9,e10]
abbrev gbL(a:Ads):ad->FOut:=(av (ay 9 (fFz (bC (aa (f2 aJ (f2 dIx (ac 6) (fC (.int 0))) (fCB eB (aa (f2 dEq (ac 8) (fC (.str "r"))) ag))) (aa (f2 aJ (f2 dIx (ac 6) (fC (.int 1))) (fCB eB (aa (f2 dEq (ac 8) (fC (.str "u"))) ag))) ag)))))
 (av (ay 10 (fFz (fT (f2 dLe (f2 dIx (ac 9) (fC (.int 0))) (f2 dIx (ac 2) (fC (.int 0)))) (f2 dLe (f2 dIx (ac 9) (fC (.int 1))) (f2 dIx (ac 2) (fC (.int 1)))))))
 (gIf (dO (ftB (ac 10)) (ft2 dGt (ao 4 (cz a) (aa (ac 0) (aa (f2 dIx (ac 6) (fC (.int 0))) (aa (f2 dIx (ac 6) (fC (.int 1))) (aa (ac 8) ag))))) (fC (.int 0)))) (di 5 (bC (aa (ac 9) (aa (f2 aJ (ac 7) (ac 8)) ag)))) aR)))
theorem r9(b:Bool):eB [.bl b]=.ok (.int (if b then 1 else 0)):=rfl
theorem mq(i j:Str)(h:i.length+j.length<=1000):aJ (.str i) (.str j)=.ok (.str (i++j)):=by
 show (if i.length+j.length<=sizeLine then _ else _)=_;rw[if_pos (ge h)]
theorem lI(a:Ads){m w:Nat}{p:Parts}(G:Good m w p)(h:Option D)(ex ey:Int)(R t:Option D)(Lg:List Pt)(q:Pt)(o:On p q.1.1 q.1.2)(hq:q.2.length<500)(l:Str)(hl:l.length=1)(hL:Lg.length<900)(e9 e10:Option D) :
    ∃ e9' e10',gbL a (stB p h ex ey R t Lg (some (.tup [.int q.1.1,.int q.1.2])) (some (.str q.2)) (some (.str l)) e9 e10)=.nx (stB p h ex ey R t (Lg++cC p ex ey q l) (some (.tup [.int q.1.1,.int q.1.2])) (some (.str q.2)) (some (.str l)) e9' e10'):=by
 have st:=qo a G o l;have ca:=mq q.2 l (by lia)
 have s9:ay 9 (fFz (bC (aa (f2 aJ (f2 dIx (ac 6) (fC (.int 0))) (fCB eB (aa (f2 dEq (ac 8) (fC (.str "r"))) ag))) (aa (f2 aJ (f2 dIx (ac 6) (fC (.int 1))) (fCB eB (aa (f2 dEq (ac 8) (fC (.str "u"))) ag))) ag)))) (stB p h ex ey R t Lg (some (.tup [.int q.1.1,.int q.1.2])) (some (.str q.2)) (some (.str l)) e9 e10)=.nx (stB p h ex ey R t Lg (some (.tup [.int q.1.1,.int q.1.2])) (some (.str q.2)) (some (.str l)) (some (.tup [.int (thX q.1.1 l),.int (thY q.1.2 l)])) e10):=by
  have fzt:(D.tup [.int (thX q.1.1 l),.int (thY q.1.2 l)]).fz=.tup [.int (thX q.1.1 l),.int (thY q.1.2 l)]:=by rw[cM,ak,ak,aC,aw,aw]
  unfold thX thY at fzt ⊢;unfold stB;(repeat' first|(with_reducible first|apply r9|apply fzt)|sizeOf_list_dec)
 have s10:ay 10 (fFz (fT (f2 dLe (f2 dIx (ac 9) (fC (.int 0))) (f2 dIx (ac 2) (fC (.int 0)))) (f2 dLe (f2 dIx (ac 9) (fC (.int 1))) (f2 dIx (ac 2) (fC (.int 1)))))) (stB p h ex ey R t Lg (some (.tup [.int q.1.1,.int q.1.2])) (some (.str q.2)) (some (.str l)) (some (.tup [.int (thX q.1.1 l),.int (thY q.1.2 l)])) e10)=.nx (stB p h ex ey R t Lg (some (.tup [.int q.1.1,.int q.1.2])) (some (.str q.2)) (some (.str l)) (some (.tup [.int (thX q.1.1 l),.int (thY q.1.2 l)])) (some (.bl (decide (thX q.1.1 l<=ex)&&decide (thY q.1.2 l<=ey))))):=by
  unfold stB;(repeat' sizeOf_list_dec)
 have tt:dO (ftB (ac 10)) (ft2 dGt (ao 4 (cz a) (aa (ac 0) (aa (f2 dIx (ac 6) (fC (.int 0))) (aa (f2 dIx (ac 6) (fC (.int 1))) (aa (ac 8) ag))))) (fC (.int 0))) (stB p h ex ey R t Lg (some (.tup [.int q.1.1,.int q.1.2])) (some (.str q.2)) (some (.str l)) (some (.tup [.int (thX q.1.1 l),.int (thY q.1.2 l)])) (some (.bl (decide (thX q.1.1 l<=ex)&&decide (thY q.1.2 l<=ey)))))=.ok ((decide (thX q.1.1 l<=ex)&&decide (thY q.1.2 l<=ey))&&decide (0<a9 p q.1.1 q.1.2 l)):=by
  unfold stB;(repeat' first|(with_reducible first|apply st)|sizeOf_list_dec)
 refine ⟨some (.tup [.int (thX q.1.1 l),.int (thY q.1.2 l)]),some (.bl (decide (thX q.1.1 l<=ex)&&decide (thY q.1.2 l<=ey))),bf s9 (bf s10 ?_)⟩;unfold cC;by_cases hc:(decide (thX q.1.1 l<=ex)&&decide (thY q.1.2 l<=ey))=true/\0<a9 p q.1.1 q.1.2 l
 ·rw[if_pos hc]
  refine eZ tt (by rw[hc.1];simpa using hc.2) (qK (xs:=Lg.map prD) (d:=prD ((thX q.1.1 l,thY q.1.2 l),q.2++l)) rfl ?_ (ntb rfl) (by simp;lia) ?_)
  ·have fzt:(D.tup [.int (thX q.1.1 l),.int (thY q.1.2 l)]).fz=.tup [.int (thX q.1.1 l),.int (thY q.1.2 l)]:=by rw[cM,ak,ak,aC,aw,aw]
   unfold stB prD;(repeat' first|(with_reducible first|apply ca|apply fzt)|sizeOf_list_dec)
  ·unfold stB;rw[List.map_append];rfl
 ·rw[if_neg hc,List.append_nil]
  refine dR tt ?_ rfl
  cases hb:(decide (thX q.1.1 l<=ex)&&decide (thY q.1.2 l<=ey)) with
  |false=>rfl
  |true=>simp[hb] at hc;simp;lia
theorem iL(p:Parts)(ex ey:Int)(q:Pt)(l:Str):(cC p ex ey q l).length<=1:=by unfold cC;split<;>simp
theorem mr(p:Parts)(ex ey:Int)(q:Pt):(ext p ex ey q).length<=2:=by
 unfold ext;have:=iL p ex ey q "r";have:=iL p ex ey q "u";rw[List.length_append];lia
theorem lJ(p:Parts)(ex ey:Int):∀ R:List Pt,(R.flatMap (ext p ex ey)).length<=2*R.length
 | []=>by simp
 |q::R=>by
  have:=mr p ex ey q;have:=lJ p ex ey R;rw[List.flatMap_cons,List.length_append,List.length_cons];lia
theorem ms:(jN "ru").map D.str=[.str "r", .str "u"]:=by rfl
abbrev gbQ(a:Ads):ad->FOut:=b9 (aG (fC (.str "ru"))) (au 8) (gbL a)
theorem uG(a:Ads){m w:Nat}{p:Parts}(G:Good m w p)(h:Option D)(ex ey:Int)(R t:Option D)(Lg:List Pt)(q:Pt)(o:On p q.1.1 q.1.2)(hq:q.2.length<500)(hL:Lg.length<890)(e8 e9 e10:Option D) :
    ∃ e8' e9' e10',gbQ a (stB p h ex ey R t Lg (some (.tup [.int q.1.1,.int q.1.2])) (some (.str q.2)) e8 e9 e10)=.nx (stB p h ex ey R t (Lg++ext p ex ey q) (some (.tup [.int q.1.1,.int q.1.2])) (some (.str q.2)) e8' e9' e10'):=by
 have fi:=o6 (f:=fC (.str "ru")) (ρ:=stB p h ex ey R t Lg (some (.tup [.int q.1.1,.int q.1.2])) (some (.str q.2)) e8 e9 e10) (x := "ru") rfl (by decide +kernel);rw[ms] at fi;obtain ⟨f9,f10,b1⟩:=lI a G h ex ey R t Lg q o hq "r" (by decide +kernel) (by lia) e9 e10
 obtain ⟨g9,g10,b2⟩:=lI a G h ex ey R t (Lg++cC p ex ey q "r") q o hq "u" (by decide +kernel) (by have:=iL p ex ey q "r"; rw[List.length_append];lia) f9 f10
 refine ⟨some (.str "u"),g9,g10,cZ fi (bG (ρ1:=stB p h ex ey R t Lg (some (.tup [.int q.1.1,.int q.1.2])) (some (.str q.2)) (some (.str "r")) e9 e10) (cU (by show 8<11;decide) rfl) b1 (bG (ρ1:=stB p h ex ey R t (Lg++cC p ex ey q "r") (some (.tup [.int q.1.1,.int q.1.2])) (some (.str q.2)) (some (.str "u")) f9 f10) (cU (by show 8<11;decide) rfl) b2 ?_))⟩;unfold ext;rw[<- List.append_assoc];rfl
theorem o7(a:Ads){m w:Nat}{p:Parts}(G:Good m w p)(h:Option D)(ex ey:Int)(R t:Option D):∀ (L Lg:List Pt) (e6 e7 e8 e9 e10:Option D),(∀ q∈L,On p q.1.1 q.1.2/\q.2.length<500)->Lg.length+2*L.length<890 →
    ∃ e6' e7' e8' e9' e10',bN (dN [6,7]) (gbQ a) (L.map prD) (stB p h ex ey R t Lg e6 e7 e8 e9 e10)=.nx (stB p h ex ey R t (Lg++L.flatMap (ext p ex ey)) e6' e7' e8' e9' e10')
 | [],Lg,e6,e7,e8,e9,e10,_,_=>⟨e6,e7,e8,e9,e10,by rw[List.flatMap_nil,List.append_nil];rfl⟩
 |q::L,Lg,e6,e7,e8,e9,e10,hL,hl=>by
  have hq:=hL q List.mem_cons_self;obtain ⟨f8,f9,f10,b⟩:=uG a G h ex ey R t Lg q hq.1 hq.2 (by simp at hl;lia) e8 e9 e10;obtain ⟨g6,g7,g8,g9,g10,ih⟩:=o7 a G h ex ey R t L (Lg++ext p ex ey q) (some (.tup [.int q.1.1,.int q.1.2])) (some (.str q.2)) f8 f9 f10 (fun z hz=>hL z (List.mem_cons_of_mem _ hz)) (by have:=mr p ex ey q;simp at hl ⊢;lia);refine ⟨g6,g7,g8,g9,g10,?_⟩;rw[List.map_cons]
  refine bG (ρ1:=stB p h ex ey R t Lg (some (.tup [.int q.1.1,.int q.1.2])) (some (.str q.2)) e8 e9 e10) rfl b (ih.trans ?_);rw[List.append_assoc,List.flatMap_cons]
def gL(p:Parts)(n:Nat)(q:Pt):Prop:=On p q.1.1 q.1.2/\q.2.length=n
theorem vB(x y:Int){l:Str}(h:l = "r" \/ l = "u"):thX x l=nX x l/\thY y l=nY y l:=by
 unfold thX thY nX nY;rcases h with rfl | rfl
 ·refine ⟨by simp,?_⟩
  rw[if_neg (by decide +kernel),if_pos rfl,Int.add_zero]
 ·refine ⟨?_,?_⟩
  ·rw[if_neg (by decide +kernel),if_neg (by decide +kernel),Int.add_zero]
  ·rw[if_pos (by decide +kernel),if_neg (by decide +kernel)]
theorem mt{m w:Nat}{p:Parts}(G:Good m w p)(ex ey:Int)(n:Nat)(q:Pt)(hq:gL p n q){l:Str}(hl:l = "r" \/ l = "u"):∀ z∈cC p ex ey q l,gL p (n+1) z:=by
 intro z hz;unfold cC at hz;split at hz
 ·rename_i hc
  rw[List.mem_singleton] at hz;subst hz;obtain ⟨tx,ty⟩:=vB q.1.1 q.1.2 hl;refine ⟨?_,?_⟩
  ·show On p (thX q.1.1 l) (thY q.1.2 l)
   rw[tx,ty];exact rY G hq.1 l (by lia)
  ·show (q.2++l).length=n+1
   have:(q.2++l).length=q.2.length+l.length:=by show (q.2.cps++l.cps).size=_;rw[Array.size_append];rfl
   rw[this,hq.2];rcases hl with rfl | rfl<;>rfl
 ·cases hz
theorem mw{m w:Nat}{p:Parts}(G:Good m w p)(ex ey:Int)(n:Nat)(R:List Pt)(hR:∀ q∈R,gL p n q):∀ z∈R.flatMap (ext p ex ey),gL p (n+1) z:=by
 intro z hz;obtain ⟨q,hq,hz⟩:=List.mem_flatMap.mp hz;rcases List.mem_append.mp hz with h | h
 ·exact mt G ex ey n q (hR q hq) (.inl rfl) z h
 ·exact mt G ex ey n q (hR q hq) (.inr rfl) z h
def stA(p:Parts)(h:Option D)(ex ey:Int)(R:List Pt)(t e5 e6 e7 e8 e9 e10:Option D):ad:=[some p.d,h,some (.tup [.int ex,.int ey]),some (.lst .f (R.map prD)),t,e5,e6,e7,e8,e9,e10]
abbrev gbA(a:Ads):ad->FOut:=(av (ay 5 (b5 ag))
 (av (b9 (aG (ac 3)) (dN [6,7]) (gbQ a))
 (fun ρ=>(ay 3 (fFz (ac 5))) (frzAt 5 ρ))))
theorem iz(L:List Pt):(L.map prD).map D.asF=L.map prD:=by rw[List.map_map];rfl
theorem uH(a:Ads){m w:Nat}{p:Parts}(G:Good m w p)(h:Option D)(ex ey:Int)(R:List Pt)(n:Nat)(hn:n<400)(hR:∀ q∈R,gL p n q)(hl:R.length<400)(t e5 e6 e7 e8 e9 e10:Option D) :
    ∃ e5' e6' e7' e8' e9' e10',gbA a (stA p h ex ey R t e5 e6 e7 e8 e9 e10)=.nx (stA p h ex ey (R.flatMap (ext p ex ey)) t e5' e6' e7' e8' e9' e10'):=by
 obtain ⟨g6,g7,g8,g9,g10,lp⟩:=o7 a G h ex ey (some (.lst .f (R.map prD))) t R [] e6 e7 e8 e9 e10 (fun q hq=>⟨(hR q hq).1,by rw[(hR q hq).2];lia⟩) (by simp;lia);have fi:aG (ac 3) (stB p h ex ey (some (.lst .f (R.map prD))) t [] e6 e7 e8 e9 e10)=.ok (R.map prD):=by
  unfold aG;rw[bO 3 _ _ rfl,bok];show (if _ then _ else bq (some ((R.map prD).map D.asF)))=_;rw[if_neg (ntb rfl),iz];rfl
 refine ⟨some (.lst .f ((R.flatMap (ext p ex ey)).map prD)),g6,g7,g8,g9,g10,bf (ρ':=stB p h ex ey (some (.lst .f (R.map prD))) t [] e6 e7 e8 e9 e10) ?_ (bf (cZ fi lp) ?_)⟩
 ·unfold stA stB
  show _=FOut.nx [some p.d,h,some (.tup [.int ex,.int ey]),some (.lst .f (R.map prD)),t,some (.lst .o []),e6,e7,e8,e9,e10];(repeat' sizeOf_list_dec)
 ·rw[List.nil_append]
  show ay 3 (fFz (ac 5)) (frzAt 5 (stB p h ex ey (some (.lst .f (R.map prD))) t (R.flatMap (ext p ex ey)) g6 g7 g8 g9 g10))=_;have fr:frzAt 5 (stB p h ex ey (some (.lst .f (R.map prD))) t (R.flatMap (ext p ex ey)) g6 g7 g8 g9 g10)=[some p.d,h,some (.tup [.int ex,.int ey]),some (.lst .f (R.map prD)),t,some (.lst .f ((R.flatMap (ext p ex ey)).map prD)),g6,g7,g8,g9,g10]:=by
   unfold frzAt stB;show List.set _ 5 (some (D.fz (.lst .o ((R.flatMap (ext p ex ey)).map prD))))=_;rw[bi,jP];rfl
  rw[fr];have fz:(D.lst .f ((R.flatMap (ext p ex ey)).map prD)).fz=.lst .f ((R.flatMap (ext p ex ey)).map prD):=by rw[bi,jP]
  unfold stA;(repeat' first|(with_reducible first|apply fz)|sizeOf_list_dec)
theorem o8(a:Ads){m w:Nat}{p:Parts}(G:Good m w p)(h:Option D)(ex ey:Int):∀ (k i n:Nat) (R:List Pt) (t e5 e6 e7 e8 e9 e10:Option D),n+k<=8->(∀ q∈R,gL p n q)->R.length<=2 ^ n →
    ∃ t' e5' e6' e7' e8' e9' e10',bN (au 4) (gbA a) ((List.range' i k).map fun (j:Nat)=>D.int (0+(j:Int))) (stA p h ex ey R t e5 e6 e7 e8 e9 e10)=.nx (stA p h ex ey (bfs p ex ey k R) t' e5' e6' e7' e8' e9' e10')/\(∀ q∈bfs p ex ey k R,gL p (n+k) q)/\(bfs p ex ey k R).length<=2 ^ (n+k)
 | 0,i,n,R,t,e5,e6,e7,e8,e9,e10,_,h1,h2=>⟨t,e5,e6,e7,e8,e9,e10,rfl,h1,h2⟩
 |k+1,i,n,R,t,e5,e6,e7,e8,e9,e10,hn,h1,h2=>by
  have hp:2 ^ n<=2 ^ 8:=Nat.pow_le_pow_right (by decide) (by lia);obtain ⟨f5,f6,f7,f8,f9,f10,b⟩:=uH a G h ex ey R n (by lia) h1 (by lia) (some (.int (0+(i:Int)))) e5 e6 e7 e8 e9 e10;obtain ⟨t',g5,g6,g7,g8,g9,g10,ih,h3,h4⟩:=o8 a G h ex ey k (i+1) (n+1) (R.flatMap (ext p ex ey)) (some (.int (0+(i:Int)))) f5 f6 f7 f8 f9 f10 (by lia) (mw G ex ey n R h1) (by have:=lJ p ex ey R;rw[Nat.pow_succ];lia)
  refine ⟨t',g5,g6,g7,g8,g9,g10,?_,?_,?_⟩
  ·rw[List.range'_succ,List.map_cons]
   exact bG (cU (by show 4<11;decide) rfl) b ih
  ·rw[show n+(k+1)=n+1+k by lia];exact h3
  ·rw[show n+(k+1)=n+1+k by lia];exact h4
def vC(d:Int × Int)(ps:List (Int × Int)):Int × Int:=(ps.getLast?).getD d
structure Gone (p:Parts) (s:Int) (q:Pt) (v:Int):Prop where
 g:∃ ps,go p (jN q.2) 0 s=some (ps,v)/\vC (0,s) ps=q.1
 a:asc q.2=true
def bv(p:Parts)(s ex ey:Int):Nat->List Pt
 | 0=>[((0,s), "")]
 |t+1=>(bv p s ex ey t).flatMap (ext p ex ey)
theorem iM(p:Parts)(s ex ey:Int):∀ (k i:Nat),bfs p ex ey k (bv p s ex ey i)=bv p s ex ey (i+k)
 | 0,i=>rfl
 |k+1,i=>by
  show bfs p ex ey k (bv p s ex ey (i+1))=_;rw[iM p s ex ey k (i+1),show i+1+k=i+(k+1) by lia]
open PySem.Spec in
theorem o9:∀ (a b x y:List Nat),a.length=b.length->ltCps a b=true->ltCps (a++x) (b++y)=true
 | [],[],_,_,_,h=>by cases h
 | [],_::_,_,_,hl,_=>by cases hl
 |_::_,[],_,_,hl,_=>by cases hl
 |c::a,d::b,x,y,hl,h=>by
  have h':(decide (c<d)||(c == d&&ltCps a b))=true:=h;show (decide (c<d)||(c == d&&ltCps (a++x) (b++y)))=true;by_cases hc:c<d
  ·simp[hc]
  ·have e:c=d/\ltCps a b=true:=by simpa [hc] using h'
   rw[o9 a b x y (by simpa using hl) e.2];simp[e.1]
open PySem.Spec in
theorem my:∀ (a:List Nat) (c d:Nat),c<d->ltCps (a++[c]) (a++[d])=true
 | [],c,d,h=>by show (decide (c<d)||(c == d&&ltCps [] []))=true;simp[h]
 |e::a,c,d,h=>by
  show (decide (e<e)||(e == e&&ltCps (a++[c]) (a++[d])))=true;rw[my a c d h];simp
def ltS(a b:Str):Prop:=PySem.Spec.ltCps a.cps.toList b.cps.toList=true
theorem sd{a b:Str}(x y:Str)(hl:a.length=b.length)(h:ltS a b):ltS (a++x) (b++y):=by
 unfold ltS at *;show PySem.Spec.ltCps (a.cps++x.cps).toList (b.cps++y.cps).toList=true;rw[Array.toList_append,Array.toList_append];exact o9 _ _ _ _ (by simpa [Str.length] using hl) h
theorem uI(a:Str):ltS (a++("r" : Str)) (a++("u" : Str)):=by
 unfold ltS;show PySem.Spec.ltCps (a.cps++(Str.ofString "r").cps).toList (a.cps++(Str.ofString "u").cps).toList=true;rw[Array.toList_append,Array.toList_append,show (Str.ofString "r").cps.toList=[114] by decide +kernel,show (Str.ofString "u").cps.toList=[117] by decide +kernel];exact my _ _ _ (by decide)
theorem fg{p:Parts}{ex ey:Int}{q z:Pt}{l:Str}(h:z∈cC p ex ey q l):z.2=q.2++l:=by
 unfold cC at h;split at h
 ·rw[List.mem_singleton] at h;subst h;rfl
 ·cases h
theorem lK{p:Parts}{ex ey:Int}{q z:Pt}(h:z∈ext p ex ey q):∃ l:Str,z.2=q.2++l:=by
 rcases List.mem_append.mp h with h | h
 ·exact ⟨_,fg h⟩
 ·exact ⟨_,fg h⟩
theorem mz(p:Parts)(ex ey:Int)(q:Pt)(l:Str):(cC p ex ey q l).Pairwise fun a b=>ltS a.2 b.2:=by
 unfold cC;split<;>simp
theorem mB{m w:Nat}{p:Parts}(G:Good m w p)(s ex ey:Int)(o:On p 0 s):∀ t:Nat,(bv p s ex ey t).Pairwise (fun a b=>ltS a.2 b.2)/\∀ q∈bv p s ex ey t,gL p t q
 | 0=>⟨by simp[bv],fun q hq=>by
  have:q=(((0,s), ""):Pt):=by simpa [bv] using hq
  subst this;exact ⟨o,rfl⟩⟩
 |t+1=>by
  obtain ⟨h1,h2⟩:=mB G s ex ey o t;refine ⟨?_,mw G ex ey t _ h2⟩;show ((bv p s ex ey t).flatMap (ext p ex ey)).Pairwise _;rw[List.pairwise_flatMap];refine ⟨fun q _=>?_,?_⟩
  ·unfold ext
   rw[List.pairwise_append];refine ⟨mz _ _ _ _ _,mz _ _ _ _ _,fun x hx y hy=>?_⟩;rw[fg hx,fg hy];exact uI _
  ·refine List.Pairwise.imp_of_mem (fun {a b} ha hb hab x hx y hy=>?_) h1
   obtain ⟨l,e⟩:=lK hx;obtain ⟨l',e'⟩:=lK hy;rw[e,e'];exact sd _ _ (by rw[(h2 a ha).2,(h2 b hb).2]) hab
theorem km:∀ (l:List Str),l.Pairwise ltS->fX l=true
 | [],_=>rfl
 | [_],_=>rfl
 |a::b::r,h=>by
  show (PySem.Spec.ltCps a.cps.toList b.cps.toList&&fX (b::r))=true;rw[km (b::r) (List.pairwise_cons.mp h).2,show PySem.Spec.ltCps a.cps.toList b.cps.toList=true from (List.pairwise_cons.mp h).1 b List.mem_cons_self];rfl
theorem pd(x y u v:Int):dEq (.tup [.int x,.int y]) (.tup [.int u,.int v])=.ok (.bl (decide (x=u)&&decide (y=v))):=by
 have e:aI 4 (.tup [.int x,.int y]) (.tup [.int u,.int v])=some (decide (x=u)&&(decide (y=v)&&true)):=rfl;unfold dEq;rw[if_pos ⟨rfl,rfl⟩,e,Bool.and_true]
theorem iN(cap:List (Option D))(ex ey:Int)(hc:cap=[some (.tup [.int ex,.int ey])]):∀ (L:List Pt) (e1 e2:Option D) (acc:List D),acc.length+L.length<=1000 →
    aV (dN [0,1]) (ft2 dEq (ac 0) (ac 2)) (ac 1) (L.map prD) (e1::e2::cap) acc=.ok (acc++((L.filter fun q=>q.1=(ex,ey)).map fun q=>D.str q.2))
 | [],_,_,acc,_=>by show Res.ok acc=Res.ok (acc++[]);rw[List.append_nil]
 |q::L,e1,e2,acc,hl=>by
  subst hc;have hz:¬ sizeLine<=acc.length:=by
   have:(1000:Nat)<sizeLine:=by decide
   simp at hl;lia
  obtain ⟨⟨x,y⟩,wk⟩:=q;rw[List.map_cons];unfold aV;rw[show dN [0,1] (prD ((x,y),wk)) (e1::e2::[some (.tup [.int ex,.int ey])])=.ok [some (.tup [.int x,.int y]),some (.str wk),some (.tup [.int ex,.int ey])] from rfl,bok];have tt:ft2 dEq (ac 0) (ac 2) [some (.tup [.int x,.int y]),some (.str wk),some (.tup [.int ex,.int ey])]=.ok (decide (x=ex)&&decide (y=ey)):=by
   have:=pd x y ex ey;(repeat' first|(with_reducible first|apply this)|sizeOf_list_dec)
  rw[tt,bok];by_cases h:x=ex/\y=ey
  ·rw[if_pos (by simp[h])]
   rw[show ac 1 [some (.tup [.int x,.int y]),some (.str wk),some (.tup [.int ex,.int ey])]=.ok (.str wk) from rfl,bok,if_neg (fun z=>z.elim (ntb rfl) hz)];rw[iN _ ex ey rfl L _ _ (acc++[D.str wk]) (by simp at hl ⊢;lia)];rw[List.filter_cons_of_pos (by simp[h]),List.map_cons,List.append_assoc];rfl
  ·rw[if_neg (by simpa using h)]
   rw[iN _ ex ey rfl L _ _ acc (by simp at hl ⊢;lia)];rw[List.filter_cons_of_neg (by simpa using h)]
theorem jq:∀ L:List Str,dv (L.map D.str)=some L
 | []=>rfl
 |s::L=>by show (dv (L.map D.str)).map (s::·)=_;rw[jq L];rfl
theorem gh:∀ L:List Str,D.fzs (L.map D.str)=L.map D.str
 | []=>aC
 |s::L=>by rw[List.map_cons,ak,eL,gh L]
def cP(p:Parts)(s ex ey:Int)(T:Nat):List Str:=((bv p s ex ey T).filter fun q=>q.1=(ex,ey)).map fun q=>q.2
theorem se(a:Ads){m w:Nat}{p:Parts}(G:Good m w p)(h5:m<=5)(s ex ey:Nat)(hs:s<=ey)(hex:ex<p.cols)(hey:ey<p.rows) :
    cS a [p.d,.tup [.int 0,.int (s:Int)],.tup [.int (ex:Int),.int (ey:Int)]]=.ok (.lst .o ((cP p s ex ey (ex+(ey - s))).map D.str)):=by
 have c1:=G.c1;have r1:=G.r1;have o:On p 0 (s:Int):=⟨⟨by lia,by lia⟩,by lia,by lia⟩
 obtain ⟨t',e5,e6,e7,e8,e9,e10,lp,h3,h4⟩:=o8 a G (some (.tup [.int 0,.int (s:Int)])) ex ey (ex+(ey - s)) 0 0 [((0,(s:Int)), "")] none none none none none none none (by lia) (fun q hq=>by
  have:q=(((0,(s:Int)), ""):Pt):=by simpa using hq
  subst this;exact ⟨o,rfl⟩) (by simp)
 have hb:bfs p ex ey (ex+(ey - s)) [((0,(s:Int)), "")]=bv p s ex ey (ex+(ey - s)):=by
  have:=iM p s ex ey (ex+(ey - s)) 0;rwa [Nat.zero_add] at this
 rw[hb] at lp h4;have hlen:(bv p s ex ey (ex+(ey - s))).length<=256:=by
  have:2 ^ (0+(ex+(ey - s)))<=2 ^ 8:=Nat.pow_le_pow_right (by decide) (by lia);lia
 have hr:aB 0 (ex+(ey - s))=(List.range' 0 (ex+(ey - s))).map fun (j:Nat)=>D.int (0+(j:Int)):=by rw[aB,List.range_eq_range']
 have mx:gW [.int 0,.int ((ey:Int) - (s:Int))]=.ok (.int ((ey:Int) - (s:Int))):=by
  show Res.ok (D.int (if (ey:Int) - (s:Int) > 0 then (ey:Int) - (s:Int) else 0))=_;congr 2;split<;>lia
 refine fm (ρ:=[some p.d,some (.tup [.int 0,.int (s:Int)]),some (.tup [.int (ex:Int),.int (ey:Int)]),none,none,none,none,none,none,none,none]) rfl ?_;unfold je;have fzh:(D.tup [.int 0,.int (s:Int)]).fz=.tup [.int 0,.int (s:Int)]:=by rw[cM,ak,ak,aC,aw,aw]
 refine bf (ρ':=stA p (some (.tup [.int 0,.int (s:Int)])) ex ey [((0,(s:Int)), "")] none none none none none none none) ?_ (bf (cZ (items:=aB 0 (ex+(ey - s))) (cA ?_ (by lia)) (by rw[hr];exact lp)) ?_)
 ·have fz2:(D.lst .o [.tup [.tup [.int 0,.int (s:Int)],.str ""]]).fz=.lst .f [.tup [.tup [.int 0,.int (s:Int)],.str ""]]:=by rw[bi,ak,aC,cM,ak,ak,aC,fzh,eL]
  show _=FOut.nx [some p.d,some (.tup [.int 0,.int (s:Int)]),some (.tup [.int (ex:Int),.int (ey:Int)]),some (.lst .f [.tup [.tup [.int 0,.int (s:Int)],.str ""]]),none,none,none,none,none,none,none];(repeat' first|(with_reducible first|apply fzh|apply fz2)|sizeOf_list_dec)
 ·rw[show (((ex+(ey - s):Nat)):Int)=(ex:Int) - 0+((ey:Int) - (s:Int)) by lia]
  unfold stA;(repeat' first|(with_reducible first|apply mx)|sizeOf_list_dec)
 ·have fi:aG (ac 3) (stA p (some (.tup [.int 0,.int (s:Int)])) ex ey (bv p s ex ey (ex+(ey - s))) t' e5 e6 e7 e8 e9 e10)=.ok ((bv p s ex ey (ex+(ey - s))).map prD):=by
     unfold aG;rw[bO 3 _ _ rfl,bok];show (if _ then _ else bq (some (((bv p s ex ey (ex+(ey - s))).map prD).map D.asF)))=_;rw[if_neg (ntb rfl),iz];rfl
  have cp:aF 2 [2] (aG (ac 3)) (dN [0,1]) (ft2 dEq (ac 0) (ac 2)) (ac 1) (stA p (some (.tup [.int 0,.int (s:Int)])) ex ey (bv p s ex ey (ex+(ey - s))) t' e5 e6 e7 e8 e9 e10)=.ok (.lst .o ((cP p s ex ey (ex+(ey - s))).map D.str)):=by
   unfold aF;rw[fi,bok];have:=iN [some (.tup [.int (ex:Int),.int (ey:Int)])] ex ey rfl (bv p s ex ey (ex+(ey - s))) none none [] (by simp;lia);show (match aV (dN [0,1]) (ft2 dEq (ac 0) (ac 2)) (ac 1) ((bv p s ex ey (ex+(ey - s))).map prD) (none::none::[some (.tup [.int (ex:Int),.int (ey:Int)])]) [] with
    | .ok ds=>Res.ok (D.lst .o ds)
    |_=>.bad)=_
   rw[this];unfold cP;rw[List.map_map,List.nil_append];rfl
  have so:dF [.lst .o ((cP p s ex ey (ex+(ey - s))).map D.str)]=.ok (.lst .o ((cP p s ex ey (ex+(ey - s))).map D.str)):=by
   have pw:(cP p s ex ey (ex+(ey - s))).Pairwise ltS:=by
    unfold cP;exact List.Pairwise.map _ (fun a b h=>h) ((mB G s ex ey o (ex+(ey - s))).1.filter _)
   show (match some (D.fzs ((cP p s ex ey (ex+(ey - s))).map D.str)) with
    |some ys=>match dv ys with
     |some ss=>if D.isL (.lst .o ((cP p s ex ey (ex+(ey - s))).map D.str))=true/\fX ss=true/\ss.length<=100000 then Res.ok (D.lst .o (ss.map D.str)) else .bad
     |none=>.bad
    |none=>.bad)=_
   rw[gh];show (match dv ((cP p s ex ey (ex+(ey - s))).map D.str) with
       |some ss=>if D.isL (.lst .o ((cP p s ex ey (ex+(ey - s))).map D.str))=true/\fX ss=true/\ss.length<=100000 then Res.ok (D.lst .o (ss.map D.str)) else .bad
       |none=>.bad)=_
   rw[jq];refine if_pos ⟨rfl,km _ pw,?_⟩;unfold cP;rw[List.length_map];exact Nat.le_trans (List.length_filter_le _ _) (by lia)
  refine hZ (ql (cg cp kH) so) (ntb rfl)
def wk(p:Parts)(ex ey:Int):Nat->Int->Int->List Str
 | 0,_,_=>[""]
 |n+1,x,y=>(if x+1<=ex/\0<a9 p x y "r" then (wk p ex ey n (x+1) y).map (fun s=>("r" : Str)++s) else [])++(if y+1<=ey/\0<a9 p x y "u" then (wk p ex ey n x (y+1)).map (fun s=>("u" : Str)++s) else [])
theorem jr(p:Parts)(ex ey:Int):∀ (n:Nat) (x y:Int),(wk p ex ey n x y).length<=2 ^ n
 | 0,_,_=>by simp[wk]
 |n+1,x,y=>by
  have h1:=jr p ex ey n (x+1) y;have h2:=jr p ex ey n x (y+1);unfold wk;rw[List.length_append,Nat.pow_succ];split<;>split<;>simp only[List.length_map,List.length_nil] <;> omega
theorem mC(a b:Str):(a++b).length=a.length+b.length:=by show (a.cps++b.cps).size=_;rw[Array.size_append];rfl
theorem jQ(p:Parts)(ex ey:Int):∀ (n:Nat) (x y:Int),∀ s∈wk p ex ey n x y,s.length=n
 | 0,_,_,s,h=>by
  have:s = "" := by simpa [wk] using h
  subst this;rfl
 |n+1,x,y,s,h=>by
  unfold wk at h;rcases List.mem_append.mp h with h | h
  ·split at h
   ·obtain ⟨t,ht,rfl⟩:=List.mem_map.mp h
    rw[mC,jQ p ex ey n _ _ t ht];show 1+n=_;omega
   ·cases h
  ·split at h
   ·obtain ⟨t,ht,rfl⟩:=List.mem_map.mp h
    rw[mC,jQ p ex ey n _ _ t ht];show 1+n=_;omega
   ·cases h
theorem pe(a b c:Str):a++b++c=a++(b++c):=by
 show (⟨(a.cps++b.cps)++c.cps⟩:Str)=⟨a.cps++(b.cps++c.cps)⟩;rw[Array.append_assoc]
theorem sg(a:Str):a++("" : Str)=a:=by
 show (⟨a.cps++#[]⟩:Str)=a;rw[Array.append_empty]
theorem sj(a:Str):("" : Str)++a=a:=by
 show (⟨#[]++a.cps⟩:Str)=a;rw[Array.empty_append]
theorem mD(p:Parts)(ex ey:Int)(q:Pt)(n:Nat)(l:Str)(tx:Int)(ty:Int)(h1:thX q.1.1 l=tx)(h2:thY q.1.2 l=ty) :
    (cC p ex ey q l).flatMap (fun z=>(wk p ex ey n z.1.1 z.1.2).map (fun s=>z.2++s))=(if (tx<=ex/\ty<=ey)/\0<a9 p q.1.1 q.1.2 l then (wk p ex ey n tx ty).map (fun s=>l++s) else []).map fun s=>q.2++s:=by
 unfold cC;rw[h1,h2];by_cases h:(tx<=ex/\ty<=ey)/\0<a9 p q.1.1 q.1.2 l
 ·rw[if_pos (by simpa using h),if_pos h]
  simp only[List.flatMap_cons,List.flatMap_nil,List.append_nil,List.map_map];congr 1;funext s;exact pe _ _ _
 ·rw[if_neg (by simpa using h),if_neg h]
  rfl
theorem uJ(p:Parts)(ex ey:Int)(q:Pt)(n:Nat)(hx:q.1.1<=ex)(hy:q.1.2<=ey) :
    (ext p ex ey q).flatMap (fun z=>(wk p ex ey n z.1.1 z.1.2).map (fun s=>z.2++s))=(wk p ex ey (n+1) q.1.1 q.1.2).map (fun s=>q.2++s):=by
 unfold ext;rw[List.flatMap_append,mD p ex ey q n "r" (q.1.1+1) q.1.2 rfl (by unfold thY;rw[if_neg (by decide +kernel),Int.add_zero]),
  mD p ex ey q n "u" q.1.1 (q.1.2+1) (by unfold thX;rw[if_neg (by decide +kernel),Int.add_zero]) rfl,<- List.map_append]
 congr 1;rw[wk];congr 1
 ·simp only[hy,and_true]
 ·simp only[hx,true_and]
theorem pf(p:Parts)(ex ey:Int):∀ (k:Nat) (R:List Pt),(∀ q∈R,q.1.1<=ex/\q.1.2<=ey/\(ex - q.1.1)+(ey - q.1.2)=(k:Int)) →
    ((bfs p ex ey k R).filter fun q=>q.1=(ex,ey)).map (fun q=>q.2)=R.flatMap fun q=>(wk p ex ey k q.1.1 q.1.2).map (fun s=>q.2++s)
 | 0,R,h=>by
  show ((R.filter _).map _)=_;induction R with
  |nil=>rfl
  |cons q R ih=>
   obtain ⟨h1,h2,h3⟩:=h q List.mem_cons_self;obtain ⟨⟨x,y⟩,s⟩:=q;dsimp only at h1 h2 h3;have ex':x=ex:=by omega
   have ey':y=ey:=by omega
   subst ex' ey';rw[List.filter_cons_of_pos (by simp),List.map_cons,ih fun z hz=>h z (List.mem_cons_of_mem _ hz),List.flatMap_cons];show s::_=[s++("" : Str)]++_;rw[sg];rfl
 |k+1,R,h=>by
  show (((bfs p ex ey k (R.flatMap (ext p ex ey))).filter _).map _)=_;rw[pf p ex ey k (R.flatMap (ext p ex ey)) (fun z hz=>by
   obtain ⟨q,hq,hz⟩:=List.mem_flatMap.mp hz
   obtain ⟨h1,h2,h3⟩:=h q hq
   have one:∀ (l:Str) (tx ty:Int),thX q.1.1 l=tx->thY q.1.2 l=ty->tx+ty=q.1.1+q.1.2+1->z∈cC p ex ey q l->z.1.1<=ex/\z.1.2<=ey/\(ex - z.1.1)+(ey - z.1.2)=(k:Int):=by
    intro l tx ty e1 e2 e3 hz
    unfold cC at hz
    rw[e1,e2] at hz
    split at hz
    ·rename_i hc
     rw[List.mem_singleton] at hz
     subst hz
     simp at hc
     refine ⟨hc.1.1,hc.1.2,?_⟩
     show ex - tx+(ey - ty)=_
     omega
    ·cases hz
   rcases List.mem_append.mp hz with hz | hz
   ·exact one "r" (q.1.1+1) q.1.2 rfl (by unfold thY;rw[if_neg (by decide +kernel),Int.add_zero]) (by omega) hz
   ·exact one "u" q.1.1 (q.1.2+1) (by unfold thX;rw[if_neg (by decide +kernel),Int.add_zero]) rfl (by omega) hz)]
  rw[List.flatMap_assoc];have:∀ (R:List Pt),(∀ q∈R,q.1.1<=ex/\q.1.2<=ey)->R.flatMap (fun x=>List.flatMap (fun q=>(wk p ex ey k q.1.1 q.1.2).map (fun s=>q.2++s)) (ext p ex ey x))=R.flatMap (fun q=>(wk p ex ey (k+1) q.1.1 q.1.2).map (fun s=>q.2++s)):=by
   intro R;induction R with
   |nil=>intro _;rfl
   |cons q R ih=>
    intro hR;rw[List.flatMap_cons,List.flatMap_cons,ih fun z hz=>hR z (List.mem_cons_of_mem _ hz),uJ p ex ey q k (hR q List.mem_cons_self).1 (hR q List.mem_cons_self).2]
  exact this R fun q hq=>⟨(h q hq).1,(h q hq).2.1⟩
theorem mE(p:Parts)(s ex ey T:Nat)(h:s<=ey)(hT:T=ex+(ey - s)):cP p s ex ey T=wk p ex ey T 0 s:=by
 unfold cP;have hb:=iM p s ex ey T 0;rw[Nat.zero_add] at hb;rw[<- hb];have:=pf p ex ey T [((0,(s:Int)), "")] (fun q hq=>by
  have:q=(((0,(s:Int)), ""):Pt):=by simpa using hq
  subst this
  refine ⟨?_,?_,?_⟩ <;> dsimp only<;>omega)
 rw[show bv p s ex ey 0=([((0,(s:Int)), "")]:List Pt) from rfl,this];simp only[List.flatMap_cons,List.flatMap_nil,List.append_nil];rw[List.map_congr_left (g:=id) (fun s _=>sj s),List.map_id]
def kyD(x y:Int):List L2.Key:=[Sum.inl x,Sum.inl y]
theorem kn(ks:List (List L2.Key × D))(k k':List L2.Key)(d:D):aT (ks++[(k,d)]) k'=(aT ks k').or (if k=k' then some d else none):=by
 induction ks with
 |nil=>show (if k=k' then some d else none)=_;simp[aT]
 |cons q ks ih=>
  obtain ⟨k0,d0⟩:=q;show (if k0=k' then some d0 else aT (ks++[(k,d)]) k')=Option.or (if k0=k' then some d0 else aT ks k') _;by_cases h:k0=k'
  ·rw[if_pos h,if_pos h];rfl
  ·rw[if_neg h,if_neg h];exact ih
theorem qp(ks:List (List L2.Key × D))(k:List L2.Key):aT (D.fzk ks) k=(aT ks k).map D.fz:=by
 induction ks with
 |nil=>rfl
 |cons q ks ih=>
  obtain ⟨k0,d0⟩:=q;show (if k0=k then some d0.fz else aT (D.fzk ks) k)=Option.map D.fz (if k0=k then some d0 else aT ks k);by_cases h:k0=k
  ·rw[if_pos h,if_pos h];rfl
  ·rw[if_neg h,if_neg h];exact ih
theorem ph(ks:List (List L2.Key × D))(k:List L2.Key)(h:aT ks k=none):fY ks k=false:=by
 induction ks with
 |nil=>rfl
 |cons q ks ih=>
  obtain ⟨k0,d0⟩:=q;have h:(if k0=k then some d0 else aT ks k)=none:=h;by_cases hk:k0=k
  ·rw[if_pos hk] at h;cases h
  ·rw[if_neg hk] at h
   have:=ih h;unfold fY at this ⊢;rw[List.any_cons,this,Bool.or_false];simpa using hk
theorem nG{α:Type}{gt:D->ad->Res ad}{ft:ad->Res Bool}{fe:ad->Res D}(f:α->D)(mk:α->ad)(t:α->Bool)(v:α->D)(Q:ad->Prop):∀ (L:List α) (ρ:ad) (acc:List D),Q ρ →
    (∀ x∈L,(∀ ρ,Q ρ->gt (f x) ρ=.ok (mk x))/\Q (mk x)/\ft (mk x)=.ok (t x)/\(t x=true->fe (mk x)=.ok (v x)/\(v x).tag≠.b))->acc.length+L.length<=1000 →
    aV gt ft fe (L.map f) ρ acc=.ok (acc++(L.filter t).map v)
 | [],_,acc,_,_,_=>by show Res.ok acc=Res.ok (acc++[]);rw[List.append_nil]
 |x::L,ρ,acc,q,h,hl=>by
  have hz:¬ sizeLine<=acc.length:=by
   have:(1000:Nat)<sizeLine:=by decide
   simp at hl;lia
  obtain ⟨h1,h2,h3,h4⟩:=h x List.mem_cons_self;have h':=fun y hy=>h y (List.mem_cons_of_mem _ hy);rw[List.map_cons];unfold aV;rw[h1 ρ q,bok,h3,bok]
  cases hx:t x with
  |true=>
   obtain ⟨h5,h6⟩:=h4 hx;rw[if_pos rfl,h5,bok,if_neg (fun z=>z.elim h6 hz),nG f mk t v Q L _ _ h2 h' (by simp at hl ⊢;lia),List.filter_cons_of_pos hx,List.map_cons,List.append_assoc];rfl
  |false=>rw[if_neg (by decide),nG f mk t v Q L _ _ h2 h' (by simp at hl ⊢;lia),List.filter_cons_of_neg (by simp[hx])]
theorem uK{α:Type}{own:Nat}{cap:List Nat}{fi:ad->Res (List D)}{gt:D->ad->Res ad}{ft:ad->Res Bool}{fe:ad->Res D}{ρ:ad}{L:List α}(f:α->D)(mk:α->ad)(t:α->Bool)(v:α->D)(Q:ad->Prop)
    (hi:fi ρ=.ok (L.map f)) (hq:Q (List.replicate own none++cap.map (aZ ρ)))
    (h:∀ x∈L,(∀ ρ,Q ρ->gt (f x) ρ=.ok (mk x))/\Q (mk x)/\ft (mk x)=.ok (t x)/\(t x=true->fe (mk x)=.ok (v x)/\(v x).tag≠.b)) (hl:L.length<=1000) :
    aF own cap fi gt ft fe ρ=.ok (.lst .o ((L.filter t).map v)):=by
 unfold aF;rw[hi,bok,nG f mk t v Q L _ [] hq h (by simpa using hl)];rfl
theorem pi{α:Type}{own:Nat}{cap:List Nat}{fi:ad->Res (List D)}{gt:D->ad->Res ad}{fe:ad->Res D}{ρ:ad}{L:List α}(f:α->D)(mk:α->ad)(v:α->D)(Q:ad->Prop)
    (hi:fi ρ=.ok (L.map f)) (hq:Q (List.replicate own none++cap.map (aZ ρ)))
    (h:∀ x∈L,(∀ ρ,Q ρ->gt (f x) ρ=.ok (mk x))/\Q (mk x)/\fe (mk x)=.ok (v x)/\(v x).tag≠.b) (hl:L.length<=1000) :
    aF own cap fi gt aL fe ρ=.ok (.lst .o (L.map v)):=by
 rw[uK f mk (fun _=>true) v Q hi hq (fun x hx=>⟨(h x hx).1,(h x hx).2.1,rfl,fun _=>(h x hx).2.2⟩) hl];congr 3;exact List.filter_eq_self.mpr fun _ _=>rfl
theorem gM(L:List Str):(L.map D.str).map D.asF=L.map D.str:=by rw[List.map_map];rfl
theorem mF{f:ad->Res D}{ρ:ad}{xs:List D}(h:f ρ=.ok (.lst .f xs))(hx:xs.map D.asF=xs):aG f ρ=.ok xs:=by
 unfold aG;rw[h,bok];show (if _ then _ else bq (some (xs.map D.asF)))=_;rw[if_neg (ntb rfl),hx];rfl
theorem uL{i:Nat}{f:ad->Res D}{ρ ρ':ad}{xs ys:List D}(h0:ρ[i]?=some (some (.lst .o xs)))(h:f ρ=.ok (.lst .o ys))(hl:xs.length+ys.length<=1000)(he:ρ.set i (some (.lst .o (xs++ys)))=ρ'):ej i f ρ=.nx ρ':=by
 have:¬ sizeLine<xs.length+ys.length:=by have:1000<sizeLine:=(by decide);lia
 unfold ej;rw[h0];simp only[h,aok];rw[if_neg this,he]
theorem lL{α:Type}:∀ M:List α,du (M.map fun _=>D.bl true)=some (M.map fun _=>true)
 | []=>rfl
 |x::M=>by show (du _).map (true::·)=_;rw[lL M];rfl
theorem pj(a:Ads)(L:List Str)(n:Int)(hl:L.length<=1000):ce a [.lst .f (L.map D.str),.int n]=.ok (.bl (decide (((L.length:Nat):Int)=n))):=by
 refine fm (ρ:=[some (.lst .f (L.map D.str)),some (.int n)]) rfl ?_;unfold gD;have fi:=mF (f:=ac 0) (ρ:=[some (.lst .f (L.map D.str)),some (.int n)]) (xs:=L.map D.str) rfl (gM L);have cp:=pi (own:=1) (cap:=[]) (gt:=au 0) (fe:=f1 (iF "str") (ac 0)) (L:=L) D.str (fun x=>[some (.str x)]) (fun _=>.bl true) (fun ρ=>∃ e,ρ=[e]) fi ⟨none,rfl⟩ (fun x _=>⟨by rintro ρ ⟨e,rfl⟩;rfl,⟨_,rfl⟩,rfl,ntb rfl⟩) hl
 have al:fCB fj (aa (aF 1 [] (aG (ac 0)) (au 0) aL (f1 (iF "str") (ac 0))) ag) [some (.lst .f (L.map D.str)),some (.int n)]=.ok (.bl true):=by
  refine ql (cg cp kH) ?_;show (match du (L.map fun _=>D.bl true) with
   |some bs=>Res.ok (D.bl (bs.all id))
   |none=>.bad)=_
  rw[lL];simp
 have ln:f2 dEq (fCB a7 (aa (ac 0) ag)) (ac 1) [some (.lst .f (L.map D.str)),some (.int n)]=.ok (.bl (decide (((L.length:Nat):Int)=n))):=by
  have:(L.map D.str).length=L.length:=List.length_map ..;rw[<- this];(repeat' sizeOf_list_dec)
 have:=kI (s:=f1 (iF "list") (ac 0)) (ρ:=[some (.lst .f (L.map D.str)),some (.int n)]) (b:=true) rfl (kI ln al);rw[hZ this (ntb rfl)];simp
theorem lM(t t':Tg)(r:List Str):dNe (.lst t (r.map D.str)) (.lst t' (r.map D.str))=.ok (.bl false):=by
 have key:∀ L:List Str,cL (((L.map D.str).zip (L.map D.str)).map fun p=>aI 3 p.1 p.2)=some true:=by
  intro L;induction L with
  |nil=>rfl
  |cons x L ih=>
   show (match cL (((L.map D.str).zip (L.map D.str)).map fun p=>aI 3 p.1 p.2) with
    |some c=>some (decide (x=x)&&c)
    |none=>none)=_
   rw[ih];simp
 have e:aI 4 (.lst t (r.map D.str)) (.lst t' (r.map D.str))=some true:=by
  show (if (r.map D.str).length=(r.map D.str).length then cL (((r.map D.str).zip (r.map D.str)).map fun p=>aI 3 p.1 p.2) else some false)=_;rw[if_pos rfl,key]
 unfold dNe;rw[if_pos ⟨rfl,rfl⟩,e];rfl
theorem sk{C:Addr}{g:ad->FOut}{ρ:ad}(h:g ρ=.exc (.ref C)):gy C g ρ=.rt (.bl true):=by unfold gy;rw[h];exact if_pos rfl
theorem wq(x:Int):nX x "r" = x+1:=if_pos rfl
theorem wr(y:Int):nY y "r" = y:=if_pos rfl
theorem wt(x:Int):nX x "u" = x:=if_neg (by decide +kernel)
theorem wu(y:Int):nY y "u" = y+1:=if_neg (by decide +kernel)
theorem vE{t:ad->Res Bool}{f g:ad->Res D}{ρ:ad}{d:D}(h1:t ρ=.ok true)(h2:f ρ=.ok d):fIf t f g ρ=.ok d:=by unfold fIf;rw[h1,bok,if_pos rfl,h2]
theorem vF{t:ad->Res Bool}{f g:ad->Res D}{ρ:ad}{d:D}(h1:t ρ=.ok false)(h2:g ρ=.ok d):fIf t f g ρ=.ok d:=by unfold fIf;rw[h1,bok,if_neg (by decide),h2]
theorem vG{fd fk fx:ad->Res D}{ρ:ad}{ks:List (List L2.Key × D)}{x y:Int}{d:D}(h1:fd ρ=.ok (.dic .f ks))(h2:fk ρ=.ok (.tup [.int x,.int y]))(h3:fx ρ=.ok d) :
    jA fd fk fx ρ=.ok (match aT ks (kyD x y) with | some z=>z.asF | none=>d):=by
 unfold jA;rw[h1,bok];show (fk ρ >>= _)=_;rw[h2,bok];show (fx ρ >>= _)=_;rw[h3,bok];rfl
def vD(V:Option (List Str)):Option D:=V.map fun L=>.lst .o (L.map D.str)
def vL(V:Option (List Str)):List Str:=V.getD []
def stO(a:Ads)(p:Parts)(x y:Int)(ks:List (List L2.Key × D))(L:List Str)(e:Option D):ad:=[some (bp a p),some (.int x),some (.int y),some (.dic .f (D.fzk ks)),some (.lst .o (L.map D.str)),e]
abbrev gbO(a:Ads):ad->FOut:=(gIf (ft2 dGt (ao 4 (bV a) (aa (ac 0) (aa (ac 1) (aa (ac 2) (aa (ac 5) ag))))) (fC (.int 0))) (ej 4 (aF 1 [5] (aG (jA (ac 3) (ao 3 (bF a) (aa (ac 1) (aa (ac 2) (aa (ac 5) ag)))) (b5 ag))) (au 0) aL (f2 aJ (ac 1) (ac 0)))) aR)
theorem mG(a:Ads){m w:Nat}{p:Parts}(G:Good m w p){x y:Int}(o:On p x y)(ks:List (List L2.Key × D))(l:Str)(hl:l.length=1)(V:Option (List Str))(hV:aT ks (kyD (nX x l) (nY y l))=vD V)(hv:(vL V).length<=300/\∀ s∈vL V,s.length<=300)(L:List Str)(hL:L.length<=300) :
    gbO a (stO a p x y ks L (some (.str l)))=.nx (stO a p x y ks (L++if 0<a9 p x y l then (vL V).map (fun s=>l++s) else []) (some (.str l))):=by
 have sw:=lY a G o l;have pb:=lH a x y l;have tt:ft2 dGt (ao 4 (bV a) (aa (ac 0) (aa (ac 1) (aa (ac 2) (aa (ac 5) ag))))) (fC (.int 0)) (stO a p x y ks L (some (.str l)))=.ok (decide (0<a9 p x y l)):=by unfold stO;(repeat' first|(with_reducible first|apply sw)|sizeOf_list_dec)
 by_cases hs:0<a9 p x y l
 ·rw[if_pos hs]
  refine eZ tt (by simpa using hs) ?_;have g1:ac 3 (stO a p x y ks L (some (.str l)))=.ok (.dic .f (D.fzk ks)):=rfl;have g2:ao 3 (bF a) (aa (ac 1) (aa (ac 2) (aa (ac 5) ag))) (stO a p x y ks L (some (.str l)))=.ok (.tup [.int (nX x l),.int (nY y l)]):=by unfold stO;(repeat' first|(with_reducible first|apply pb)|sizeOf_list_dec)
  have g3:b5 ag (stO a p x y ks L (some (.str l)))=.ok (.lst .o []):=rfl;have gg:=vG g1 g2 g3;rw[qp,hV] at gg;have fi:aG (jA (ac 3) (ao 3 (bF a) (aa (ac 1) (aa (ac 2) (aa (ac 5) ag)))) (b5 ag)) (stO a p x y ks L (some (.str l)))=.ok ((vL V).map D.str):=by
   cases V with
   |none=>unfold aG;rw[gg,bok];rfl
   |some M=>
    refine mF (xs:=M.map D.str) (gg.trans ?_) (gM M);show Res.ok (D.asF (D.fz (.lst .o (M.map D.str))))=_;rw[bi,gh];rfl
  have cp:=pi (own:=1) (cap:=[5]) (gt:=au 0) (fe:=f2 aJ (ac 1) (ac 0)) (ρ:=stO a p x y ks L (some (.str l))) (L:=vL V) D.str (fun s=>[some (.str s),some (.str l)]) (fun s=>.str (l++s)) (fun ρ=>∃ e,ρ=[e,some (.str l)]) fi ⟨none,rfl⟩ (fun s hs=>⟨by rintro ρ ⟨e,rfl⟩;rfl,⟨_,rfl⟩,by
      have:=mq l s (by have:=hv.2 s hs;omega)
      (repeat' first|(with_reducible first|apply this)|sizeOf_list_dec),ntb rfl⟩) (by have:=hv.1;omega)
  refine uL (xs:=L.map D.str) rfl cp (by simp;have:=hv.1;omega) ?_;unfold stO;rw[List.map_append,List.map_map];rfl
 ·rw[if_neg hs,List.append_nil]
  exact dR tt (by simpa using hs) rfl
theorem qr(a:Ads){m w:Nat}{p:Parts}(G:Good m w p){x y:Int}(o:On p x y)(ks:List (List L2.Key × D))(V U:Option (List Str))(hV:aT ks (kyD (x+1) y)=vD V)(hU:aT ks (kyD x (y+1))=vD U)
    (hv:(vL V).length<=300/\∀ s∈vL V,s.length<=300) (hu:(vL U).length<=300/\∀ s∈vL U,s.length<=300) :
    dw a [bp a p,.int x,.int y,.dic .f (D.fzk ks)]=.ok (.lst .o (((if 0<a9 p x y "r" then (vL V).map (fun s=>("r" : Str)++s) else [])++(if 0<a9 p x y "u" then (vL U).map (fun s=>("u" : Str)++s) else [])).map D.str)):=by
 refine fm (ρ:=[some (bp a p),some (.int x),some (.int y),some (.dic .f (D.fzk ks)),none,none]) rfl ?_;unfold i8;have fi:=o6 (f:=fC (.str "ru")) (ρ:=stO a p x y ks [] none) (x := "ru") rfl (by decide +kernel);rw[ms] at fi;have t1:=mG a G o ks "r" (by decide +kernel) V (by rw[(wq x),(wr y)];exact hV) hv [] (by simp)
 have t2:=mG a G o ks "u" (by decide +kernel) U (by rw[(wt x),(wu y)];exact hU) hu ([]++if 0<a9 p x y "r" then (vL V).map (fun s=>("r" : Str)++s) else []) (by rw[List.nil_append];split<;>simp;exact hv.1);rw[List.nil_append] at t1 t2
 refine bf (ρ':=stO a p x y ks [] none) ?_ (bf (cZ fi (bG (ρ1:=stO a p x y ks [] (some (.str "r"))) (cU (by show 5<6;decide) rfl) t1 (bG (ρ1:=stO a p x y ks (if 0<a9 p x y "r" then (vL V).map (fun s=>("r" : Str)++s) else []) (some (.str "u"))) (cU (by show 5<6;decide) rfl) t2 rX))) ?_)
 ·unfold stO
  show _=FOut.nx [some (bp a p),some (.int x),some (.int y),some (.dic .f (D.fzk ks)),some (.lst .o []),none];(repeat' sizeOf_list_dec)
 ·rfl
theorem kJ(xs:List Int)(k:Nat)(h:k<xs.length):dIx (.lst .f (xs.map D.int)) (.int (k:Int))=.ok (.int (xs.getD k 0)):=by
 have:=dJ (t:=.f) xs (k:Int) (by omega) (by omega);simpa using this
theorem sq{n:Nat}{F:List D->Res D}{fa:ad->Res (List D)}{ρ:ad}{ds ds':List D}{d:D}(h:fa ρ=.ok ds)(hn:ds.length=n)(hz:D.fzs ds=ds')(hF:F ds'=.ok d)(ha:kD d=true):gB n F fa ρ=.ok d:=by
 unfold gB;rw[h,bok,if_pos hn];unfold kE;rw[hz,hF];exact if_pos ha
theorem uM{i:Nat}{fk f:ad->Res D}{ρ ρ':ad}{ks:List (List L2.Key × D)}{d:D}{x y:Int}(h0:ρ[i]?=some (some (.dic .o ks)))(h:f ρ=.ok d)(hb:d.tag≠.b)(hk:fk ρ=.ok (.tup [.int x,.int y]))(hn:aT ks (kyD x y)=none)(hl:ks.length<1000)(he:ρ.set i (some (.dic .o (ks++[(kyD x y,d)])))=ρ'):fB i fk f ρ=.nx ρ':=by
 have hz:¬ sizeLine<=ks.length:=by
  have:(1000:Nat)<sizeLine:=by decide
  omega
 unfold fB;rw[h0];show aft (f ρ) _=_;rw[h,aok,hk,aok];show (if d.tag=.b\/fY ks (kyD x y)=true\/sizeLine<=ks.length then FOut.bad else _)=_;rw[if_neg (fun z=>z.elim hb fun z=>z.elim (fun z=>by rw[ph ks _ hn] at z;cases z) hz),<- he];rfl
theorem qt{i:Nat}{fk:ad->Res D}{ρ:ad}{ks:List (List L2.Key × D)}{x y:Int}(h0:ρ[i]?=some (some (.dic .o ks)))(hk:fk ρ=.ok (.tup [.int x,.int y])):fA i fk ρ=.rt ((aT ks (kyD x y)).getD (.lst .o [])):=by
 unfold fA;rw[h0];show aft (fk ρ) _=_;rw[hk,aok];rfl
theorem mH{fa:ad->Res (List D)}{ρ:ad}{i j:Int}(h:fa ρ=.ok [.int i,.int j,.int (-1)])(h1:-100<=i/\i<=100/\-100<=j/\j<=100):jB fa ρ=.ok (ga i (i - j).toNat):=by
 unfold jB;rw[h,bok];show (if _ then _ else _)=_;rw[if_pos (by simp;omega)]
def wkA(p:Parts)(ex ey x y:Int):List Str:=wk p ex ey ((ex - x)+(ey - y)).toNat x y
def dn(low ex ey x:Int)(j:Nat)(x' y':Int):Prop:=low<=y'/\y'<=ey/\x'<=ex/\(x<x'\/(x'=x/\ey - (j:Int)<y'))
structure AH (p:Parts) (ex ey:Int) (P:Int->Int->Prop) (ks:List (List L2.Key × D)):Prop where
 yes:∀ x y,P x y->aT ks (kyD x y)=some (.lst .o ((wkA p ex ey x y).map D.str))
 no:∀ x y,¬ P x y->aT ks (kyD x y)=none
theorem AH.iff{p:Parts}{ex ey:Int}{P Q:Int->Int->Prop}{ks:List (List L2.Key × D)}(h:AH p ex ey P ks)(e:∀ x y,P x y ↔ Q x y):AH p ex ey Q ks:=
 ⟨fun x y q=>h.yes x y ((e x y).mpr q),fun x y q=>h.no x y fun z=>q ((e x y).mp z)⟩
theorem uN{x y x' y':Int}(h:kyD x y=kyD x' y'):x=x'/\y=y':=by
 unfold kyD at h;injection h with h1 h2;injection h2 with h2 _;injection h1 with h1;injection h2 with h2;exact ⟨h1,h2⟩
theorem AH.put{p:Parts}{low ex ey x:Int}{j:Nat}{ks:List (List L2.Key × D)}(h:AH p ex ey (dn low ex ey x j) ks)(hx:x<=ex)(hj:low<=ey - (j:Int)) :
    AH p ex ey (dn low ex ey x (j+1)) (ks++[(kyD x (ey - (j:Int)),.lst .o ((wkA p ex ey x (ey - (j:Int))).map D.str))]):=by
 refine ⟨fun x' y' q=>?_,fun x' y' q=>?_⟩
 ·rw[kn]
  by_cases hd:dn low ex ey x j x' y'
  ·rw[h.yes x' y' hd];rfl
  ·rw[h.no x' y' hd]
   unfold dn at q hd;have e1:x'=x:=by omega
   have e2:y'=ey - (j:Int):=by omega
   subst e1 e2;rw[if_pos rfl];rfl
 ·rw[kn,h.no x' y' (fun z=>q (by unfold dn at z ⊢;omega)),if_neg (fun z=>q (by
     obtain ⟨rfl,rfl⟩:=uN z
     unfold dn;omega))]
  rfl
def dg(a:Ads)(p:Parts)(one other low:Int)(ex ey:Int)(ks:List (List L2.Key × D))(e6 e7:Option D):ad:=[some (bp a p),some (.int one),some (.int other),some (.int low),some (.tup [.int ex,.int ey]),some (.dic .o ks),e6,e7]
abbrev gbY(a:Ads):ad->FOut:=fB 5 (bC (aa (ac 6) (aa (ac 7) ag))) (fIf (ft2 dEq (bC (aa (ac 6) (aa (ac 7) ag))) (ac 4)) (b5 (aa (fC (.str "")) ag)) (gB 4 (dw a) (aa (ac 0) (aa (ac 6) (aa (ac 7) (aa (ac 5) ag))))))
abbrev gbX(a:Ads):ad->FOut:=b9 (jB (aa (f2 dIx (ac 4) (fC (.int 1))) (aa (f2 b4 (ac 3) (fC (.int 1))) (aa (f1 fU (fC (.int 1))) ag)))) (au 7) (gbY a)
theorem pk(L:List Str):kD (.lst .o (L.map D.str))=true:=by
 show (L.map D.str).all D.atom=true;rw[List.all_map];exact List.all_eq_true.mpr fun _ _=>rfl
theorem pq(p:Parts)(ex ey x y:Int)(h:(ex - x)+(ey - y)<=8):(wkA p ex ey x y).length<=300/\∀ s∈wkA p ex ey x y,s.length<=300:=by
 unfold wkA;refine ⟨?_,fun s hs=>?_⟩
 ·have h1:=jr p ex ey ((ex - x)+(ey - y)).toNat x y
  have h2:2 ^ ((ex - x)+(ey - y)).toNat<=2 ^ 8:=Nat.pow_le_pow_right (by decide) (by omega);omega
 ·rw[jQ p ex ey _ x y s hs];omega
theorem uO(a:Ads){m w:Nat}{p:Parts}(G:Good m w p)(one other low:Int)(ex ey x:Int)(ks:List (List L2.Key × D))(j:Nat)(h:AH p ex ey (dn low ex ey x j) ks)(hl:ks.length<=500)(hx:0<=x/\x<=ex)(hex:ex<p.cols)(hey:ey<p.rows)(h0:0<=low)(hj:low<=ey - (j:Int))(h8:ex+ey<=8) :
    gbY a (dg a p one other low ex ey ks (some (.int x)) (some (.int (ey - (j:Int)))))=.nx (dg a p one other low ex ey (ks++[(kyD x (ey - (j:Int)),.lst .o ((wkA p ex ey x (ey - (j:Int))).map D.str))]) (some (.int x)) (some (.int (ey - (j:Int))))):=by
 have kt:bC (aa (ac 6) (aa (ac 7) ag)) (dg a p one other low ex ey ks (some (.int x)) (some (.int (ey - (j:Int)))))=.ok (.tup [.int x,.int (ey - (j:Int))]):=by unfold dg;(repeat' sizeOf_list_dec)
 refine uM (ks:=ks) (d:=.lst .o ((wkA p ex ey x (ey - (j:Int))).map D.str)) rfl ?_ (ntb rfl) kt (h.no _ _ (by unfold dn;omega)) (by omega) rfl;have dq:=pd x (ey - (j:Int)) ex ey;have tt:ft2 dEq (bC (aa (ac 6) (aa (ac 7) ag))) (ac 4) (dg a p one other low ex ey ks (some (.int x)) (some (.int (ey - (j:Int)))))=.ok (decide (x=ex)&&decide (ey - (j:Int)=ey)):=t_2 kt rfl dq
 generalize hy:ey - (j:Int)=y at *;by_cases he:x=ex/\y=ey
 ·obtain ⟨rfl,rfl⟩:=he
  refine vE (by simpa using tt) ?_;have:wkA p x y x y=[("" : Str)]:=by unfold wkA;rw[show ((x - x)+(y - y)).toNat=0 by omega];rfl
  rw[this];rfl
 ·refine vF (by rw[tt];congr 1;simpa using he) ?_
  have o:On p x y:=⟨⟨by omega,by omega⟩,by omega,by omega⟩
  have hV:aT ks (kyD (x+1) y)=vD (if x+1<=ex then some (wkA p ex ey (x+1) y) else none):=by
   by_cases q:x+1<=ex
   ·rw[if_pos q];exact h.yes _ _ (by unfold dn;omega)
   ·rw[if_neg q];exact h.no _ _ (by unfold dn;omega)
  have hU:aT ks (kyD x (y+1))=vD (if y+1<=ey then some (wkA p ex ey x (y+1)) else none):=by
   by_cases q:y+1<=ey
   ·rw[if_pos q];exact h.yes _ _ (by unfold dn;omega)
   ·rw[if_neg q];exact h.no _ _ (by unfold dn;omega)
  have wo:=qr a G o ks _ _ hV hU (by
   by_cases q:x+1<=ex
   ·rw[if_pos q];exact pq p ex ey _ _ (by omega)
   ·rw[if_neg q];exact ⟨by simp[vL],by simp[vL]⟩) (by
   by_cases q:y+1<=ey
   ·rw[if_pos q];exact pq p ex ey _ _ (by omega)
   ·rw[if_neg q];exact ⟨by simp[vL],by simp[vL]⟩)
  obtain ⟨n,hn⟩:∃ n:Nat,((ex - x)+(ey - y)).toNat=n+1:=⟨((ex - x)+(ey - y)).toNat - 1,by omega⟩
  have eq:(if 0<a9 p x y "r" then (vL (if x+1<=ex then some (wkA p ex ey (x+1) y) else none)).map (fun s=>("r" : Str)++s) else [])++(if 0<a9 p x y "u" then (vL (if y+1<=ey then some (wkA p ex ey x (y+1)) else none)).map (fun s=>("u" : Str)++s) else [])=wkA p ex ey x y:=by
   unfold wkA;rw[hn,wk];congr 1
   ·by_cases q:x+1<=ex
    ·rw[if_pos q,show ((ex - (x+1))+(ey - y)).toNat=n by omega]
     by_cases s:0<a9 p x y "r"
     ·rw[if_pos s,if_pos ⟨q,s⟩];rfl
     ·rw[if_neg s,if_neg (show ¬ (x+1<=ex/\0<a9 p x y "r") from fun z=>s z.2)]
    ·rw[if_neg q,if_neg (show ¬ (x+1<=ex/\0<a9 p x y "r") from fun z=>q z.1)]
     split<;>rfl
   ·by_cases q:y+1<=ey
    ·rw[if_pos q,show ((ex - x)+(ey - (y+1))).toNat=n by omega]
     by_cases s:0<a9 p x y "u"
     ·rw[if_pos s,if_pos ⟨q,s⟩];rfl
     ·rw[if_neg s,if_neg (show ¬ (y+1<=ey/\0<a9 p x y "u") from fun z=>s z.2)]
    ·rw[if_neg q,if_neg (show ¬ (y+1<=ey/\0<a9 p x y "u") from fun z=>q z.1)]
     split<;>rfl
  rw[eq] at wo;exact sq (ds:=[bp a p,.int x,.int y,.dic .b ks]) rfl rfl (by rw[ak,ak,ak,ak,aC];rfl) wo (pk _)
theorem pr(a:Ads){m w:Nat}{p:Parts}(G:Good m w p)(one other low:Int)(ex ey x:Int)(hx:0<=x/\x<=ex)(hex:ex<p.cols)(hey:ey<p.rows)(h0:0<=low)(h8:ex+ey<=8):∀ (n j:Nat) (ks:List (List L2.Key × D)) (e7:Option D),j+n=(ey - (low - 1)).toNat->AH p ex ey (dn low ex ey x j) ks->ks.length+n<=500 →
    ∃ ks' e7',bN (au 7) (gbY a) ((List.range' j n).map fun (i:Nat)=>D.int (ey - (i:Int))) (dg a p one other low ex ey ks (some (.int x)) e7)=.nx (dg a p one other low ex ey ks' (some (.int x)) e7')/\AH p ex ey (dn low ex ey x (ey - (low - 1)).toNat) ks'/\ks'.length=ks.length+n
 | 0,j,ks,e7,hj,h,hl=>⟨ks,e7,rfl,by rw[<- hj];exact h,rfl⟩
 |n+1,j,ks,e7,hj,h,hl=>by
  obtain ⟨ks',e7',ih,h2,h3⟩:=pr a G one other low ex ey x hx hex hey h0 h8 n (j+1) _ (some (.int (ey - (j:Int)))) (by omega) (h.put hx.2 (by omega)) (by rw[List.length_append];simp;omega);refine ⟨ks',e7',?_,h2,by rw[h3,List.length_append];simp;omega⟩;rw[List.range'_succ,List.map_cons]
  exact bG (cU (by show 7<8;decide) rfl) (uO a G one other low ex ey x ks j h (by omega) hx hex hey h0 (by omega) h8) ih
theorem lN(hi:Int)(n:Nat):ga hi n=(List.range' 0 n).map fun (i:Nat)=>D.int (hi - (i:Int)):=by rw[ga,List.range_eq_range']
theorem pu(a:Ads){m w:Nat}{p:Parts}(G:Good m w p)(one other low:Int)(ex ey:Int)(hex:ex<p.cols)(hey:ey<p.rows)(he0:0<=ey)(h0:0<=low)(hl8:low<=8)(h8:ex+ey<=8):∀ (n j:Nat) (ks:List (List L2.Key × D)) (e6 e7:Option D),((j+n:Nat):Int)=ex+1->AH p ex ey (dn low ex ey (ex - (j:Int)) 0) ks->ks.length+10*n<=500 →
    ∃ ks' e6' e7',bN (au 6) (gbX a) ((List.range' j n).map fun (i:Nat)=>D.int (ex - (i:Int))) (dg a p one other low ex ey ks e6 e7)=.nx (dg a p one other low ex ey ks' e6' e7')/\AH p ex ey (dn low ex ey (-1) 0) ks'
 | 0,j,ks,e6,e7,hj,h,hl=>⟨ks,e6,e7,rfl,by rw[show (-1:Int)=ex - (j:Int) by omega];exact h⟩
 |n+1,j,ks,e6,e7,hj,h,hl=>by
  obtain ⟨k1,f7,lp,h1,l1⟩:=pr a G one other low ex ey (ex - (j:Int)) (by omega) hex hey h0 h8 (ey - (low - 1)).toNat 0 ks e7 (by omega) h (by omega);obtain ⟨ks',e6',e7',ih,h2⟩:=pu a G one other low ex ey hex hey he0 h0 hl8 h8 n (j+1) k1 (some (.int (ex - (j:Int)))) f7 (by omega) (h1.iff fun x y=>by unfold dn;omega) (by omega);refine ⟨ks',e6',e7',?_,h2⟩;rw[List.range'_succ,List.map_cons]
  refine bG (ρ1:=dg a p one other low ex ey ks (some (.int (ex - (j:Int)))) e7) (cU (by show 6<8;decide) rfl) (cZ (mH (i:=ey) (j:=low - 1) ?_ (by omega)) ?_) ih
  ·unfold dg;(repeat' sizeOf_list_dec)
  ·rw[lN];exact lp
def lkN(p:Parts)(s e:Nat):List Str:=if s<=e then cP p s ((p.cols - 1:Nat):Int) e (p.cols - 1+(e - s)) else []
theorem vH(a:Ads){m w:Nat}{p:Parts}(G:Good m w p)(h5:m<=5)(one other s e:Nat)(h1:one<p.starts.length)(h2:other<p.ends.length)(hs:p.starts.getD one 0=(s:Int))(he:p.ends.getD other 0=(e:Int))(hs2:s<p.rows)(he2:e<p.rows) :
    cc a [bp a p,.int (one:Int),.int (other:Int)]=.ok (.lst .o ((lkN p s e).map D.str)):=by
 have c1:=G.c1;have r1:=G.r1;have e1:=kJ p.starts one h1;have e2:=kJ p.ends other h2;rw[hs] at e1;rw[he] at e2;refine fm (ρ:=[some (bp a p),some (.int (one:Int)),some (.int (other:Int)),none,none,none,none,none]) rfl ?_;unfold jE;have l1:(p.starts.map D.int).length=p.starts.length:=List.length_map ..;have l2:(p.ends.map D.int).length=p.ends.length:=List.length_map ..
 obtain ⟨ks,e6,e7,lp,hA⟩:=pu a G (one:Int) (other:Int) (s:Int) ((p.cols - 1:Nat):Int) (e:Int) (by omega) (by omega) (by omega) (by omega) (by omega) (by omega) p.cols 0 [] none none (by omega) ⟨fun x y q=>by unfold dn at q;omega,fun _ _ _=>rfl⟩ (by simp;omega)
 refine bf (ρ':=[some (bp a p),some (.int (one:Int)),some (.int (other:Int)),none,none,none,none,none]) (dR (b:=!(decide ((0:Int)<=(one:Int))&&decide ((one:Int)<((p.starts.map D.int).length:Nat))) || !(decide ((0:Int)<=(other:Int))&&decide ((other:Int)<((p.ends.map D.int).length:Nat)))) ?_ (by rw[l1,l2];simp;omega) rfl) ?_
 ·refine nD (hX (t_B (fK ?_ ?_ ?_))) (hX (t_B (fK ?_ ?_ ?_)))
  all_goals (repeat' first|(with_reducible first|apply gK|apply jO)|sizeOf_list_dec)
 refine bf (ρ':=[some (bp a p),some (.int (one:Int)),some (.int (other:Int)),some (.int (s:Int)),none,none,none,none]) (by (repeat' first|(with_reducible first|apply gK|apply e1)|sizeOf_list_dec)) ?_;refine bf (ρ':=[some (bp a p),some (.int (one:Int)),some (.int (other:Int)),some (.int (s:Int)),some (.tup [.int ((p.cols - 1:Nat):Int),.int (e:Int)]),none,none,none]) ?_ ?_
 ·have fz1:∀ z:Int,(D.tup [.int z,.int (e:Int)]).fz=.tup [.int z,.int (e:Int)]:=fun z=>by rw[cM,ak,ak,aC,aw,aw]
  rw[show (((p.cols - 1:Nat)):Int)=(p.cols:Int) - 1 by omega];(repeat' first|(with_reducible first|apply gf|apply jO|apply e2|apply fz1)|sizeOf_list_dec)
 refine bf (ρ':=dg a p one other s ((p.cols - 1:Nat):Int) e [] none none) (lA (d:=.dic .o []) rfl (ntb rfl) (by show 5<8;decide)) ?_;refine bf (cZ (mH (i:=((p.cols - 1:Nat):Int)) (j:=-1) ?_ (by omega)) (by rw[lN,show (((p.cols - 1:Nat):Int) - -1).toNat=p.cols by omega];exact lp)) ?_
 ·unfold dg;(repeat' sizeOf_list_dec)
 ·have:=qt (i:=5) (fk:=bC (aa (fC (.int 0)) (aa (ac 3) ag))) (ρ:=dg a p one other s ((p.cols - 1:Nat):Int) e ks e6 e7) (ks:=ks) (x:=0) (y:=(s:Int)) rfl (by unfold dg;(repeat' sizeOf_list_dec))
  rw[this];unfold lkN;by_cases h:s<=e
  ·rw[if_pos h,hA.yes 0 s (by unfold dn;omega),mE p s (p.cols - 1) e _ h rfl]
   unfold wkA;rw[show ((((p.cols - 1:Nat)):Int) - 0+((e:Int) - (s:Int))).toNat=p.cols - 1+(e - s) by omega];rfl
  ·rw[if_neg h,hA.no 0 s (by unfold dn;omega)]
   rfl
theorem mI(t:Tg)(L:List Str):(D.lst t (L.map D.str)).fz=.lst .f (L.map D.str):=by rw[bi,gh]
def stM(ns:List Int)(a:Ads)(p:Parts)(e4 e5 e6 e7:Option D):ad:=[some (.scr ns),some p.d,some (bp a p),some (.int ((p.starts.length:Nat):Int)),e4,e5,e6,e7,none]
abbrev gbI(a:Ads):ad->FOut:=(av (ay 6 (fFz (b5 ag)))
 (av (gIf (ft2 dGe (f2 dIx (f2 dIx (ac 1) (fC (.int 3))) (ac 5)) (f2 dIx (f2 dIx (ac 1) (fC (.int 2))) (ac 4))) (ay 6 (fFz (ao 3 (cS a) (aa (ac 1) (aa (bC (aa (fC (.int 0)) (aa (f2 dIx (f2 dIx (ac 1) (fC (.int 2))) (ac 4)) ag))) (aa (bC (aa (fCB a7 (aa (f2 dIx (f2 dIx (ac 1) (fC (.int 0))) (fC (.int 0))) ag)) (aa (f2 dIx (f2 dIx (ac 1) (fC (.int 3))) (ac 5)) ag))) ag)))))) aR)
 (av (ay 7 (ao 3 (cc a) (aa (ac 2) (aa (ac 4) (aa (ac 5) ag)))))
 (av (gIf (jz (b7 (ftB (ao 2 (ce a) (aa (ac 7) (aa (fCB a7 (aa (ac 6) ag)) ag))))) (ft2 dNe (ac 7) (ac 6))) (br (fC (.bl false))) aR)
 (av (di 7 (fC (.str "r")))
 (gIf (ft2 dNe (ao 3 (cc a) (aa (ac 2) (aa (ac 4) (aa (ac 5) ag)))) (ac 6)) (br (fC (.bl false))) aR))))))
theorem sr{m w:Nat}{p:Parts}(G:Good m w p)(h5:m<=5)(s e:Nat)(he:e<p.rows):(lkN p s e).length<=300:=by
 unfold lkN;split
 ·rename_i h
  have r5:=G.r1;have c5:=G.c1;rw[mE p s (p.cols - 1) e _ h rfl];have h1:=jr p ((p.cols - 1:Nat):Int) e (p.cols - 1+(e - s)) 0 s;have h2:2 ^ (p.cols - 1+(e - s))<=2 ^ 8:=Nat.pow_le_pow_right (by decide) (by omega);omega
 ·simp
theorem qu(a:Ads)(ns:List Int){p:Parts}(G:Good 5 4 p)(one other:Nat)(h1:one<p.starts.length)(h2:other<p.starts.length)(e6 e7:Option D) :
    ∃ e6' e7',gbI a (stM ns a p (some (.int (one:Int))) (some (.int (other:Int))) e6 e7)=.nx (stM ns a p (some (.int (one:Int))) (some (.int (other:Int))) e6' e7'):=by
 have c1:=G.c1;obtain ⟨f0,fl⟩:=kj G;obtain ⟨_,el,ei,si,_⟩:=ia G;have m1:p.starts.getD one 0∈p.starts:=by simp[List.getD,List.getElem?_eq_getElem h1]
 have m2:p.ends.getD other 0∈p.ends:=by simp[List.getD,List.getElem?_eq_getElem (show other<p.ends.length by omega)]
 obtain ⟨s,hs⟩:∃ s:Nat,p.starts.getD one 0=(s:Int):=⟨(p.starts.getD one 0).toNat,by have:=si _ m1;omega⟩
 obtain ⟨e,he⟩:∃ e:Nat,p.ends.getD other 0=(e:Int):=⟨(p.ends.getD other 0).toNat,by have:=ei _ m2;omega⟩
 have hs2:s<p.rows:=by have:=(si _ m1).2;omega
 have he2:e<p.rows:=by have:=(ei _ m2).2;omega
 have x1:=kJ p.starts one h1;have x2:=kJ p.ends other (by omega);rw[hs] at x1;rw[he] at x2;have wk:=vH a G (by decide) one other s e h1 (by omega) hs he hs2 he2;have ll:=sr G (by decide) s e he2
 refine ⟨some (.lst .f ((lkN p s e).map D.str)),some (.lst .o ((lkN p s e).map D.str++[.str "r"])),bf (ρ':=stM ns a p (some (.int (one:Int))) (some (.int (other:Int))) (some (.lst .f [])) e7) ?_ (bf (ρ':=stM ns a p (some (.int (one:Int))) (some (.int (other:Int))) (some (.lst .f ((lkN p s e).map D.str))) e7) ?_ (bf (ρ':=stM ns a p (some (.int (one:Int))) (some (.int (other:Int))) (some (.lst .f ((lkN p s e).map D.str))) (some (.lst .o ((lkN p s e).map D.str)))) ?_ (bf (dR (b:=!(decide ((((lkN p s e).length:Nat):Int)=(((lkN p s e).map D.str).length:Nat)))||false) ?_ ?_ rfl) (bf (ρ':=stM ns a p (some (.int (one:Int))) (some (.int (other:Int))) (some (.lst .f ((lkN p s e).map D.str))) (some (.lst .o ((lkN p s e).map D.str++[.str "r"])))) ?_ (dR (b:=false) ?_ rfl rfl)))))⟩
 ·exact cX (d:=.lst .o []) rfl (ntb rfl) (by show 6<9;decide)
 ·have tt:ft2 dGe (f2 dIx (f2 dIx (ac 1) (fC (.int 3))) (ac 5)) (f2 dIx (f2 dIx (ac 1) (fC (.int 2))) (ac 4)) (stM ns a p (some (.int (one:Int))) (some (.int (other:Int))) (some (.lst .f [])) e7)=.ok (decide ((s:Int)<=(e:Int))):=by unfold stM;(repeat' first|(with_reducible first|apply x1|apply x2)|sizeOf_list_dec)
  unfold lkN;by_cases h:s<=e
  ·rw[if_pos h]
   have al:=se a G (by decide) s (p.cols - 1) e h (by omega) he2;have al:cS a [p.d,.tup [.int 0,.int (s:Int)],.tup [.int ((((p.right.getD 0 []).map D.int).length:Nat):Int),.int (e:Int)]]=.ok (.lst .o ((cP p s ((p.cols - 1:Nat):Int) e (p.cols - 1+(e - s))).map D.str)):=by
    rw[fl,show (p.cols:Int) - 1=((p.cols - 1:Nat):Int) by omega];exact al
   have fz0:(D.tup [.int 0,.int (s:Int)]).fz=.tup [.int 0,.int (s:Int)]:=by rw[cM,ak,ak,aC,aw,aw]
   have fz1:∀ z:Int,(D.tup [.int z,.int (e:Int)]).fz=.tup [.int z,.int (e:Int)]:=fun z=>by rw[cM,ak,ak,aC,aw,aw]
   have fz2:=mI .o (cP p s ((p.cols - 1:Nat):Int) e (p.cols - 1+(e - s)));refine eZ tt (by simpa using h) ?_;unfold stM;(repeat' first|(with_reducible first|apply al|apply f0|apply fz0|apply fz1|apply x1|apply x2|apply fz2)|sizeOf_list_dec)
  ·rw[if_neg h]
   exact dR tt (by simpa using h) rfl
 ·unfold stM;(repeat' first|(with_reducible first|apply wk)|sizeOf_list_dec)
 ·have lt:=pj a (lkN p s e) (((lkN p s e).map D.str).length:Nat) (by omega)
  have fz2:=mI .b (lkN p s e);have hl:ao 2 (ce a) (aa (ac 7) (aa (fCB a7 (aa (ac 6) ag)) ag)) (stM ns a p (some (.int (one:Int))) (some (.int (other:Int))) (some (.lst .f ((lkN p s e).map D.str))) (some (.lst .o ((lkN p s e).map D.str))))=.ok (.bl (decide ((((lkN p s e).length:Nat):Int)=(((lkN p s e).map D.str).length:Nat)))):=by
   refine o4 (ds:=[.lst .b ((lkN p s e).map D.str),.int (((lkN p s e).map D.str).length:Nat)]) ?_ rfl ?_ lt (.inr rfl)
   ·unfold stM;(repeat' sizeOf_list_dec)
   ·rw[ak,ak,aC,fz2,aw]
  refine nD (hX (t_B hl)) (t_2 (x:=.lst .b ((lkN p s e).map D.str)) (y:=.lst .f ((lkN p s e).map D.str)) rfl rfl (lM _ _ _))
 ·simp
 ·refine qK (xs:=(lkN p s e).map D.str) (d:=.str "r") rfl rfl (ntb rfl) (by simp;omega) rfl
 ·refine t_2 (x:=.lst .o ((lkN p s e).map D.str)) (y:=.lst .f ((lkN p s e).map D.str)) ?_ rfl (lM _ _ _)
  unfold stM;(repeat' first|(with_reducible first|apply wk)|sizeOf_list_dec)
theorem mJ(a:Ads)(ns:List Int){p:Parts}(G:Good 5 4 p)(one:Nat)(h1:one<p.starts.length):∀ (n j:Nat) (e5 e6 e7:Option D),j+n=p.starts.length →
    ∃ e5' e6' e7',bN (au 5) (gbI a) ((List.range' j n).map fun (i:Nat)=>D.int (0+(i:Int))) (stM ns a p (some (.int (one:Int))) e5 e6 e7)=.nx (stM ns a p (some (.int (one:Int))) e5' e6' e7')
 | 0,j,e5,e6,e7,_=>⟨e5,e6,e7,rfl⟩
 |n+1,j,e5,e6,e7,h=>by
  obtain ⟨f6,f7,b⟩:=qu a ns G one j h1 (by omega) e6 e7;obtain ⟨e5',e6',e7',ih⟩:=mJ a ns G one h1 n (j+1) (some (.int (0+(j:Int)))) f6 f7 (by omega);refine ⟨e5',e6',e7',?_⟩;rw[List.range'_succ,List.map_cons];rw[Int.zero_add] at ih ⊢;exact bG (cU (by show 5<9;decide) rfl) b ih
theorem lO(n:Nat):aB 0 n=(List.range' 0 n).map fun (j:Nat)=>D.int (0+(j:Int)):=by rw[aB,List.range_eq_range']
theorem lP(a:Ads)(ns:List Int){p:Parts}(G:Good 5 4 p):∀ (n j:Nat) (e4 e5 e6 e7:Option D),j+n=p.starts.length →
    ∃ e4' e5' e6' e7',bN (au 4) (b9 (bz (aa (ac 3) ag)) (au 5) (gbI a)) ((List.range' j n).map fun (i:Nat)=>D.int (0+(i:Int))) (stM ns a p e4 e5 e6 e7)=.nx (stM ns a p e4' e5' e6' e7')
 | 0,j,e4,e5,e6,e7,_=>⟨e4,e5,e6,e7,rfl⟩
 |n+1,j,e4,e5,e6,e7,h=>by
  have w4:=(ia G).1;have el:=(ia G).2.1;obtain ⟨f5,f6,f7,b⟩:=mJ a ns G j (by omega) p.starts.length 0 e5 e6 e7 (by omega);obtain ⟨e4',e5',e6',e7',ih⟩:=lP a ns G n (j+1) (some (.int (0+(j:Int)))) f5 f6 f7 (by omega);refine ⟨e4',e5',e6',e7',?_⟩;rw[List.range'_succ,List.map_cons];rw[Int.zero_add] at ih ⊢
  refine bG (ρ1:=stM ns a p (some (.int (j:Int))) e5 e6 e7) (cU (by show 4<9;decide) rfl) (cZ (items:=aB 0 p.starts.length) (cA ?_ (by omega)) (by rw[lO];exact b)) ih;unfold stM;(repeat' sizeOf_list_dec)
theorem lQ(a:Ads)(p:Parts)(one other:Int)(h:¬ (0<=one/\one<p.starts.length)\/(0<=one/\one<p.starts.length/\¬ (0<=other/\other<p.ends.length))):cc a [bp a p,.int one,.int other]=.exc (.ref a.BadWalk):=by
 have l1:(p.starts.map D.int).length=p.starts.length:=List.length_map ..;have l2:(p.ends.map D.int).length=p.ends.length:=List.length_map ..;refine vx (ρ:=[some (bp a p),some (.int one),some (.int other),none,none,none,none,none]) rfl ?_;unfold jE
 refine uF (eZ (b:=!(decide ((0:Int)<=one)&&decide (one<((p.starts.map D.int).length:Nat))) || !(decide ((0:Int)<=other)&&decide (other<((p.ends.map D.int).length:Nat)))) ?_ (by rw[l1,l2];simp;omega) rfl);refine nD (hX (t_B (fK ?_ ?_ ?_))) (hX (t_B (fK ?_ ?_ ?_)))
 all_goals (repeat' first|(with_reducible first|apply gK|apply jO)|sizeOf_list_dec)
theorem mK(a:Ads){p:Parts}(one other:Int)(h:cc a [bp a p,.int one,.int other]=.exc (.ref a.BadWalk)):cf a [bp a p,.int one,.int other]=.ok (.bl true):=by
 refine fm (ρ:=[some (bp a p),some (.int one),some (.int other),none]) rfl ?_;unfold fI;refine gH (sk ?_);have hf:aa (ac 0) (aa (ac 1) (aa (ac 2) ag)) [some (bp a p),some (.int one),some (.int other),none]=.ok [bp a p,.int one,.int other]:=by (repeat' sizeOf_list_dec)
 have hz:D.fzs [bp a p,.int one,.int other]=[bp a p,.int one,.int other]:=by (repeat' first | (with_reducible exact Lw.aC) | (with_reducible apply Lw.nF) | (with_reducible first | exact Lw.aw _ | exact Lw.eL _ | exact Lw.kG _ | exact Lw.lx | exact Lw.jl _ | exact Lw.jg _ _ _ | exact Lw.nE _ | exact Lw.fL _ _ | exact Lw.df _ _ _))
 unfold bW;rw[rW (n:=3) hf rfl hz h,uj]
theorem main(a:Ads)(ns:List Int)(h:ns.length<=63):kF a [.scr ns]=.ok (.bl true):=by
 obtain ⟨p,G,d,hp,rfl⟩:=qk a ns 5 4 7 (by decide) (by decide) (by decide) (by decide);have hp:bK a [.scr ns,.int 5,.int 4,.int 7]=.ok p.d:=hp;have nt:=r6 a (by decide) (by decide) G;obtain ⟨w4,el,_,_,s1⟩:=ia G;have c8:aq a [.scr ns,.int 8]=.ok (.int (cell ns 8)):=jH a ns 8;have c9:aq a [.scr ns,.int 9]=.ok (.int (cell ns 9)):=jH a ns 9
 refine fm (ρ:=[some (.scr ns),none,none,none,none,none,none,none,none]) rfl ?_;unfold g_law
 refine bf (ρ':=[some (.scr ns),some p.d,none,none,none,none,none,none,none]) (by (repeat' first|(with_reducible first|apply hp)|sizeOf_list_dec)) (bf (ρ':=[some (.scr ns),some p.d,some (bp a p),none,none,none,none,none,none]) (by (repeat' first|(with_reducible first|apply nt)|sizeOf_list_dec)) (bf (ρ':=stM ns a p none none none none) ?_ ?_))
 ·unfold stM
  rw[show p.starts.length=(p.starts.map D.int).length from (List.length_map ..).symm];(repeat' sizeOf_list_dec)
 obtain ⟨e4,e5,e6,e7,lp⟩:=lP a ns G p.starts.length 0 none none none none (by omega);refine bf (cZ (items:=aB 0 p.starts.length) (cA (by unfold stM;(repeat' sizeOf_list_dec)) (by omega)) (by rw[lO];exact lp)) ?_;have m9:=dQ (cell ns 8) 9 (by decide);have m3:=dQ (cell ns 9) 3 (by decide);obtain ⟨k,hk,hk3⟩:∃ k:Nat,cell ns 9 % 3=(k:Int)/\k<3:=⟨(cell ns 9 % 3).toNat,by omega,by omega⟩
 rw[hk] at m3;have ix:∃ v:Int,dIx (.lst .o [.int (-1),.int ((p.starts.length:Nat):Int),.int (((p.starts.length:Nat):Int)+cell ns 8 % 9)]) (.int (k:Int))=.ok (.int v)/\¬ (0<=v/\v<p.starts.length):=by
  have:k=0\/k=1\/k=2:=by omega
  rcases this with rfl | rfl | rfl
  ·exact ⟨_,lG rfl,by omega⟩
  ·exact ⟨_,lG rfl,by omega⟩
  ·exact ⟨_,lG rfl,by omega⟩
 obtain ⟨v,hv,hv2⟩:=ix;have r1:=mK a v 0 (lQ a p v 0 (.inl hv2));have r2:=mK a 0 v (lQ a p 0 v (.inr ⟨Int.le_refl _,by show (0:Int)<_;omega,by rw[<- el];exact hv2⟩));refine bf (ρ':=[some (.scr ns),some p.d,some (bp a p),some (.int ((p.starts.length:Nat):Int)),e4,e5,e6,e7,some (.int v)]) ?_ ?_
 ·unfold stM;(repeat' first|(with_reducible first|apply c8|apply c9|apply m9|apply m3|apply hv)|sizeOf_list_dec)
 ·refine hZ (d:=.bl (true&&true)) (kI ?_ ?_) (ntb rfl)
  ·(repeat' first|(with_reducible first|apply r1)|sizeOf_list_dec)
  ·(repeat' first|(with_reducible first|apply r2)|sizeOf_list_dec)
end Lw
open PySem PySem.W PyProof.Rows
set_option maxRecDepth 100000 in
set_option maxHeartbeats 0 in
theorem PySem.Challenge.cw_lonewalks_k03_all_walks_holds : PySem.Challenge.rw_lonewalks_k03_all_walks.Holds := by
 w_on;o_law
 refine holds_open (q:=Lw.vw) (loose:=[]) (Xt:=Lw.khX) (XP:=XL Lw.vw []) (Yf:=Hook.obs (kHook Lw.khK Lw.nv (fun _=>by kernel_rfl))) (Ya:=Hook.val (kHook Lw.khK Lw.nv (fun _=>by kernel_rfl))) (YP:=Hook.says (kHook Lw.khK Lw.nv (fun _=>by kernel_rfl))) (N:=Lw.khN) Lw.left (Hook.of _) (Hook.keeps _) (fun s e=>xl_of s (Bool.and_eq_true_iff.mp e).1) XL.keeps (by rfl) (by rfl) (by rfl) (fun s e=>recFacts_of (Bool.and_eq_true_iff.mp e).2) (by rfl) (by assumption) (by decide +kernel) ⟨rfl,rfl,rfl,rfl,rfl,by decide +kernel⟩ ?hw ?hc
 case hw=>w_witness2
 k_fill;refine Mi.vi (l:=PySem.Challenge.rw_lonewalks_k03_all_walks) (n:=63) (k:=5) (x := "script") rfl (by decide) rfl ⟨rfl,by decide,by decide⟩ (fun w h Y=>PySem.W.kIn_of Y) ?F
 case F=>
  intro w mg fa h KX G hmg
  refine' Lw.uh Lw.main KX G hmg ?g_0 ?e_0 ?g_1 ?e_1 ?g_3 ?e_3 ?s_BadWalk_WalkError ?g_2 ?i_2 ?n_2 ?l_2 ?c_2 ?k_2 ?pg_2 ?hd_2 ?po_2 ?sa_2 ?mk_2 ?kc_2 ?na_Net_columns ?na_Net_ends ?na_Net_right ?na_Net_rows ?na_Net_starts ?na_Net_up ?U_15 ?U_16 ?U_14 ?U_19 ?U_18 ?U_21 ?U_20 ?U_5 ?U_6 ?U_10 ?U_12 ?U_8 ?U_7 ?U_11 ?U_4 ?U_13 ?U_9 ?g_law ?l_law ?c_law ?k_law ?b_all ?b_int ?b_isinstance ?b_len ?b_list ?b_max ?b_min ?b_range ?b_sorted ?b_str ?v_LETTERS ?v_MOST_SIDE ?v_MOST_WALKERS ?v_MOST_WEIGHT ?kt_list_NoneType ?kt_list_bool ?kt_list_int ?kt_list_str ?kt_list_list ?kt_list_tuple ?kt_list_dict ?kt_str_NoneType ?kt_str_bool ?kt_str_int ?kt_str_str ?kt_str_list ?kt_str_tuple ?kt_str_dict ?nl
  (case g_0=>k_is);(case e_0=>k_exc);(case g_1=>k_is);(case e_1=>k_exc);(case g_3=>k_is);(case e_3=>k_exc);(case s_BadWalk_WalkError=>kit_is);(case g_2=>k_is);(case i_2=>k_is);(case n_2=>k_is);(case l_2=>k_is);(case c_2=>k_is);(case k_2=>k_is);(case pg_2=>k_is);(case hd_2=>k_is);(case po_2=>k_is);(case sa_2=>k_is);(case mk_2=>k_is);(case kc_2=>k_is);(case na_Net_columns=>k_is)
  (case na_Net_ends=>k_is);(case na_Net_right=>k_is);(case na_Net_rows=>k_is);(case na_Net_starts=>k_is);(case na_Net_up=>k_is);(case U_15=>refine' Mi.bZ KX G ?_ ?_ ?_ ?_ (fun _ _ _ _ _ _=>Lw.ar1 fun _=>rfl)<;>try k_is);(case U_16=>refine' Mi.bZ KX G ?_ ?_ ?_ ?_ (fun _ _ _ _ _ _=>Lw.ar3 fun _ _ _=>rfl)<;>try k_is)
  (case U_14=>refine' Mi.bZ KX G ?_ ?_ ?_ ?_ (fun _ _ _ _ _ _=>Lw.ar2 fun _ _=>rfl)<;>try k_is);(case U_19=>refine' Mi.bZ KX G ?_ ?_ ?_ ?_ (fun _ _ _ _ _ _=>Lw.ar4 fun _ _ _ _=>rfl)<;>try k_is);(case U_18=>refine' Mi.bZ KX G ?_ ?_ ?_ ?_ (fun _ _ _ _ _ _=>Lw.ar3 fun _ _ _=>rfl)<;>try k_is);(case U_21=>refine' Mi.bZ KX G ?_ ?_ ?_ ?_ (fun _ _ _ _ _ _=>Lw.ar4 fun _ _ _ _=>rfl)<;>try k_is)
  (case U_20=>refine' Mi.bZ KX G ?_ ?_ ?_ ?_ (fun _ _ _ _ _ _=>Lw.ar3 fun _ _ _=>rfl)<;>try k_is);(case U_5=>refine' Mi.bZ KX G ?_ ?_ ?_ ?_ (fun _ _ _ _ _ _=>Lw.ar2 fun _ _=>rfl)<;>try k_is);(case U_6=>refine' Mi.bZ KX G ?_ ?_ ?_ ?_ (fun _ _ _ _ _ _=>Lw.ar3 fun _ _ _=>rfl)<;>try k_is);(case U_10=>refine' Mi.bZ KX G ?_ ?_ ?_ ?_ (fun _ _ _ _ _ _=>Lw.ar3 fun _ _ _=>rfl)<;>try k_is)
  (case U_12=>refine' Mi.bZ KX G ?_ ?_ ?_ ?_ (fun _ _ _ _ _ _=>Lw.ar3 fun _ _ _=>rfl)<;>try k_is);(case U_8=>refine' Mi.bZ KX G ?_ ?_ ?_ ?_ (fun _ _ _ _ _ _=>Lw.ar4 fun _ _ _ _=>rfl)<;>try k_is);(case U_7=>refine' Mi.bZ KX G ?_ ?_ ?_ ?_ (fun _ _ _ _ _ _=>Lw.ar1 fun _=>rfl)<;>try k_is);(case U_11=>refine' Mi.bZ KX G ?_ ?_ ?_ ?_ (fun _ _ _ _ _ _=>Lw.ar4 fun _ _ _ _=>rfl)<;>try k_is)
  (case U_4=>refine' Mi.bZ KX G ?_ ?_ ?_ ?_ (fun _ _ _ _ _ _=>Lw.ar3 fun _ _ _=>rfl)<;>try k_is);(case U_13=>refine' Mi.bZ KX G ?_ ?_ ?_ ?_ (fun _ _ _ _ _ _=>Lw.ar2 fun _ _=>rfl)<;>try k_is);(case U_9=>refine' Mi.bZ KX G ?_ ?_ ?_ ?_ (fun _ _ _ _ _ _=>Lw.ar3 fun _ _ _=>rfl)<;>try k_is);(case g_law=>k_is);(case l_law=>k_is);(case c_law=>k_is);(case k_law=>k_is);(case b_all=>k_is);(case b_int=>k_is)
  (case b_isinstance=>k_is);(case b_len=>k_is);(case b_list=>k_is);(case b_max=>k_is);(case b_min=>k_is);(case b_range=>k_is);(case b_sorted=>k_is);(case b_str=>k_is);(case v_LETTERS=>k_is);(case v_MOST_SIDE=>k_is);(case v_MOST_WALKERS=>k_is);(case v_MOST_WEIGHT=>k_is);(case kt_list_NoneType=>kit_is);(case kt_list_bool=>kit_is);(case kt_list_int=>kit_is);(case kt_list_str=>kit_is)
  (case kt_list_list=>kit_is);(case kt_list_tuple=>kit_is);(case kt_list_dict=>kit_is);(case kt_str_NoneType=>kit_is);(case kt_str_bool=>kit_is);(case kt_str_int=>kit_is);(case kt_str_str=>kit_is);(case kt_str_list=>kit_is);(case kt_str_tuple=>kit_is);(case kt_str_dict=>kit_is);(case nl=>(first | rfl | decide | (with_unfolding_all rfl)))
