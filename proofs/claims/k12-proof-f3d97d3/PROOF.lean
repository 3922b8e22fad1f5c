import PyProof.Rows.All
import Wide.All
import OpenK.AllK
import Wide.FinOn
import Lean
import PyProof.EqAt
import PyProof.EqKinds
import PyProof.TupleCall
import PySem.Challenge.RW_lonewalks_k12_whole_lone_weights
set_option Elab.async false
set_option linter.all false
set_option maxRecDepth 100000
noncomputable section
namespace L2
open PySem PySem.Spec PyProof.Rows
abbrev Key:=Sum Int Str
def kW:Key->Value->Bool
 | .inl k,v=>Value.isInt k v
 | .inr x,v=>Value.isStrOf x v
def DX(w:World):Key->Int
 | .inl k=>hashInt k
 | .inr x=>hashStr w x
theorem cV:∀ {k:Key} {v:Value},kW k v=true->(∃ i t,k=Sum.inl i/\v=Value.int i t)\/(∃ x t,k=Sum.inr x/\v=Value.str x t)
 | .inl i,v,h=>by
  obtain ⟨t,e⟩:=Value.isInt_shape (k:=i) (v:=v) h;exact .inl ⟨i,t,rfl,e⟩
 | .inr x,v,h=>by
  obtain ⟨t,e⟩:=Value.isStrOf_shape (x:=x) (v:=v) h;exact .inr ⟨x,t,rfl,e⟩
theorem uS(i:Int)(t:Tok):kW (.inl i) (.int i t)=true:=by simp[kW,Value.isInt]
theorem uT(x:Str)(t:Tok):kW (.inr x) (.str x t)=true:=by simp[kW,Value.isStrOf]
theorem AS(a b:Int):decide ((Sum.inl a:Key)=Sum.inl b)=(a == b):=by
 by_cases e:a=b
 ·subst e;simp
 ·have h:¬ (Sum.inl a:Key)=Sum.inl b:=fun q=>e (Sum.inl.inj q)
  rw[decide_eq_false h];exact (beq_eq_false_iff_ne.mpr e).symm
theorem AT(a b:Str):decide ((Sum.inr a:Key)=Sum.inr b)=decide (a=b):=by
 by_cases e:a=b
 ·subst e;simp
 ·have h:¬ (Sum.inr a:Key)=Sum.inr b:=fun q=>e (Sum.inr.inj q)
  rw[decide_eq_false h,decide_eq_false e]
theorem AU(a:Int)(b:Str):decide ((Sum.inl a:Key)=Sum.inr b)=false:=decide_eq_false (fun q=>nomatch q)
theorem AV(a:Str)(b:Int):decide ((Sum.inr a:Key)=Sum.inl b)=false:=decide_eq_false (fun q=>nomatch q)
def cQ(prog:Program)(w:World):PySem.KeyKind prog w Key where
 is:=kW
 hash:=DX w
 inj:=fun v a b ha hb=>by
  rcases cV ha with ⟨i,t,rfl,rfl⟩ | ⟨x,t,rfl,rfl⟩
  ·rcases cV hb with ⟨j,u,rfl,e⟩ | ⟨y,u,rfl,e⟩
   ·injection e with e1 _;rw[e1]
   ·exact nomatch e
  ·rcases cV hb with ⟨j,u,rfl,e⟩ | ⟨y,u,rfl,e⟩
   ·exact nomatch e
   ·injection e with e1 _;rw[e1]
 byValue:=fun k v h=>by
  rcases cV h with ⟨i,t,rfl,rfl⟩ | ⟨x,t,rfl,rfl⟩ <;> rfl
 pyHash:=fun hv h=>by
  rcases cV hv with ⟨i,t,rfl,rfl⟩ | ⟨x,t,rfl,rfl⟩
  ·exact wpAny_pyHash_int h
  ·exact wpAny_pyHash_str h
 eqBool:=fun hu hv h=>by
  rcases cV hu with ⟨i,t,rfl,rfl⟩ | ⟨x,t,rfl,rfl⟩
  ·rcases cV hv with ⟨j,u,rfl,rfl⟩ | ⟨y,u,rfl,rfl⟩
   ·rw[AS] at h;exact wpAny_eqBool_int h
   ·rw[AU] at h;exact SeqAt.EqAt.int_str i t y u _ _ _ _ h
  ·rcases cV hv with ⟨j,u,rfl,rfl⟩ | ⟨y,u,rfl,rfl⟩
   ·rw[AV] at h;exact SeqAt.EqAt.str_int x t j u _ _ _ _ h
   ·rw[AT] at h;exact wpAny_eqBool_str h
 «strs»:=fun k x t v h=>by
  rcases cV h with ⟨i,u,rfl,e⟩ | ⟨y,u,rfl,e⟩
  ·exact nomatch e
  ·injection e with e1 _
   subst e1
   cases v<;>rfl
theorem rL(prog:Program)(w:World)(i:Int)(t:Tok):(cQ prog w).is (.inl i) (.int i t)=true:=uS i t
theorem rM(prog:Program)(w:World)(x:Str)(t:Tok):(cQ prog w).is (.inr x) (.str x t)=true:=uT x t
inductive V where
 |non | bl (b:Bool) | int (i:Int) | str (x:Str) | byt (b:Array UInt8) | flt (b:UInt64) | ref (a:Addr) | ty (n:String)
 deriving DecidableEq
def RelV:V->Value->Prop
 | .non,u=>u=Value.none
 | .bl b,u=>u=Value.bool b
 | .int i,u=>∃ t,u=Value.int i t
 | .str x,u=>∃ t,u=Value.str x t
 | .byt b,u=>∃ t,u=Value.bytes b t
 | .flt b,u=>∃ t,u=Value.float b t
 | .ref a,u=>u=Value.ref a
 | .ty n,u=>u=Value.type n
abbrev Vals:List V->List Value->Prop:=Paired RelV
theorem Vals.length{xs:List V}{us:List Value}(r:Vals xs us):xs.length=us.length:=Paired.length r
theorem Vals.get:∀ {xs:List V} {us:List Value} {i:Nat} {x:V},Vals xs us->xs[i]?=some x->∃ u,us[i]?=some u/\RelV x u
 |_,_,_,_,.nil,e=>by simp at e
 |_,_,0,_,.cons r _,e=>by simp at e;subst e;exact ⟨_,rfl,r⟩
 |_,_,i+1,x,.cons _ t,e=>by
  obtain ⟨u,h1,h2⟩:=Vals.get (i:=i) (x:=x) t (by simpa using e);exact ⟨u,by simpa using h1,h2⟩
theorem Vals.append:∀ {xs ys:List V} {us ws:List Value},Vals xs us->Vals ys ws->Vals (xs++ys) (us++ws)
 |_,_,_,_,.nil,s=>s
 |_,_,_,_,.cons r t,s=>.cons r (Vals.append t s)
def RelO:Option V->Option Value->Prop
 |some v,some u=>RelV v u
 |none,none=>True
 |_,_=>False
def KV{κ:Type}:List (κ × V)->List (κ × Value)->Prop:=Paired fun (p:κ × V) (q:κ × Value)=>p.1=q.1/\RelV p.2 q.2
def kV:Key->V
 | .inl i=>.int i
 | .inr x=>.str x
inductive HO where
 |lst (xs:List V)
 |tup (xs:List V)
 |dK (kvs:List (Key × V)) | dT (kvs:List (List Key × V))
 |set (S:Int->Bool) (n:Nat)
 |ins (C dx:Addr) (fs:List (Str × V))
 |own (x:Addr)
 |xd (fs:List (Str × V))
 |met (f x:Addr)
 |rng (lo hi:Int)
 |frz (o:Obj) (u:HO)
 |tbl (ps:Array Value)
 |ext (φ:Heap->Prop)
abbrev Hp:=Addr->Option HO
def upd(H:Hp)(a:Addr)(o:HO):Hp:=fun b=>if b=a then some o else H b
theorem bP{H:Hp}{a:Addr}{o:HO}:upd H a o a=some o:=by unfold upd;rw[if_pos rfl]
theorem aR{H:Hp}{a b:Addr}{o:HO}(h:b≠a):upd H a o b=H b:=by unfold upd;rw[if_neg h]
theorem CZ{H:Hp}{a b:Addr}{o u:HO}(h:H a=some o)(h':H b=some u)(d:o≠u):a≠b:=by
 intro e;subst e;rw[h] at h';exact d (Option.some.inj h')
theorem bC{H:Hp}{a b:Addr}{o:HO}(h:H a=some o)(h':H b=none):a≠b:=by
 intro e;subst e;rw[h] at h';cases h'
section
variable (P:Program)(w:World)
def ObjOk(H:Hp)(h:Heap)(a:Addr):HO->Prop
 | .lst xs=>xs.length<=sizeLine/\∃ (its:List Value) (n:Nat),Vals xs its/\h.get? a=some { cls:=.type "list", data:=.seq its.toArray n }
 | .tup xs=>xs.length<=sizeLine/\∃ its:List Value,Vals xs its/\IsTup h a its.toArray
 | .dK kvs=>kvs.length<=sizeLine/\(a == sysModules)=false/\∃ vs,KV kvs vs/\h.DictOf (cQ P w) a vs
 | .dT kvs=>kvs.length<=sizeLine/\(a == sysModules)=false/\∃ xs:List (List Key × Addr × Value),
     Paired (fun (p:List Key × V) (q:List Key × Addr × Value)=>p.1=q.1/\H q.2.1=some (.tup (p.1.map kV))/\RelV p.2 q.2.2) kvs xs ∧
     ∃ o es ep,h.get? a=some o/\o.ExactDict/\o.data=.dict es ep/\es.toList=xs.map (entryOfKey (tupleKind (cQ P w)))/\(xs.map (·.1)).Nodup
 | .set S n=>h.SetOf (intKind P w) a S n
 | .ins C dx fs=>H dx=some (.own a)/\fs.length<=1000/\dx≠a/\h.get? a=some (PySem.W.instObj C dx) ∧
     ∃ mA,h.Ns1 dx mA/\(∀ f,RelO (fs.lookup f) (mA f))/\PySem.Within mA (fs.map (·.1))
 | .own _=>∃ o,h.get? a=some o
 | .xd fs=>∃ mA,h.Ns1 a mA/\∀ f,RelO (fs.lookup f) (mA f)
 | .rng lo hi=>∃ t u v,h.get? a=some { cls:=.type "range", data:=.fields #[.int lo t,.int hi u,.int 1 v] }
 | .frz o u=>h.get? a=some o/\ObjOk H h a u
 | .tbl ps=>h.get? a=some { cls:=.none,data:=.fields ps }
 | .met f x=>h.get? a=some (PySem.W.methodObj (.ref f) (.ref x))
 | .ext φ=>φ h/\(∃ o,h.get? a=some o)/\∀ h1 h2:Heap,φ h1->(∀ o,h1.get? a=some o->h2.get? a=some o)->φ h2
def HOk(H:Hp)(h:Heap):Prop:=∀ a o,H a=some o->ObjOk P w H h a o
end
section
variable {P:Program}{w:World}{H H':Hp}{h h':Heap}{a:Addr}{o:HO}
theorem ObjOk.lt(x:ObjOk P w H h a o):a<h.objs.size:=by
 cases o with
 |lst xs=>obtain ⟨_,_,_,_,e⟩:=x;exact Heap.lt_size e
 |tup xs=>obtain ⟨_,_,_,p⟩:=x;exact p.lt
 |dK kvs=>obtain ⟨_,_,_,_,o,_,_,e,_⟩:=x;exact Heap.lt_size e
 |dT kvs=>obtain ⟨_,_,_,_,o,_,_,e,_⟩:=x;exact Heap.lt_size e
 |set S n=>obtain ⟨o,_,_,_,e,_⟩:=x;exact Heap.lt_size e
 |ins C dx fs=>obtain ⟨_,_,_,e,_⟩:=x;exact Heap.lt_size e
 |own y=>obtain ⟨_,e⟩:=x;exact Heap.lt_size e
 |xd fs=>obtain ⟨_,⟨_,_,_,e,_⟩,_⟩:=x;exact Heap.lt_size e
 |rng lo hi=>obtain ⟨_,_,_,e⟩:=x;exact Heap.lt_size e
 |frz ob u=>obtain ⟨e,_⟩:=x;exact Heap.lt_size e
 |tbl ps=>exact Heap.lt_size (show h.get? a=some _ from x)
 |met f y=>exact Heap.lt_size (show h.get? a=some _ from x)
 |ext φ=>obtain ⟨_,⟨_,e⟩,_⟩:=x;exact Heap.lt_size e
theorem Paired.mapP{α β:Type}{F G:α->β->Prop}:∀ {l₁:List α} {l₂:List β},Paired F l₁ l₂->(∀ a b,F a b->G a b)->Paired G l₁ l₂
 |_,_,.nil,_=>.nil
 |_,_,.cons r t,f=>.cons (f _ _ r) (Paired.mapP t f)
theorem ObjOk.stay(x:ObjOk P w H h a o)(k:∀ b u,(b=a\/H b=some (.own a))->h.get? b=some u->h'.get? b=some u)
    (ho:∀ b,H b=some (.own a)->H' b=some (.own a)) (ht:∀ b xs,H b=some (.tup xs)->H' b=some (.tup xs)):ObjOk P w H' h' a o:=by
 induction o with
 |lst xs=>obtain ⟨z,its,n,r,e⟩:=x;exact ⟨z,its,n,r,k _ _ (.inl rfl) e⟩
 |tup xs=>obtain ⟨z,its,r,ob,e,c⟩:=x;exact ⟨z,its,r,ob,k _ _ (.inl rfl) e,c⟩
 |dK kvs=>obtain ⟨z,y,vs,r,ob,es,ep,e,c⟩:=x;exact ⟨z,y,vs,r,ob,es,ep,k _ _ (.inl rfl) e,c⟩
 |dT kvs=>
  obtain ⟨z,y,xs,r,ob,es,ep,e,c⟩:=x;exact ⟨z,y,xs,Paired.mapP r fun p q z=>⟨z.1,ht _ _ z.2.1,z.2.2⟩,ob,es,ep,k _ _ (.inl rfl) e,c⟩
 |set S n=>obtain ⟨ob,es,ep,t,e,c⟩:=x;exact ⟨ob,es,ep,t,k _ _ (.inl rfl) e,c⟩
 |ins C dx fs=>
  obtain ⟨d,z,ne,e,mA,⟨od,es,ep,e2,c⟩,r⟩:=x;exact ⟨ho _ d,z,ne,k _ _ (.inl rfl) e,mA,⟨od,es,ep,k _ _ (.inr d) e2,c⟩,r⟩
 |own y=>obtain ⟨ob,e⟩:=x;exact ⟨ob,k _ _ (.inl rfl) e⟩
 |xd fs=>obtain ⟨mA,⟨od,es,ep,e,c⟩,r⟩:=x;exact ⟨mA,⟨od,es,ep,k _ _ (.inl rfl) e,c⟩,r⟩
 |rng lo hi=>obtain ⟨t,u,v,e⟩:=x;exact ⟨t,u,v,k _ _ (.inl rfl) e⟩
 |frz ob u ih=>obtain ⟨e,q⟩:=x;exact ⟨k _ _ (.inl rfl) e,ih q⟩
 |tbl ps=>
  have e:h.get? a=some { cls:=.none,data:=.fields ps }:=x;show h'.get? a=some { cls:=.none,data:=.fields ps };exact k a _ (.inl rfl) e
 |met f y=>
  have e:h.get? a=some (PySem.W.methodObj (.ref f) (.ref y)):=x;show h'.get? a=some (PySem.W.methodObj (.ref f) (.ref y));exact k a _ (.inl rfl) e
 |ext φ=>obtain ⟨p,⟨o,e⟩,st⟩:=x;exact ⟨st _ _ p fun o q=>k _ _ (.inl rfl) q,⟨o,k _ _ (.inl rfl) e⟩,st⟩
theorem HOk.lt(x:HOk P w H h)(e:H a=some o):a<h.objs.size:=(x a o e).lt
theorem HOk.fresh(x:HOk P w H h)(e:h.objs.size<=a):H a=none:=by
 cases q:H a with
 |none=>rfl
 |some u=>exact absurd (Nat.lt_of_lt_of_le (x.lt q) e) (Nat.lt_irrefl _)
theorem HOk.kept(x:HOk P w H h)(k:∀ b u,h.get? b=some u->h'.get? b=some u):HOk P w H h':=fun a o e=>
 (x a o e).stay (fun b u _ q=>k b u q) (fun _ q=>q) fun _ _ q=>q
theorem HOk.laid(x:HOk P w H h)(k:∀ b u,h.get? b=some u->h'.get? b=some u)(hp:h.objs.size<=a)(new:ObjOk P w (upd H a o) h' a o):HOk P w (upd H a o) h':=fun b u e=>by
 have hn:=x.fresh hp;by_cases hb:b=a
 ·subst hb;rw[bP] at e;cases e;exact new
 ·rw[aR hb] at e
  exact (x b u e).stay (fun c v _ q=>k c v q) (fun c q=>by rw[aR (bC q hn)];exact q) fun c xs q=>by rw[aR (bC q hn)];exact q
end
def Rd(H:Hp)(a:Addr)(u:HO):Prop:=H a=some u\/∃ o,H a=some (.frz o u)
theorem Rd.ok{P:Program}{w:World}{H:Hp}{h:Heap}{a:Addr}{u:HO}(r:Rd H a u)(x:HOk P w H h):ObjOk P w H h a u:=by
 rcases r with r | ⟨o,r⟩
 ·exact x a u r
 ·obtain ⟨_,q⟩:=x a _ r
  exact q
def Mut:Option HO->Prop
 |some (.lst _)=>True
 |some (.dK _)=>True
 |some (.dT _)=>True
 |some (.set _ _)=>True
 |some (.ins _ _ _)=>True
 |some (.ext _)=>True
 |_=>False
section
variable {P:Program}{w:World}{H:Hp}{h h':Heap}{x e:Addr}{o':HO}
theorem HOk.write(ok:HOk P w H h)(mu:Mut (H x))(he:e=x\/H e=some (.own x))(k:∀ b u,b≠e->h.get? b=some u->h'.get? b=some u)(heo:∃ u,h'.get? e=some u)
    (new:ObjOk P w (upd H x o') h' x o'):HOk P w (upd H x o') h':=fun b u q=>by
 have nown:∀ c y,H c=some (.own y)->c≠x:=fun c y r z=>by subst z;rw[r] at mu;exact mu
 have ntup:∀ c xs,H c=some (.tup xs)->c≠x:=fun c xs r z=>by subst z;rw[r] at mu;exact mu
 by_cases hb:b=x
 ·subst hb;rw[bP] at q;cases q;exact new
 ·rw[aR hb] at q
  by_cases hbe:b=e
  ·have q':H b=some (.own x):=by
      rcases he with z | z
      ·exact absurd (hbe.trans z) hb
      ·rw[hbe];exact z
   rw[q] at q';cases q';obtain ⟨v,hv⟩:=heo;exact ⟨v,by rw[hbe];exact hv⟩
  ·refine (ok b u q).stay (fun c v hc r=>k c v ?_ r) (fun c r=>by rw[aR (nown c b r)];exact r) fun c xs r=>by rw[aR (ntup c xs r)];exact r
   rcases hc with rfl | hc
   ·exact hbe
   ·rintro rfl
    rcases he with z | z
    ·exact nown c b hc z
    ·rw[hc] at z;cases z;exact hb rfl
end
structure Un (fs ex:List Addr) (H H':Hp) (h h':Heap):Prop where
 keep:∀ b o,h.get? b=some o->H b=none->b∉fs->b∉ex->h'.get? b=some o
 slot:∀ b o,h.get? b=some o->H b=none->b∈fs->b∉ex->∃ sl,h'.get? b=some { o with slots:=sl }
 free:∀ b o,h.get? b=some o->H b=none->b∉ex->H' b=none
 there:∀ b o,h.get? b=some o->b∉ex->∃ o',h'.get? b=some o'
 tups:∀ b xs,H b=some (.tup xs)->H' b=some (.tup xs)
 frzs:∀ b o u,H b=some (.frz o u)->H' b=some (.frz o u)
 tbls:∀ b ps,H b=some (.tbl ps)->∃ more,H' b=some (.tbl (ps++more))
section
variable {fs fs' ex ex':List Addr}{H H1 H2:Hp}{h h1 h2 h':Heap}{a x e:Addr}{o:HO}
theorem Un.any(u:Un fs ex H H1 h h1){b:Addr}{ob:Obj}(q:h.get? b=some ob)(n:H b=none)(hx:b∉ex):∃ sl,h1.get? b=some { ob with slots:=sl }:=by
 by_cases hb:b∈fs
 ·exact u.slot b ob q n hb hx
 ·exact ⟨ob.slots,u.keep b ob q n hb hx⟩
theorem Un.trans(a:Un fs ex H H1 h h1)(b:Un fs ex H1 H2 h1 h2):Un fs ex H H2 h h2 where
 keep:=fun c ob q n hc hx=>b.keep c ob (a.keep c ob q n hc hx) (a.free c ob q n hx) hc hx
 slot:=fun c ob q n hc hx=>by
  obtain ⟨sl,e1⟩:=a.slot c ob q n hc hx;obtain ⟨sl',e2⟩:=b.slot c _ e1 (a.free c ob q n hx) hc hx;exact ⟨sl',e2⟩
 free:=fun c ob q n hx=>by
  obtain ⟨o',e1⟩:=a.there c ob q hx;exact b.free c o' e1 (a.free c ob q n hx) hx
 there:=fun c ob q hx=>by
  obtain ⟨o',e1⟩:=a.there c ob q hx;exact b.there c o' e1 hx
 tups:=fun c xs q=>b.tups c xs (a.tups c xs q);frzs:=fun c ob xs q=>b.frzs c ob xs (a.frzs c ob xs q);tbls:=fun c ps q=>by
  obtain ⟨m1,e1⟩:=a.tbls c ps q;obtain ⟨m2,e2⟩:=b.tbls c _ e1;exact ⟨m1++m2,by rw[e2,Array.append_assoc]⟩
theorem Un.kept(k:∀ b u,h.get? b=some u->h'.get? b=some u):Un fs ex H H h h':=
 ⟨fun b ob q _ _ _=>k b ob q,fun b ob q _ _ _=>⟨ob.slots,k b ob q⟩,fun _ _ _ n _=>n,fun b ob q _=>⟨ob,k b ob q⟩,fun _ _ q=>q,fun _ _ _ q=>q,fun _ ps q=>⟨#[],by rw[q];simp⟩⟩
theorem Un.refl:Un fs ex H H h h:=Un.kept fun _ _ q=>q
theorem Un.laid(k:∀ b u,h.get? b=some u->h'.get? b=some u)(hp:h.objs.size<=a)(hn:H a=none):Un fs ex H (upd H a o) h h' where
 keep:=fun b u q _ _ _=>k b u q
 slot:=fun b u q _ _ _=>⟨u.slots,k b u q⟩
 free:=fun b u q n _=>by rw[aR (Nat.ne_of_lt (Nat.lt_of_lt_of_le (Heap.lt_size q) hp))];exact n
 there:=fun b u q _=>⟨u,k b u q⟩
 tups:=fun b xs q=>by rw[aR (bC q hn)];exact q
 frzs:=fun b u xs q=>by rw[aR (bC q hn)];exact q
 tbls:=fun b ps q=>⟨#[],by rw[aR (bC q hn),q];simp⟩
theorem Un.write(mu:Mut (H x))(he:e=x\/H e=some (.own x))(k:∀ b u,b≠e->h.get? b=some u->h'.get? b=some u)(heo:∃ u,h'.get? e=some u):Un fs ex H (upd H x o) h h':=by
 have hx:∀ b,H b=none->b≠x:=fun b n z=>by subst z;rw[n] at mu;exact mu
 have hb:∀ b,H b=none->b≠e:=fun b n z=>by
  subst z;rcases he with r | r
  ·exact hx b n r
  ·rw[n] at r;cases r
 have hm:∀ b u,H b=some u->¬ Mut (some u)->b≠x:=fun b u q nm z=>by subst z;rw[q] at mu;exact nm mu
 refine ⟨fun b u q n _ _=>k b u (hb b n) q,fun b u q n _ _=>⟨u.slots,k b u (hb b n) q⟩,fun b u q n _=>by rw[aR (hx b n)];exact n,fun b u q _=>?_,
  fun b xs q=>by rw[aR (hm b _ q fun z=>z)];exact q,fun b u xs q=>by rw[aR (hm b _ q fun z=>z)];exact q,fun b ps q=>⟨#[],by rw[aR (hm b _ q fun z=>z),q];simp⟩⟩
 by_cases hbe:b=e
 ·subst hbe;exact heo
 ·exact ⟨u,k b u hbe q⟩
end
def trk(h:Heap)(H:Hp):List Addr:=(List.range h.objs.size).filter fun a=>(H a).isSome
def jD(h:Heap)(H:Hp):Heap:=PySem.W.hideAll h (trk h H)
theorem uU(h:Heap)(H:Hp):(jD h H).objs.size=h.objs.size:=PySem.W.hideAll_size _ _
theorem xk{h:Heap}{H:Hp}{b:Addr}{o:Obj}(e:h.get? b=some o)(n:H b=none):(jD h H).get? b=some o:=
 PySem.W.hideAll_get _ e fun hm=>by
  have q:(H b).isSome=true:=(List.mem_filter.mp hm).2;rw[n] at q;simp at q
theorem ze{h:Heap}{H:Hp}{b:Addr}{o:Obj}(e:(jD h H).get? b=some o):h.get? b=some o/\H b=none:=by
 have e':h.get? b=some o:=PySem.W.of_hideAll (trk h H) e;refine ⟨e',?_⟩
 cases q:H b with
 |none=>rfl
 |some x=>
  have hm:b∈trk h H:=List.mem_filter.mpr ⟨List.mem_range.mpr (Heap.lt_size e'),by simp[q]⟩;have z:(jD h H).get? b=none:=PySem.W.hideAll_none (trk h H) hm;rw[z] at e;cases e
def zf(g h:Heap)(L:Addr):List (Addr × Obj):=(List.range h.objs.size).filterMap fun a=>if a=L\/(g.get? a).isSome=true then none else (h.get? a).map fun o=>(a,o)
def rest(g h:Heap)(L d:Addr):List (Addr × Obj):=(zf g h L).filter fun p=>decide (p.1≠d)
structure Mod (K:PySem.W.Frag) (mg:Str->Option Value) (base:Heap):Prop where
 kin:K.In base
 glob:base.Ns mainGlobals mg
 blt:∃ mb,base.Ns builtinsNs mb/\∀ x:Str,x ≠ "__name__" -> mb x=bootBuiltins x
 nolimit:base.NoLimit
structure Cx where
 prog:Program
 w:World
 K:PySem.W.Frag
 mg:Str->Option Value
 base:Heap
 A:Around
 N:List Str
 s₀:Shared
 H₀:Hp
 env:Env
 outer:List Env
 stack:List Env
 ex:List Addr
 fn:Str->Bool
 calm:Bool
 pn:List (Addr × Obj)
 xe:Value->Shared->Prop
def frs(l:List Env):List Addr:=l.filterMap (·.frame)
abbrev Cx.fs(X:Cx):List Addr:=frs X.outer
def Vis(sc:Scope)(x:Str):Prop:=sc.names.lookup x=some .local\/sc.names.lookup x=some .cell\/sc.names.lookup x=some .free
def Loc(sc:Scope)(x:Str):Prop:=sc.names.lookup x=some .local\/sc.names.lookup x=some .cell
def DY(env:Env)(h:Heap)(m:Str->Option Value)(x:Str)(u:Value):Prop:=
 (env.kindOf x=some .local/\m x=some u)\/((env.kindOf x=some .cell\/env.kindOf x=some .free)/\∃ c,env.cells.lookup x=some c/\h.IsCell c (some u))
structure Cx.Ok (X:Cx):Prop where
 mod:Mod X.K X.mg X.base
 kind:X.env.scope.kind=.function
 glob:X.env.globals=mainGlobals
 blt:X.env.builtins=builtinsNs
 above:X.s₀.heap.objs.size<=X.env.locals
 inj:∀ x y c,X.env.cells.lookup x=some c->X.env.cells.lookup y=some c->x=y
 has:∀ x,(X.env.kindOf x=some .cell\/X.env.kindOf x=some .free)->∃ c,X.env.cells.lookup x=some c
 cab:∀ x c,X.fn x=true->X.env.cells.lookup x=some c->X.s₀.heap.objs.size<=c
 hd:X.calm=true->X.A.handled=none
 frames:X.A.frames=some X.stack
 stk:X.stack=X.outer\/(X.stack=X.env::X.outer/\X.env.frame=some X.env.locals)
 exf:∀ b∈X.ex,b≠X.env.locals/\∀ x c,X.env.cells.lookup x=some c->c≠b
 bs:∀ b o,X.base.get? b=some o->X.s₀.heap.get? b=some o/\X.H₀ b=none
 bsz:X.base.objs.size<=X.s₀.heap.objs.size
 noex:∀ b o,X.base.get? b=some o->b∉X.ex
 exfs:∀ b∈X.ex,b∉X.fs
 funs:X.s₀.heap.FunFrames X.base X.outer
 frf:∀ b∈X.fs,X.H₀ b=none
structure Inv (X:Cx) (pins:List (Addr × Obj)) (σ:List (Option V)) (H:Hp) (s:Shared):Prop where
 ok:X.Ok
 os:s.os=X.s₀.os
 bare:AllBare s.gens
 base:Un X.fs X.ex X.H₀ H X.s₀.heap s.heap
 loc:∃ m,s.heap.Ns X.env.locals m/\∀ (i:Nat) (x:Str) (v:V),X.N[i]?=some x->σ[i]?=some (some v)->Vis X.env.scope x->∃ u,RelV v u/\DY X.env s.heap m x u
 cell:∀ x c,X.env.cells.lookup x=some c->∃ v,s.heap.IsCell c v
 free:H X.env.locals=none
 freeC:∀ x c,X.env.cells.lookup x=some c->H c=none
 pin:∀ p∈X.pn++pins,s.heap.get? p.1=some p.2/\H p.1=none/\p.1≠X.env.locals/\p.1∉X.fs/\∀ v,p.2.data≠.cell v
 hok:HOk X.prog X.w H s.heap
 len:σ.length=X.N.length
section
variable {X:Cx}{pins:List (Addr × Obj)}{σ:List (Option V)}{H H':Hp}{s:Shared}{h':Heap}
theorem Cx.Ok.nofr(ok:X.Ok){b:Addr}{o:Obj}(e:X.base.get? b=some o):b∉X.fs:=fun hb=>by
 have:=(ok.funs.mem hb).1;rw[e] at this;cases this
theorem Inv.bs(I:Inv X pins σ H s):∀ b o,X.base.get? b=some o->s.heap.get? b=some o/\H b=none:=fun b o e=>
 ⟨I.base.keep b o (I.ok.bs b o e).1 (I.ok.bs b o e).2 (I.ok.nofr e) (I.ok.noex b o e),I.base.free b o (I.ok.bs b o e).1 (I.ok.bs b o e).2 (I.ok.noex b o e)⟩
theorem Inv.bk(I:Inv X pins σ H s):∀ b o,X.base.get? b=some o->s.heap.get? b=some o:=fun b o e=>(I.bs b o e).1
theorem Inv.mod(I:Inv X pins σ H s):Mod X.K X.mg X.base:=I.ok.mod
theorem Inv.kIn(I:Inv X pins σ H s):X.K.In s.heap:=I.ok.mod.kin.keeps I.bk
theorem Inv.lt(I:Inv X pins σ H s):X.env.locals<s.heap.objs.size:=let ⟨_,hn,_⟩:=I.loc;hn.lt
theorem Inv.sz(I:Inv X pins σ H s):X.s₀.heap.objs.size<=s.heap.objs.size:=Nat.le_trans I.ok.above (Nat.le_of_lt I.lt)
theorem Inv.nofs(I:Inv X pins σ H s){a:Addr}(h:s.heap.objs.size<=a):a∉X.fs:=fun hb=>by
 obtain ⟨_,o,ho,_⟩:=I.ok.funs.mem hb;exact absurd (Nat.lt_of_lt_of_le (Heap.lt_size ho) (Nat.le_trans I.sz h)) (Nat.lt_irrefl _)
theorem Inv.cne(I:Inv X pins σ H s):∀ x c,X.env.cells.lookup x=some c->c≠X.env.locals:=fun x c e z=>by
 obtain ⟨v,o,ho,hd⟩:=I.cell x c e;obtain ⟨m,⟨o',es,ep,ho',hd',_⟩,_⟩:=I.loc;rw[z,ho'] at ho;cases ho;rw[hd'] at hd;cases hd
theorem Inv.funs(I:Inv X pins σ H s):s.heap.FunFrames X.base X.outer:=by
 have all:∀ (l:List Env),(∀ b∈frs l,b∈X.fs)->X.s₀.heap.FunFrames X.base l->s.heap.FunFrames X.base l:=by
  intro l;induction l with
  |nil=>intro _ _;trivial
  |cons env r ih=>
   intro hs hl;obtain ⟨hk,⟨L,o,hf,hn,ho,hd⟩,hr⟩:=hl;have hL:L∈X.fs:=hs L (by unfold frs;rw[List.filterMap_cons,hf];exact List.mem_cons_self);obtain ⟨sl,e⟩:=I.base.slot L o ho (I.ok.frf L hL) hL fun z=>I.ok.exfs L z hL;exact ⟨hk,⟨L,_,hf,hn,e,hd⟩,ih (fun b hb=>hs b (by unfold frs;rw[List.filterMap_cons,hf];exact List.mem_cons_of_mem _ hb)) hr⟩
 exact all X.outer (fun _ hb=>hb) I.ok.funs
theorem Inv.stack(I:Inv X pins σ H s):s.heap.FunFrames X.base X.stack:=by
 rcases I.ok.stk with e | ⟨e,hf⟩
 ·rw[e];exact I.funs
 ·rw[e]
  obtain ⟨m,hn,_⟩:=I.loc;refine .cons (by rw[I.ok.kind];decide) hf hn ?_ I.funs;exact Heap.get?_none_of_le (Nat.le_trans I.ok.bsz I.ok.above)
theorem Inv.stkSub(I:Inv X pins σ H s):∀ b∈frs X.stack,b∈X.env.locals::X.fs:=fun b hb=>by
 rcases I.ok.stk with e | ⟨e,hf⟩
 ·rw[e] at hb;exact List.mem_cons_of_mem _ hb
 ·rw[e] at hb
  unfold frs at hb;rw[List.filterMap_cons,hf] at hb;exact hb
theorem Inv.stkFree(I:Inv X pins σ H s):∀ b∈frs X.stack,H b=none:=fun b hb=>by
 rcases List.mem_cons.mp (I.stkSub b hb) with e | hb
 ·rw[e];exact I.free
 ·obtain ⟨_,o,ho,_⟩:=I.ok.funs.mem hb
  exact I.base.free b o ho (I.ok.frf b hb) fun z=>I.ok.exfs b z hb
theorem Inv.step{g':Array GenState}{t':Nat}{d':Drawn}{ch:List Addr}(I:Inv X pins σ H s)
    (hch:∀ b∈ch,(b∈X.ex\/X.s₀.heap.objs.size<=b)/\b≠X.env.locals/\(∀ x c,X.env.cells.lookup x=some c->c≠b)/\∀ p∈X.pn++pins,p.1≠b)
    (keep:∀ b o,b≠X.env.locals->b∉X.fs->b∉ch->s.heap.get? b=some o->H b=none->h'.get? b=some o)
    (slot:∀ b o,b≠X.env.locals->b∈X.fs->b∉ch->s.heap.get? b=some o->H b=none->∃ sl,h'.get? b=some { o with slots:=sl }) (free:∀ b o,b∉ch->s.heap.get? b=some o->H b=none->H' b=none)
    (there:∀ b o,b∉ch->s.heap.get? b=some o->∃ o',h'.get? b=some o')
    (tups:∀ b xs,H b=some (.tup xs)->H' b=some (.tup xs)) (frzs:∀ b o u,H b=some (.frz o u)->H' b=some (.frz o u)) (tbls:∀ b ps,H b=some (.tbl ps)->∃ more,H' b=some (.tbl (ps++more)))
    (ns:∀ m,s.heap.Ns X.env.locals m->h'.Ns X.env.locals m) (hok:HOk X.prog X.w H' h') (hg:AllBare g') :
    Inv X pins σ H' { s with heap:=h',gens:=g',drawn:=d',toks:=t' }:=by
 have neL:∀ b o,X.s₀.heap.get? b=some o->b≠X.env.locals:=fun b o e=>Nat.ne_of_lt (Nat.lt_of_lt_of_le (Heap.lt_size e) I.ok.above);have neC:∀ b o,X.s₀.heap.get? b=some o->b∉X.ex->b∉ch:=fun b o e hx hb=>by
  rcases (hch b hb).1 with z | z
  ·exact hx z
  ·exact absurd (Nat.lt_of_lt_of_le (Heap.lt_size e) z) (Nat.lt_irrefl _)
 have cellK:∀ x c,X.env.cells.lookup x=some c->∀ v,s.heap.IsCell c v->h'.IsCell c v:=fun x c e v ⟨o,ho,hd⟩=>by
  have nch:c∉ch:=fun z=>(hch c z).2.2.1 x c e rfl;by_cases hc:c∈X.fs
  ·obtain ⟨sl,q⟩:=slot c o (I.cne x c e) hc nch ho (I.freeC x c e)
   exact ⟨_,q,hd⟩
  ·exact ⟨o,keep c o (I.cne x c e) hc nch ho (I.freeC x c e),hd⟩
 refine ⟨I.ok,I.os,hg,⟨fun b o e n hb hx=>?_,fun b o e n hb hx=>?_,fun b o e n hx=>?_,fun b o e hx=>?_,fun b xs e=>tups b xs (I.base.tups b xs e),fun b o xs e=>frzs b o xs (I.base.frzs b o xs e),fun b ps e=>?_⟩,?_,fun x c e=>?_,?_,fun x c e=>?_,fun p hp=>?_,hok,I.len⟩
 ·exact keep b o (neL b o e) hb (neC b o e hx) (I.base.keep b o e n hb hx) (I.base.free b o e n hx)
 ·obtain ⟨sl,e1⟩:=I.base.slot b o e n hb hx
  obtain ⟨sl',e2⟩:=slot b _ (neL b o e) hb (neC b o e hx) e1 (I.base.free b o e n hx);exact ⟨sl',e2⟩
 ·obtain ⟨o',e1⟩:=I.base.there b o e hx
  exact free b o' (neC b o e hx) e1 (I.base.free b o e n hx)
 ·obtain ⟨o',e1⟩:=I.base.there b o e hx
  exact there b o' (neC b o e hx) e1
 ·obtain ⟨m1,e1⟩:=I.base.tbls b ps e
  obtain ⟨m2,e2⟩:=tbls b _ e1;exact ⟨m1++m2,by rw[e2,Array.append_assoc]⟩
 ·obtain ⟨m,hn,hl⟩:=I.loc
  refine ⟨m,ns m hn,fun i x v e1 e2 e3=>?_⟩;obtain ⟨u,r,l⟩:=hl i x v e1 e2 e3;refine ⟨u,r,?_⟩;rcases l with l | ⟨k,c,e,z⟩
  ·exact .inl l
  ·exact .inr ⟨k,c,e,cellK x c e _ z⟩
 ·obtain ⟨v,z⟩:=I.cell x c e
  exact ⟨v,cellK x c e v z⟩
 ·obtain ⟨m,⟨o,_,_,ho,_⟩,_⟩:=I.loc
  exact free _ o (fun z=>(hch _ z).2.1 rfl) ho I.free
 ·obtain ⟨v,o,ho,hd⟩:=I.cell x c e
  exact free c o (fun z=>(hch c z).2.2.1 x c e rfl) ho (I.freeC x c e)
 ·obtain ⟨e,n,ne,nf,d⟩:=I.pin p hp
  have nch:p.1∉ch:=fun z=>(hch p.1 z).2.2.2 p hp rfl;exact ⟨keep p.1 p.2 ne nf nch e n,free p.1 p.2 nch e n,ne,nf,d⟩
theorem Inv.un{t':Nat}(I:Inv X pins σ H s)(u:Un X.fs [] H H' s.heap h')(hok:HOk X.prog X.w H' h'):Inv X pins σ H' { s with heap:=h',toks:=t' }:=by
 obtain ⟨m,⟨o,es,ep,ho,r⟩,_⟩:=id I.loc;obtain ⟨sl,hL⟩:=u.any ho I.free (by simp);exact I.step (g':=s.gens) (d':=s.drawn) (ch:=[]) (fun _ z=>nomatch z) (fun b o _ hb _ e n=>u.keep b o e n hb (by simp)) (fun b o _ hb _ e n=>u.slot b o e n hb (by simp)) (fun b o _ e n=>u.free b o e n (by simp)) (fun b o _ e=>u.there b o e (by simp)) u.tups u.frzs u.tbls (fun m' hm=>by
  obtain ⟨o',es',ep',ho',r'⟩:=hm
  rw[ho] at ho';cases ho'
  exact ⟨_,es',ep',hL,r'⟩) hok I.bare
theorem Inv.call{g':Array GenState}{t':Nat}{d':Drawn}{ch:List Addr}(I:Inv X pins σ H s)(u:Un (frs X.stack) ch H H' s.heap h')(hok:HOk X.prog X.w H' h')(hg:AllBare g')
    (hch:∀ b∈ch,(b∈X.ex\/X.s₀.heap.objs.size<=b)/\b≠X.env.locals/\(∀ x c,X.env.cells.lookup x=some c->c≠b)/\∀ p∈X.pn++pins,p.1≠b) :
    Inv X pins σ H' { s with heap:=h',gens:=g',drawn:=d',toks:=t' }:=by
 obtain ⟨m,⟨o,es,ep,ho,r⟩,_⟩:=id I.loc;obtain ⟨sl,hL⟩:=u.any ho I.free fun z=>(hch _ z).2.1 rfl;exact I.step (ch:=ch) hch (fun b o hL hb hc e n=>u.keep b o e n (fun z=>(List.mem_cons.mp (I.stkSub b z)).elim hL hb) hc) (fun b o _ _ hc e n=>u.any e n hc) (fun b o hc e n=>u.free b o e n hc) (fun b o hc e=>u.there b o e hc) u.tups u.frzs u.tbls (fun m' hm=>by
  obtain ⟨o',es',ep',ho',r'⟩:=hm
  rw[ho] at ho';cases ho'
  exact ⟨_,es',ep',hL,r'⟩) hok hg
theorem Inv.turned{t':Nat}{it:Addr}(I:Inv X pins σ H s)(k:∀ b o,b≠it->s.heap.get? b=some o->h'.get? b=some o)(hn:H it=none)(hL:it≠X.env.locals)
    (h1:it∈X.ex\/X.s₀.heap.objs.size<=it) (h2:∀ x c,X.env.cells.lookup x=some c->c≠it) (h3:∀ p∈X.pn++pins,p.1≠it):Inv X pins σ H { s with heap:=h',toks:=t' }:=by
 have nit:∀ b u,H b=some u->b≠it:=fun b u e z=>by rw[z,hn] at e;cases e
 refine I.step (g':=s.gens) (d':=s.drawn) (ch:=[it]) (fun b hb=>?_) (fun b o _ _ hc e _=>k b o (fun z=>hc (by simp[z])) e) (fun b o _ _ hc e _=>⟨o.slots,k b o (fun z=>hc (by simp[z])) e⟩) (fun _ _ _ _ n=>n)
  (fun b o hc e=>⟨o,k b o (fun z=>hc (by simp[z])) e⟩) (fun _ _ e=>e) (fun _ _ _ e=>e) (fun b ps e=>⟨#[],by rw[e];simp⟩) (fun m hm=>?_) (fun b u e=>?_) I.bare
 ·have e:b=it:=by simpa using hb
  subst e;exact ⟨h1,hL,h2,h3⟩
 ·obtain ⟨o,es,ep,ho,r⟩:=hm
  exact ⟨o,es,ep,k _ o (Ne.symm hL) ho,r⟩
 ·refine (I.hok b u e).stay (fun c v hc q=>k c v ?_ q) (fun _ q=>q) fun _ _ q=>q
  rcases hc with z | z
  ·rw[z];exact nit b u e
  ·exact nit c _ z
theorem Inv.tok(I:Inv X pins σ H s)(t:Nat):Inv X pins σ H { s with toks:=t }:=I.un (h':=s.heap) (t':=t) Un.refl I.hok
theorem Inv.kept{t':Nat}(I:Inv X pins σ H s)(k:∀ b u,s.heap.get? b=some u->h'.get? b=some u):Inv X pins σ H { s with heap:=h',toks:=t' }:=I.un (Un.kept k) (I.hok.kept k)
theorem Inv.laid{a:Addr}{o:HO}{t':Nat}(I:Inv X pins σ H s)(k:∀ b u,s.heap.get? b=some u->h'.get? b=some u)(hp:s.heap.objs.size<=a)(new:ObjOk X.prog X.w (upd H a o) h' a o) :
    Inv X pins σ (upd H a o) { s with heap:=h',toks:=t' }:=I.un (Un.laid k hp (I.hok.fresh hp)) (I.hok.laid k hp new)
theorem Inv.write{x e:Addr}{o:HO}{t':Nat}(I:Inv X pins σ H s)(mu:Mut (H x))(he:e=x\/H e=some (.own x))(k:∀ b u,b≠e->s.heap.get? b=some u->h'.get? b=some u)(heo:∃ u,h'.get? e=some u)
    (new:ObjOk X.prog X.w (upd H x o) h' x o):Inv X pins σ (upd H x o) { s with heap:=h',toks:=t' }:=I.un (Un.write mu he k heo) (I.hok.write mu he k heo new)
theorem Inv.pins_of{pins':List (Addr × Obj)}(I:Inv X pins σ H s)(h:∀ p∈pins',s.heap.get? p.1=some p.2/\H p.1=none/\p.1≠X.env.locals/\p.1∉X.fs/\∀ v,p.2.data≠.cell v):Inv X pins' σ H s:=
 ⟨I.ok,I.os,I.bare,I.base,I.loc,I.cell,I.free,I.freeC,fun p hp=>(List.mem_append.mp hp).elim (fun z=>I.pin p (List.mem_append_left _ z)) (h p),I.hok,I.len⟩
theorem pQ{N:List Str}(hN:N.Nodup){i j:Nat}{x:Str}(a:N[i]?=some x)(b:N[j]?=some x):i=j:=by
 obtain ⟨h1,e1⟩:=List.getElem?_eq_some_iff.mp a;obtain ⟨h2,e2⟩:=List.getElem?_eq_some_iff.mp b;exact (List.getElem_inj hN).mp (e1.trans e2.symm)
theorem oB{M:Model}{A:Around}{E:Value->Shared->Prop}{i:Nat}{x:Str}{v:V}{u:Value}{Q:Unit->Shared->Prop}(I:Inv X pins σ H s)(hN:X.N.Nodup)(hi:X.N[i]?=some x)(hx:Loc X.env.scope x)(r:RelV v u)
    (h:∀ s',Inv X pins (σ.set i (some v)) H s'->(∃ a,Heap.SameBut a s.heap s'.heap/\(a=X.env.locals\/X.env.cells.lookup x=some a))->Q () s') (hf:X.fn x=true\/X.env.scope.names.lookup x=some .local:=by first | exact .inl rfl | exact .inr rfl | assumption):wpAny M A (storeName X.env x u) Q E s:=by
 obtain ⟨m,hn,hl⟩:=id I.loc;have hcls:(X.env.scope.kind == .class||(X.env.scope.kind == .module&&X.env.locals != X.env.globals))=false:=by rw[I.ok.kind];rfl
 have hiσ:i<σ.length:=by rw[I.len];exact (List.getElem?_eq_some_iff.mp hi).1
 have cne:=I.cne;have tracked:∀ {a:Addr} {h':Heap},(∃ o,s.heap.get? a=some o/\H a=none)->Heap.SameBut a s.heap h'->HOk X.prog X.w H h':=fun {a h'} ha hs b ob e=>by
  obtain ⟨_,_,hfree⟩:=ha;refine (I.hok b ob e).stay (fun c w' hc q=>(hs.2 c ?_).trans q) (fun _ q=>q) fun _ _ q=>q;rintro rfl;rcases hc with rfl | hc
  ·rw[hfree] at e;cases e
  ·rw[hfree] at hc;cases hc
 rcases hx with hk | hk
 ·refine wpAny_storeName_local hk hn (fun h' hn' hs=>?_) hcls
  obtain ⟨oL,_,_,hoL,_⟩:=id hn;refine h _ ⟨I.ok,I.os,I.bare,⟨fun b o e n hb hx=>?_,fun b o e n hb hx=>?_,I.base.free,fun b o e hx=>?_,I.base.tups,I.base.frzs,I.base.tbls⟩,⟨_,hn',fun j y v' e1 e2 e3=>?_⟩,fun y c e=>?_,I.free,I.freeC,fun p hp=>?_,tracked ⟨oL,hoL,I.free⟩ hs,by simpa using I.len⟩ ⟨_,hs,.inl rfl⟩
  ·exact (hs.2 b (Nat.ne_of_lt (Nat.lt_of_lt_of_le (Heap.lt_size e) I.ok.above))).trans (I.base.keep b o e n hb hx)
  ·obtain ⟨sl,e1⟩:=I.base.slot b o e n hb hx
   exact ⟨sl,(hs.2 b (Nat.ne_of_lt (Nat.lt_of_lt_of_le (Heap.lt_size e) I.ok.above))).trans e1⟩
  ·obtain ⟨o',e1⟩:=I.base.there b o e hx
   exact ⟨o',(hs.2 b (Nat.ne_of_lt (Nat.lt_of_lt_of_le (Heap.lt_size e) I.ok.above))).trans e1⟩
  ·by_cases hj:j=i
   ·subst hj
    rw[hi] at e1;cases e1;rw[List.getElem?_set_self hiσ] at e2
    cases e2
    exact ⟨u,r,.inl ⟨hk,by simp⟩⟩
   ·rw[List.getElem?_set_ne (Ne.symm hj)] at e2
    obtain ⟨u',r',q⟩:=hl j y v' e1 e2 e3;refine ⟨u',r',?_⟩;rcases q with ⟨k,e⟩ | ⟨k,c,e,z⟩
    ·refine .inl ⟨k,?_⟩
     have:y≠x:=fun e=>hj (pQ hN e1 (e ▸ hi));simp[this,e]
    ·exact .inr ⟨k,c,e,z.sameBut hs (cne y c e)⟩
  ·obtain ⟨w',z⟩:=I.cell y c e
   exact ⟨w',z.sameBut hs (cne y c e)⟩
  ·obtain ⟨e,n,ne,nf,d⟩:=I.pin p hp
   exact ⟨(hs.2 p.1 ne).trans e,n,ne,nf,d⟩
 ·have hfn:X.fn x=true:=by
     rcases hf with z | z
     ·exact z
     ·rw[z] at hk;cases hk
  obtain ⟨c,hc⟩:=I.ok.has x (.inl hk);obtain ⟨w',z⟩:=I.cell x c hc;refine wpAny_storeName_cell I.ok.kind hk hc z (fun h' hc' hs=>?_);obtain ⟨oc,hoc,hocd⟩:=id z
  refine h { s with heap:=h' } ⟨I.ok,I.os,I.bare,⟨fun b o e n hb hx=>?_,fun b o e n hb hx=>?_,I.base.free,fun b o e hx=>?_,I.base.tups,I.base.frzs,I.base.tbls⟩,⟨m,hn.sameBut hs (Ne.symm (cne x c hc)),fun j y v' e1 e2 e3=>?_⟩,fun y c' e=>?_,I.free,I.freeC,fun p hp=>?_,tracked ⟨oc,hoc,I.freeC x c hc⟩ hs,by simpa using I.len⟩ ⟨c,hs,.inr hc⟩
  ·exact (hs.2 b (Nat.ne_of_lt (Nat.lt_of_lt_of_le (Heap.lt_size e) (I.ok.cab x c hfn hc)))).trans (I.base.keep b o e n hb hx)
  ·obtain ⟨sl,e1⟩:=I.base.slot b o e n hb hx
   exact ⟨sl,(hs.2 b (Nat.ne_of_lt (Nat.lt_of_lt_of_le (Heap.lt_size e) (I.ok.cab x c hfn hc)))).trans e1⟩
  ·obtain ⟨o',e1⟩:=I.base.there b o e hx
   exact ⟨o',(hs.2 b (Nat.ne_of_lt (Nat.lt_of_lt_of_le (Heap.lt_size e) (I.ok.cab x c hfn hc)))).trans e1⟩
  ·by_cases hj:j=i
   ·subst hj
    rw[hi] at e1;cases e1;rw[List.getElem?_set_self hiσ] at e2
    cases e2
    exact ⟨u,r,.inr ⟨.inl hk,c,hc,hc'⟩⟩
   ·rw[List.getElem?_set_ne (Ne.symm hj)] at e2
    obtain ⟨u',r',q⟩:=hl j y v' e1 e2 e3;refine ⟨u',r',?_⟩;rcases q with q | ⟨k,c',e,z'⟩
    ·exact .inl q
    ·refine .inr ⟨k,c',e,z'.sameBut hs ?_⟩
     rintro rfl;exact hj (pQ hN e1 (I.ok.inj _ _ _ e hc ▸ hi))
  ·by_cases hcc:c'=c
   ·subst hcc;exact ⟨_,hc'⟩
   ·obtain ⟨w2,z2⟩:=I.cell y c' e
    exact ⟨w2,z2.sameBut hs hcc⟩
  ·obtain ⟨e,n,ne,nf,d⟩:=I.pin p hp
   refine ⟨(hs.2 p.1 ?_).trans e,n,ne,nf,d⟩;intro q;rw[q,hoc] at e;have q':oc=p.2:=Option.some.inj e;exact d w' (by rw[<- q'];exact hocd)
theorem jE{M:Model}{A:Around}{E:Value->Shared->Prop}{i:Nat}{x:Str}{v:V}{u:Value}{Q:Unit->Shared->Prop}(I:Inv X pins σ H s)(hN:X.N.Nodup)(hi:X.N[i]?=some x)(hx:Loc X.env.scope x)(r:RelV v u)
    (h:∀ s',Inv X pins (σ.set i (some v)) H s'->Q () s') (hf:X.fn x=true\/X.env.scope.names.lookup x=some .local:=by first | exact .inl rfl | exact .inr rfl | assumption):wpAny M A (storeName X.env x u) Q E s:=
 oB I hN hi hx r (fun s' I' _=>h s' I') hf
theorem Inv.call'{s':Shared}{ch:List Addr}(I:Inv X pins σ H s)(ho:s'.os=s.os)(u:Un (frs X.stack) ch H H' s.heap s'.heap)(hok:HOk X.prog X.w H' s'.heap)(hg:AllBare s'.gens)
    (hch:∀ b∈ch,(b∈X.ex\/X.s₀.heap.objs.size<=b)/\b≠X.env.locals/\(∀ x c,X.env.cells.lookup x=some c->c≠b)/\∀ p∈X.pn++pins,p.1≠b):Inv X pins σ H' s':=by
 obtain ⟨h',g',d',t',o'⟩:=s';have e:o'=s.os:=ho;subst e;exact I.call (g':=g') (t':=t') (d':=d') u hok hg hch
end
abbrev XK:=Value->Option Addr->Hp->Prop
abbrev St:=List (Option V)
abbrev VK:=V->Hp->Prop
abbrev TE:=St->Hp->VK->Prop
abbrev TT:=St->Hp->(Bool->Hp->Prop)->Prop
abbrev TA:=St->Hp->(List V->Hp->Prop)->Prop
structure Ends where
 nx:St->Hp->Prop
 rt:VK
 bk:St->Hp->Prop:=fun _ _=>False
 ct:St->Hp->Prop:=fun _ _=>False
abbrev TS:=Ends->St->Hp->Prop
def EP(X:Cx)(pins:List (Addr × Obj))(σ:St)(Q:VK)(u:Value)(s':Shared):Prop:=∃ v H',Inv X pins σ H' s'/\RelV v u/\Q v H'
def TP(X:Cx)(pins:List (Addr × Obj))(σ:St)(Q:Bool->Hp->Prop)(b:Bool)(s':Shared):Prop:=∃ H',Inv X pins σ H' s'/\Q b H'
def AP(X:Cx)(pins:List (Addr × Obj))(σ:St)(Q:List V->Hp->Prop)(us:List Value)(s':Shared):Prop:=∃ vs H',Inv X pins σ H' s'/\Vals vs us/\Q vs H'
def SP(X:Cx)(pins:List (Addr × Obj))(D:Ends)(f:Flow)(s':Shared):Prop:=
 match f with
 | .next=>∃ σ' H',Inv X pins σ' H' s'/\D.nx σ' H'
 | .brk=>∃ σ' H',Inv X pins σ' H' s'/\D.bk σ' H'
 | .cont=>∃ σ' H',Inv X pins σ' H' s'/\D.ct σ' H'
 | .ret u=>∃ v σ' H',Inv X pins σ' H' s'/\RelV v u/\D.rt v H'
def PE(X:Cx)(e:Expr)(t:TE):Prop:=
 ∀ (pins:List (Addr × Obj)) (s:Shared) (σ:St) (H:Hp) (Q:VK),Inv X pins σ H s->t σ H Q->wpAny (model X.prog X.w) X.A (eval e X.env) (EP X pins σ Q) X.xe s
def PT(X:Cx)(e:Expr)(t:TT):Prop:=
 ∀ (pins:List (Addr × Obj)) (s:Shared) (σ:St) (H:Hp) (Q:Bool->Hp->Prop),Inv X pins σ H s->t σ H Q->wpAny (model X.prog X.w) X.A (isTrue e X.env (eval e X.env)) (TP X pins σ Q) X.xe s
def PW(X:Cx)(e:Expr)(t:TT):Prop:=
 ∀ (whole:Sem Value) (pins:List (Addr × Obj)) (s:Shared) (σ:St) (H:Hp) (Q:Bool->Hp->Prop),Inv X pins σ H s->t σ H Q->wpAny (model X.prog X.w) X.A (isTrue e X.env whole) (TP X pins σ Q) X.xe s
theorem PW.pt{X:Cx}{e:Expr}{t:TT}(h:PW X e t):PT X e t:=h _
def PA(X:Cx)(es:List Expr)(t:TA):Prop:=
 ∀ (pos:Pos) (pins:List (Addr × Obj)) (s:Shared) (σ:St) (H:Hp) (Q:List V->Hp->Prop),Inv X pins σ H s->t σ H Q->wpAny (model X.prog X.w) X.A (spliced (backTo pos (starEach es X.env))) (AP X pins σ Q) X.xe s
def PS(X:Cx)(st:Stmt)(t:TS):Prop:=
 ∀ (pins:List (Addr × Obj)) (s:Shared) (σ:St) (H:Hp) (D:Ends),Inv X pins σ H s->t D σ H->wpAny (model X.prog X.w) X.A (exec st X.env) (SP X pins D) X.xe s
def PSs(X:Cx)(st:List Stmt)(t:TS):Prop:=
 ∀ (pins:List (Addr × Obj)) (s:Shared) (σ:St) (H:Hp) (D:Ends),Inv X pins σ H s->t D σ H->wpAny (model X.prog X.w) X.A (execs st X.env) (SP X pins D) X.xe s
theorem thn{α:Type}{t:Sem α}{Q Q':α->Shared->Prop}{M:Model}{A:Around}{E:Value->Shared->Prop}{s:Shared}(h:wpAny M A t Q E s)(hQ:∀ a s,Q a s->Q' a s):wpAny M A t Q' E s:=wpAny_mono h hQ fun _ _ x=>x
section
variable {X:Cx}
def AW(i:Nat):TE:=fun σ H Q=>∃ v,σ[i]?=some (some v)/\Q v H
def tC(v:V):TE:=fun _ H Q=>Q v H
theorem AX{i:Nat}{x:Str}{pos:Pos}(hN:X.N[i]?=some x)(hv:Vis X.env.scope x)(hd:(x == ("__debug__" : Str))=false:=by decide)(hcd:(x == ("__classdict__" : Str))=false:=by decide):PE X (.Name x pos) (AW i):=by
 intro pins s σ H Q I h;obtain ⟨v,e,h⟩:=h;obtain ⟨m,hn,hl⟩:=I.loc;obtain ⟨u,r,l⟩:=hl i x v hN e hv;have fin:EP X pins σ Q u s:=⟨v,H,I,r,h⟩
 rcases l with ⟨hk,hm⟩ | ⟨hk,c,hc,hcell⟩
 ·exact wpAny_Name (wpAny_loadName_local I.ok.kind hk hn hm fin) hd
 ·rcases hk with hk | hk
  ·exact wpAny_Name (wpAny_loadName_cell I.ok.kind hk hc hcell fin) hd
  ·exact wpAny_Name (wpAny_loadName_free I.ok.kind hk hc hcell fin hcd) hd
theorem AY{i j pos}:PE X (.Constant (.int i) j pos) (tC (.int i)):=fun _ _ _ H _ I h=>wpAny_Constant_int ⟨.int i,H,I.tok _,⟨_,rfl⟩,h⟩
theorem yK{b j pos}:PE X (.Constant (.bool b) j pos) (tC (.bl b)):=fun _ _ _ H _ I h=>Constant_bool ⟨.bl b,H,I,rfl,h⟩
theorem AZ{j pos}:PE X (.Constant .none j pos) (tC .non):=fun _ _ _ H _ I h=>Constant_none ⟨.non,H,I,rfl,h⟩
theorem uV{x j pos}:PE X (.Constant (.str x) j pos) (tC (.str x)):=fun _ _ _ H _ I h=>Calls.Constant_str ⟨.str x,H,I.tok _,⟨_,rfl⟩,h⟩
def Gl(X:Cx)(x:Str):Prop:=X.env.kindOf x=some .globalImplicit
theorem kX{E:Value->Shared->Prop}{pins:List (Addr × Obj)}{s:Shared}{σ:St}{H:Hp}{x:Str}{u:Value}{pos:Pos}{Q:Value->Shared->Prop}(I:Inv X pins σ H s)(hg:Gl X x)(hm:X.mg x=some u)(h:Q u s)
    (hd:(x == ("__debug__" : Str))=false:=by decide):wpAny (model X.prog X.w) X.A (eval (.Name x pos) X.env) Q E s:=
 Calls.Name_function_global I.ok.kind hg (Calls.loadGlobal_global (by rw[I.ok.glob];exact I.mod.glob.keeps I.bk) hm h) hd
theorem gU{E:Value->Shared->Prop}{pins:List (Addr × Obj)}{s:Shared}{σ:St}{H:Hp}{x:Str}{u:Value}{pos:Pos}{Q:Value->Shared->Prop}(I:Inv X pins σ H s)(hg:Gl X x)(hm:X.mg x=none)(hv:bootBuiltins x=some u)(h:Q u s)
    (hn:x ≠ "__name__" := by decide) (hd:(x == ("__debug__" : Str))=false:=by decide):wpAny (model X.prog X.w) X.A (eval (.Name x pos) X.env) Q E s:=by
 obtain ⟨mb,h1,h2⟩:=I.mod.blt;exact Calls.Name_function_global I.ok.kind hg (Calls.loadGlobal_builtin (by rw[I.ok.glob];exact I.mod.glob.keeps I.bk) hm (by rw[I.ok.blt];exact h1.keeps I.bk) ((h2 x hn).trans hv) h) hd
theorem zk{x:Str}{v:V}{u:Value}{pos:Pos}(hg:Gl X x)(hm:X.mg x=some u)(r:RelV v u)(hd:(x == ("__debug__" : Str))=false:=by decide):PE X (.Name x pos) (tC v):=
 fun _ _ _ H _ I h=>kX I hg hm ⟨v,H,I,r,h⟩ hd
theorem zl{x:Str}{v:V}{u:Value}{pos:Pos}(hg:Gl X x)(hm:X.mg x=none)(hv:bootBuiltins x=some u)(r:RelV v u)(hn:x ≠ "__name__" := by decide)(hd:(x == ("__debug__" : Str))=false:=by decide):PE X (.Name x pos) (tC v):=
 fun _ _ _ H _ I h=>gU I hg hm hv ⟨v,H,I,r,h⟩ hn hd
variable {a b:Expr}{ta tb:TE}{pos:Pos}
def tB(t:TE):TT:=fun σ H Q=>t σ H fun x H1=>∃ c,x=.bl c/\Q c H1
theorem A0{e:Expr}{t:TE}(h:PE X e t)(he:∀ whole,isTrue e X.env whole=(do let v <- whole;standAt e.pos;holding [v] (truthy v)):=by intro _;rfl):PT X e (tB t):=by
 intro pins s σ H Q I hw;refine isTrue_plain (thn (h pins s σ H _ I hw) fun v s1 ⟨x,H1,I1,r1,q1⟩=>?_) (he _);obtain ⟨d,rfl,q⟩:=q1
 cases r1
 exact wpAny_truthy_bool ⟨H1,I1,q⟩
variable {tA tB':TT}{rest:List Expr}
def DZ(t u:TT):TT:=fun σ H Q=>t σ H fun c H1=>if c=true then u σ H1 Q else Q false H1
def tOr(t u:TT):TT:=fun σ H Q=>t σ H fun c H1=>if c=true then Q true H1 else u σ H1 Q
def D0(t:TT):TT:=fun σ H Q=>t σ H fun c H1=>Q (!c) H1
theorem zm(ha:PT X a tA):PW X (.BoolOp .And [a] pos) tA:=by
 intro wh pins s σ H Q I h;refine isTrue_and (thn (ha pins s σ H Q I h) fun c s1 e=>?_)
 cases c with
 |true=>exact isTrue_and_nil e
 |false=>exact e
theorem A1(ha:PT X a tA):PW X (.BoolOp .Or [a] pos) tA:=by
 intro wh pins s σ H Q I h;refine isTrue_or (thn (ha pins s σ H Q I h) fun c s1 e=>?_)
 cases c with
 |false=>exact isTrue_or_nil e
 |true=>exact e
theorem A2(ha:PT X a tA)(hb:PW X (.BoolOp .And (b::rest) pos) tB'):PW X (.BoolOp .And (a::b::rest) pos) (DZ tA tB'):=by
 intro wh pins s σ H Q I h;refine isTrue_and (thn (ha pins s σ H _ I h) fun c s1 ⟨H1,I1,q1⟩=>?_)
 cases c with
 |true=>exact hb wh pins s1 σ H1 Q I1 q1
 |false=>exact ⟨H1,I1,q1⟩
theorem C0(ha:PT X a tA)(hb:PW X (.BoolOp .Or (b::rest) pos) tB'):PW X (.BoolOp .Or (a::b::rest) pos) (tOr tA tB'):=by
 intro wh pins s σ H Q I h;refine isTrue_or (thn (ha pins s σ H _ I h) fun c s1 ⟨H1,I1,q1⟩=>?_)
 cases c with
 |true=>exact ⟨H1,I1,q1⟩
 |false=>exact hb wh pins s1 σ H1 Q I1 q1
theorem A3(ha:PT X a tA):PT X (.UnaryOp .Not a pos) (D0 tA):=by
 intro pins s σ H Q I h;exact isTrue_not (ha pins s σ H (fun c H1=>Q (!c) H1) I h)
def C1(ta tb:TE):TE:=fun σ H Q=>ta σ H fun x H1=>∃ c,x=.bl c/\if c=true then tb σ H1 Q else Q (.bl false) H1
def C3(ta:TE):TE:=fun σ H Q=>ta σ H fun x H1=>∃ c,x=.bl c/\Q (.bl (!c)) H1
theorem A4{op}{t:TE}(h:PE X a t):PE X (.BoolOp op [a] pos) t:=fun pins s σ H Q I hw=>BoolOp_one (h pins s σ H Q I hw)
theorem A5(ha:PE X a ta)(hb:PE X (.BoolOp .And (b::rest) pos) tb):PE X (.BoolOp .And (a::b::rest) pos) (C1 ta tb):=by
 intro pins s σ H Q I h;refine BoolOp_and (thn (ha pins s σ H _ I h) fun v s1 ⟨x,H1,I1,r1,q1⟩=>?_);obtain ⟨c,rfl,q1⟩:=q1
 cases r1
 refine wpAny_truthy_bool ?_
 cases c with
 |true=>exact hb pins s1 σ H1 Q I1 q1
 |false=>exact ⟨.bl false,H1,I1,rfl,q1⟩
theorem A6(ha:PE X a ta):PE X (.UnaryOp .Not a pos) (C3 ta):=by
 intro pins s σ H Q I h;refine UnaryOp_ (thn (ha pins s σ H _ I h) fun v s1 ⟨x,H1,I1,r1,q1⟩=>?_);obtain ⟨c,rfl,q1⟩:=q1
 cases r1
 exact not_of (wpAny_truthy_bool ⟨.bl (!c),H1,I1,rfl,q1⟩)
def tIf(t:TT)(ta tb:TE):TE:=fun σ H Q=>t σ H fun c H1=>if c=true then ta σ H1 Q else tb σ H1 Q
theorem xm{c:Expr}(hc:PT X c tA)(ha:PE X a ta)(hb:PE X b tb):PE X (.IfExp c a b pos) (tIf tA ta tb):=by
 intro pins s σ H Q I h;refine wpAny_IfExp (thn (hc pins s σ H _ I h) fun d s1 ⟨H1,I1,q1⟩=>?_)
 cases d with
 |true=>exact ha pins s1 σ H1 Q I1 q1
 |false=>exact hb pins s1 σ H1 Q I1 q1
end
def SqL(K:PySem.W.Frag)(H:Hp)(a:Addr)(xs:List V):Prop:=
 Rd H a (.lst xs) ∨
  ∃ (o:Obj) (its:Array Value) (n:Nat),K.lookup a=some o/\o.cls=.type "list" /\ o.dict=none/\o.data=.seq its n/\its.size<=sizeLine/\Vals xs its.toList
def SqT(K:PySem.W.Frag)(H:Hp)(a:Addr)(xs:List V):Prop:=
 Rd H a (.tup xs) ∨
  ∃ (o:Obj) (its:Array Value) (n:Nat),K.lookup a=some o/\o.cls=.type "tuple" /\ o.data=.seq its n/\its.size<=sizeLine/\Vals xs its.toList
def D3:Value->Option V
 | .none=>some .non
 | .bool b=>some (.bl b)
 | .int i _=>some (.int i)
 | .str x _=>some (.str x)
 | .bytes b _=>some (.byt b)
 | .float b _=>some (.flt b)
 | .ref a=>some (.ref a)
 | .type n=>some (.ty n)
 |_=>none
theorem RelV.abs{x:V}{u:Value}(r:RelV x u):D3 u=some x:=by
 cases x with
 |non=>cases r;rfl
 |bl _=>cases r;rfl
 |int _=>obtain ⟨t,rfl⟩:=r;rfl
 |str _=>obtain ⟨t,rfl⟩:=r;rfl
 |byt _=>obtain ⟨t,rfl⟩:=r;rfl
 |flt _=>obtain ⟨t,rfl⟩:=r;rfl
 |ref _=>cases r;rfl
 |ty _=>cases r;rfl
theorem RelV.inj{x y:V}{u:Value}(r:RelV x u)(q:RelV y u):x=y:=Option.some.inj (r.abs.symm.trans q.abs)
theorem Vals.inj:∀ {xs ys:List V} {us:List Value},Vals xs us->Vals ys us->xs=ys
 |_,_,_,.nil,.nil=>rfl
 |_,_,_,.cons r t,.cons r' t'=>by rw[r.inj r',Vals.inj t t']
section
variable {X:Cx}{pins:List (Addr × Obj)}{σ:St}{H:Hp}{s:Shared}{a:Addr}{xs ys:List V}
theorem SqL.of{K:PySem.W.Frag}(h:H a=some (.lst xs)):SqL K H a xs:=.inl (.inl h)
theorem SqT.of{K:PySem.W.Frag}(h:H a=some (.tup xs)):SqT K H a xs:=.inl (.inl h)
theorem Inv.list(I:Inv X pins σ H s)(h:SqL X.K H a xs):∃ its:List Value,Vals xs its/\PlainL s.heap a its.toArray/\xs.length<=sizeLine:=by
 rcases h with h | ⟨o,its,n,hk,hc,hd,hs,hz,r⟩
 ·obtain ⟨z,its,n,r,e⟩:=h.ok I.hok
  exact ⟨its,r,⟨_,n,e,rfl,rfl,rfl⟩,z⟩
 ·refine ⟨its.toList,r,⟨o,n,I.kIn a o hk,hc,hd,by simpa using hs⟩,?_⟩
  have e:=r.length;simp only[Array.length_toList] at e;omega
theorem Inv.tuple(I:Inv X pins σ H s)(h:SqT X.K H a xs):∃ its:List Value,Vals xs its/\IsTup s.heap a its.toArray/\xs.length<=sizeLine:=by
 rcases h with h | ⟨o,its,n,hk,hc,hs,hz,r⟩
 ·obtain ⟨z,its,r,p⟩:=h.ok I.hok
  exact ⟨its,r,p,z⟩
 ·refine ⟨its.toList,r,⟨o,I.kIn a o hk,hc,n,by simpa using hs⟩,?_⟩
  have e:=r.length;simp only[Array.length_toList] at e;omega
theorem Inv.list_inj(I:Inv X pins σ H s)(h:SqL X.K H a xs)(h':SqL X.K H a ys):xs=ys:=by
 obtain ⟨its,r,⟨o,n,e,_,_,d⟩,_⟩:=I.list h;obtain ⟨its',r',⟨o',n',e',_,_,d'⟩,_⟩:=I.list h';rw[e] at e';cases e';rw[d] at d';injection d' with d1 _;have:its=its':=by simpa using congrArg Array.toList d1
 subst this;exact r.inj r'
theorem Inv.tuple_inj(I:Inv X pins σ H s)(h:SqT X.K H a xs)(h':SqT X.K H a ys):xs=ys:=by
 obtain ⟨its,r,⟨o,e,_,n,d⟩,_⟩:=I.tuple h;obtain ⟨its',r',⟨o',e',_,n',d'⟩,_⟩:=I.tuple h';rw[e] at e';cases e';rw[d] at d';injection d' with d1 _;have:its=its':=by simpa using congrArg Array.toList d1
 subst this;exact r.inj r'
end
section
variable {X:Cx}{pins:List (Addr × Obj)}{σ:St}{H:Hp}{s:Shared}{E:Value->Shared->Prop}
end
section
variable {X:Cx}{st:Stmt}{rest:List Stmt}{t u:TS}{e:Expr}{te:TE}{pos:Pos}
def C4:TS:=fun D σ H=>D.nx σ H
def A7(t u:TS):TS:=fun D σ H=>t { D with nx:=u D } σ H
theorem zn:PSs X [] C4:=fun _ _ σ H _ I h=>wpAny_execs_nil ⟨σ,H,I,h⟩
theorem xn(h1:PS X st t)(h2:PSs X rest u):PSs X (st::rest) (A7 t u):=by
 intro pins s σ H D I h;refine wpAny_execs_cons (thn (h1 pins s σ H { D with nx:=u D } I h) fun f s1 q=>?_)
 cases f with
 |next=>
  obtain ⟨σ',H',I',q⟩:=q;exact h2 pins s1 σ' H' D I' q
 |ret v=>exact q
 |brk=>exact q
 |cont=>exact q
theorem zo(h1:PS X st t):PSs X [st] t:=by
 intro pins s σ H D I h;refine wpAny_execs_cons (thn (h1 pins s σ H D I h) fun f s1 q=>?_)
 cases f with
 |next=>exact wpAny_execs_nil q
 |ret v=>exact q
 |brk=>exact q
 |cont=>exact q
theorem Inv.quiet{pins:List (Addr × Obj)}{σ:St}{H:Hp}{s:Shared}(I:Inv X pins σ H s):interactive X.env=false:=by simp[interactive,I.ok.kind]
def C5(te:TE):TS:=fun D σ H=>te σ H fun _ H1=>D.nx σ H1
theorem kY(he:PE X e te)(hs:swapsWith e none pos.line X.env=pure false:=by rfl):PS X (.Expr e pos) (C5 te):=by
 intro pins s σ H D I h;exact wpAny_Expr_any (thn (he pins s σ H _ I h) fun v s1 ⟨x,H1,I1,r1,q1⟩=>⟨σ,H1,I1,q1⟩) I.quiet hs
def D4(te:TE):TS:=fun D σ H=>te σ H D.rt
theorem uW(he:PE X e te):PS X (.Return (some e) pos) (D4 te):=by
 intro pins s σ H D I h;exact wpAny_Return_some (thn (he pins s σ H _ I h) fun v s1 ⟨x,H1,I1,r1,q1⟩=>⟨x,σ,H1,I1,r1,q1⟩)
def D5(c:TT)(t u:TS):TS:=fun D σ H=>c σ H fun b H1=>if b=true then t D σ H1 else u D σ H1
theorem C6{c:Expr}{a b:List Stmt}{tc:TT}(hc:PT X c tc)(ha:PSs X a t)(hb:PSs X b u):PS X (.If c a b pos) (D5 tc t u):=by
 intro pins s σ H D I h;refine wpAny_If (thn (hc pins s σ H _ I h) fun d s1 ⟨H1,I1,q1⟩=>?_)
 cases d with
 |true=>exact ha pins s1 σ H1 D I1 q1
 |false=>exact hb pins s1 σ H1 D I1 q1
end
abbrev TG:=V->St->Hp->(St->Hp->Prop)->Prop
abbrev TGs:=List V->St->Hp->(St->Hp->Prop)->Prop
def PG(X:Cx)(target:Expr)(t:TG):Prop:=
 ∀ (pins:List (Addr × Obj)) (s:Shared) (σ:St) (H:Hp) (v:V) (u:Value) (Q:St->Hp->Prop),Inv X pins σ H s->RelV v u->t v σ H Q →
  wpAny (model X.prog X.w) X.A (assign target X.env u) (fun _ s'=>∃ σ' H',Inv X pins σ' H' s'/\Q σ' H') X.xe s
def PGs(X:Cx)(ts:List Expr)(t:TGs):Prop:=
 ∀ (pins:List (Addr × Obj)) (s:Shared) (σ:St) (H:Hp) (vs:List V) (us:List Value) (Q:St->Hp->Prop),Inv X pins σ H s->Vals vs us->t vs σ H Q →
  wpAny (model X.prog X.w) X.A (assignInOrder ((assignEach ts X.env).map (·.2)) us) (fun _ s'=>∃ σ' H',Inv X pins σ' H' s'/\Q σ' H') X.xe s
abbrev xo:=V->V->V->Hp->(Hp->Prop)->Prop
def A8(X:Cx)(t:xo):Prop:=
 ∀ (pins:List (Addr × Obj)) (s:Shared) (σ:St) (H:Hp) (o i v:V) (ov iv u:Value) (Q:Hp->Prop),Inv X pins σ H s->RelV o ov->RelV i iv->RelV v u->t o i v H Q →
  wpAny (model X.prog X.w) X.A (setItem ov iv u) (fun _ s'=>∃ H',Inv X pins σ H' s'/\Q H') X.xe s
section
variable {X:Cx}{pos:Pos}
def pB(i:Nat):TG:=fun v σ H Q=>Q (σ.set i (some v)) H
theorem rV{i:Nat}{x:Str}(hN:X.N.Nodup)(hi:X.N[i]?=some x)(hx:Loc X.env.scope x)(hf:X.fn x=true\/X.env.scope.names.lookup x=some .local:=by first | exact .inl rfl | exact .inr rfl | assumption):PG X (.Name x pos) (pB i):=by
 intro pins s σ H v u Q I r h;exact wpAny_assign_Name (jE I hN hi hx r (fun s' I'=>⟨_,H,I',h⟩) hf)
def D6:TGs:=fun vs σ H Q=>vs=[]/\Q σ H
def C7(t:TG)(u:TGs):TGs:=fun vs σ H Q=>∃ v r,vs=v::r/\t v σ H fun σ' H'=>u r σ' H' Q
theorem zq:PGs X [] D6:=by
 intro pins s σ H vs us Q I r h;obtain ⟨e,h⟩:=h;subst e
 cases r
 exact assignInOrder_nil ⟨σ,H,I,h⟩
theorem xp{e:Expr}{es:List Expr}{t:TG}{u:TGs}(h1:PG X e t)(h2:PGs X es u)
    (hs:(assignEach (e::es) X.env).map (·.2)=assign e X.env::(assignEach es X.env).map (·.2):=by rfl):PGs X (e::es) (C7 t u):=by
 intro pins s σ H vs us Q I r h;obtain ⟨v,vr,e1,h⟩:=h;subst e1
 cases r with
 |cons r rr=>
  rw[hs];refine assignInOrder_cons (thn (h1 pins s σ H _ _ _ I r h) fun _ s1 ⟨σ1,H1,I1,q1⟩=>?_);exact h2 pins s1 σ1 H1 _ _ Q I1 rr q1
def D7(K:PySem.W.Frag)(n:Nat)(t:TGs):TG:=fun v σ H Q=>∃ a xs,v=.ref a/\SqT K H a xs/\xs.length=n/\t xs σ H Q
theorem A9{es:List Expr}{k:Nat}{t:TGs}{n:Nat}(hc:X.calm=true)(h:PGs X es t)
    (hn:(assignEach es X.env).length=n:=by rfl) (hst:(assignEach es X.env).findIdx? (·.1)=none:=by rfl):PG X (.Tuple es k pos) (D7 X.K n t):=by
 intro pins s σ H v u Q I r hw;obtain ⟨a,xs,e1,hq,hl,hw⟩:=hw;subst e1
 cases r
 obtain ⟨its,rv,ht,hz⟩:=I.tuple hq;refine assign_Tuple_tuple (I.ok.hd hc) ht (by simp[hn,<- hl,rv.length]) hst fun h' hx=>?_;have I1:Inv X pins σ H { s with heap:=h' }:=I.kept (t':=s.toks) fun b o e=>hx b o (Nat.ne_of_lt (Heap.lt_size e)) e;exact h pins _ σ H xs _ Q I1 (by simpa using rv) hw
def D8(to ti:TE)(t:xo):TG:=fun v σ H Q=>to σ H fun o H1=>ti σ H1 fun i H2=>t o i v H2 fun H3=>Q σ H3
theorem uX{o i:Expr}{to ti:TE}{t:xo}(ho:PE X o to)(hi:PE X i ti)(hs:A8 X t)
    (ha:∀ v,assign (.Subscript o i pos) X.env v=(do
     let ov <- holding [v] (eval o X.env)
     let iv <- holding [v,ov] (eval i X.env)
     standAt pos
     holding [v,ov,iv] (setItem ov iv v)
     release [v,ov,iv] []):=by intro _;rfl):PG X (.Subscript o i pos) (D8 to ti t):=by
 intro pins s σ H v u Q I r h;rw[ha];refine wpAny_bind (wpAny_holding (thn (ho pins s σ H _ I h) fun ov s1 ⟨x,H1,I1,r1,q1⟩=>?_));refine wpAny_bind (wpAny_holding (thn (hi pins s1 σ H1 _ I1 q1) fun iv s2 ⟨y,H2,I2,r2,q2⟩=>?_));refine wpAny_bind (wpAny_standAt (wpAny_bind (wpAny_holding (thn (hs pins s2 σ H2 x y v ov iv u _ I2 r1 r2 r q2) fun _ s3 ⟨H3,I3,q3⟩=>?_))));exact wpAny_release ⟨σ,H3,I3,q3⟩
def xq(te:TE)(g:TG):TS:=fun D σ H=>te σ H fun x H1=>g x σ H1 D.nx
theorem uY{tg e:Expr}{te:TE}{g:TG}(he:PE X e te)(hg:PG X tg g)(hs:swapsWithSole [tg] e pos.line X.env=pure false:=by rfl)(hw:swappedStores [tg] e X.env=pure none:=by rfl)
    (h1:(assignEach [tg] X.env).map (·.2)=[assign tg X.env]:=by rfl):PS X (.Assign [tg] e pos) (xq te g):=by
 intro pins s σ H D I h;refine wpAny_Assign_stores (thn (he pins s σ H _ I h) fun v s1 ⟨x,H1,I1,r1,q1⟩=>?_) hs hw;rw[h1];exact thn (hg pins s1 σ H1 x v _ I1 r1 q1) fun _ s2 q=>q
theorem uZ{i:Nat}{x:Str}{e:Expr}{te:TE}{pos':Pos}(hN:X.N.Nodup)(hi:X.N[i]?=some x)(hx:Loc X.env.scope x)(he:PE X e te)(hs:swapsWith e (some (.Name x pos')) pos.line X.env=pure false:=by rfl)(hf:X.fn x=true\/X.env.scope.names.lookup x=some .local:=by first | exact .inl rfl | exact .inr rfl | assumption) :
    PS X (.Assign [.Name x pos'] e pos) (xq te (pB i)):=by
 intro pins s σ H D I h;refine wpAny_Assign_Name (thn (he pins s σ H _ I h) fun v s1 ⟨y,H1,I1,r1,q1⟩=>?_) hs;exact jE I1 hN hi hx r1 (fun s2 I2=>⟨_,H1,I2,q1⟩) hf
def D9(i j:Nat)(ta:TA):TS:=fun D σ H=>ta σ H fun vs H1=>∃ v w,vs=[v,w]/\D.nx ((σ.set i (some v)).set j (some w)) H1
theorem Ba{i j:Nat}{x y:Str}{a b:Expr}{ta:TA}{px py pt:Pos}{kt k2 pt2}(hc:X.calm=true)(hN:X.N.Nodup)(hi:X.N[i]?=some x)(hj:X.N[j]?=some y)(hij:i≠j)
    (hx:X.env.scope.names.lookup x=some .local) (hy:X.env.scope.names.lookup y=some .local) (ha:PA X [a,b] ta)
    (hw:swappedStores [.Tuple [.Name x px,.Name y py] kt pt] (.Tuple [a,b] k2 pt2) X.env=pure (some [x,y]))
    (hs:swapsWithSole [.Tuple [.Name x px,.Name y py] kt pt] (.Tuple [a,b] k2 pt2) pos.line X.env=pure false:=by rfl) :
    PS X (.Assign [.Tuple [.Name x px,.Name y py] kt pt] (.Tuple [a,b] k2 pt2) pos) (D9 i j ta):=by
 intro pins s σ H D I h;rw[exec_Assign_arm];refine wpAny_bind (wpAny_standAt ?_);rw[hs];refine wpAny_bind (wpAny_pure ?_);rw[if_neg (by decide)];refine wpAny_bind (Tuple_ (thn (ha _ pins s σ H _ I h) fun us s1 ⟨vs,H1,I1,r1,q1⟩=>?_));obtain ⟨v,w,e1,q1⟩:=q1;subst e1;obtain ⟨u1,u2,rfl,rv,rw'⟩:∃ u1 u2,us=[u1,u2]/\RelV v u1/\RelV w u2:=by
  cases r1 with
  |cons p q=>
   cases q with
   |cons p' q'=>
    cases q'
    exact ⟨_,_,rfl,p,p'⟩
 refine wpAny_newObj_type ?_ (by show 2<=sizeLine;decide);have I2:Inv X pins σ H1 { s1 with heap:=s1.heap.push { cls:=.type "tuple", data:=.seq [u1,u2].toArray } }:=I1.kept (t':=s1.toks) fun b o e=>Heap.get?_push_of_some _ e;rw[hw];refine wpAny_bind (wpAny_pure ?_)
 show wpAny (model X.prog X.w) X.A (do rule "assign.swapped-stores"; let items <- unpackItems (.ref s1.heap.objs.size) 2 none;assignInOrder [fun v=>bindName X.env y v,fun v=>bindName X.env x v] items.reverse;pure Flow.next) _ _ _;refine wpAny_bind (wpAny_rule (wpAny_bind (unpackItems_tuple (items:=#[u1,u2]) (I.ok.hd hc) (IsTup.new s1.heap _) fun h' hx'=>?_)))
 have I3:=I2.kept (h':=h') (t':=s1.toks) fun b o e=>hx' b o (Nat.ne_of_lt (Heap.lt_size e)) e;show wpAny _ _ (assignInOrder [fun v=>bindName X.env y v,fun v=>bindName X.env x v] [u2,u1] >>= fun _=>pure Flow.next) _ _ _;refine wpAny_bind (assignInOrder_cons (wpAny_bindName (jE I3 hN hj (.inl hy) rw' (fun s2 I4=>?_) (.inr hy))))
 refine assignInOrder_cons (wpAny_bindName (jE I4 hN hi (.inl hx) rv (fun s3 I5=>assignInOrder_nil (wpAny_pure ?_)) (.inr hx)));rw[List.set_comm _ _ (Ne.symm hij)] at I5;exact ⟨_,H1,I5,q1⟩
end
section
variable {X:Cx}{pos:Pos}
def Bb(c:TT)(tb:TS):TS:=fun D σ H=>∃ W:Nat->St->Hp->Prop,(∃ m,W m σ H)/\∀ m σ H,W m σ H →
 c σ H fun b H1=>if b=true then ∃ N:St->Hp->Prop,(∀ σ' H',N σ' H'->∃ m',m'<m/\W m' σ' H')/\tb { D with nx:=N,ct:=N,bk:=D.nx } σ H1 else D.nx σ H1
theorem xr{c:Expr}{body:List Stmt}{tc:TT}{tb:TS}(hp:PassesOwn (model X.prog X.w) X.A X.env X.xe)(hc:PT X c tc)(hb:PSs X body tb):PS X (.While c body [] pos) (Bb tc tb):=by
 intro pins s σ H D I h;obtain ⟨W,⟨m0,w0⟩,turn⟩:=h;refine wpAny_While (codeAny_whileLoop (fun n s'=>∃ σ' H',Inv X pins σ' H' s'/\W n σ' H') ?_ m0 ⟨σ,H,I,w0⟩);rintro n s1 ⟨σ1,H1,I1,w1⟩;refine wpAny_passesOwn hp (thn (hc pins s1 σ1 H1 _ I1 (turn n σ1 H1 w1)) fun b s2 ⟨H2,I2,q2⟩=>?_)
 cases b with
 |true=>
  obtain ⟨N,hN,q2⟩:=q2;rw[if_pos rfl];refine wpAny_passesOwn hp (thn (hb pins s2 σ1 H2 _ I2 q2) fun f s3 q3=>?_)
  cases f with
  |next=>
   obtain ⟨σ3,H3,I3,n3⟩:=q3;obtain ⟨m',hm,w3⟩:=hN σ3 H3 n3;exact ⟨m',hm,σ3,H3,I3,w3⟩
  |cont=>
   obtain ⟨σ3,H3,I3,n3⟩:=q3;obtain ⟨m',hm,w3⟩:=hN σ3 H3 n3;exact ⟨m',hm,σ3,H3,I3,w3⟩
  |brk=>exact q3
  |ret v=>exact q3
 |false=>
  rw[if_neg Bool.false_ne_true];exact wpAny_execs_nil ⟨σ1,H2,I2,q2⟩
end
structure It where
 go:Nat->Hp->Prop
 yld:Nat->Hp->V->Hp->Prop
 stop:Nat->Hp->Prop
def gw(X:Cx)(pins:List (Addr × Obj))(H:Hp)(b:Addr):Prop:=
 H b=none/\b≠X.env.locals/\b∉X.fs/\(b∈X.ex\/X.s₀.heap.objs.size<=b)/\(∀ x c,X.env.cells.lookup x=some c->c≠b)/\∀ p∈X.pn++pins,p.1≠b
theorem Inv.fpOk{X:Cx}{pins:List (Addr × Obj)}{σ:St}{H H':Hp}{s:Shared}{b:Addr}(I:Inv X pins σ H s)(hb:s.heap.objs.size<=b)(hn:H' b=none):gw X pins H' b:=by
 refine ⟨hn,Nat.ne_of_gt (Nat.lt_of_lt_of_le I.lt hb),I.nofs hb,.inr (Nat.le_trans I.sz hb),fun x c e z=>?_,fun p hp z=>?_⟩
 ·obtain ⟨v,q⟩:=I.cell x c e
  exact absurd (Nat.lt_of_lt_of_le q.lt (by rw[z];exact hb)) (Nat.lt_irrefl _)
 ·exact absurd (Nat.lt_of_lt_of_le (Heap.lt_size (I.pin p hp).1) (by rw[z];exact hb)) (Nat.lt_irrefl _)
structure Turn (P:Program) (w:World) (K:PySem.W.Frag) (tg:Expr) (J:It) (fp:List Addr) (it:Addr) (tn:Nat->Heap->Prop):Prop where
 mem:it∈fp
 obj:∀ i h,tn i h->∀ b∈fp,∃ o,h.get? b=some o/\∀ v,o.data≠.cell v
 keep:∀ i h h',tn i h->(∀ b∈fp,∀ o,h.get? b=some o->h'.get? b=some o)->tn i h'
 item:∀ (X:Cx),X.prog=P->X.w=w->X.K=K->X.calm=true->∀ (i:Nat) (pins:List (Addr × Obj)) (s:Shared) (σ:St) (H:Hp) (E:Value->Shared->Prop),Inv X pins σ H s->(∀ b∈fp,gw X pins H b)->tn i s.heap->J.go i H →
  wpAny (model P w) X.A (pyNext (.ref it)) (fun r s1=>∃ u,r=some u ∧
   wpAny (model P w) X.A (letOwnedTupleGo tg (.ref it) u) (fun _ s2=>∃ x H',Inv X pins σ H' s2/\RelV x u/\J.yld i H x H'/\tn (i+1) s2.heap/\∀ b∈fp,H' b=none) E s1) E s
 done:∀ (X:Cx),X.prog=P->X.w=w->X.K=K->X.calm=true->∀ (i:Nat) (pins:List (Addr × Obj)) (s:Shared) (σ:St) (H:Hp) (E:Value->Shared->Prop),Inv X pins σ H s->(∀ b∈fp,gw X pins H b)->tn i s.heap->J.stop i H →
  wpAny (model P w) X.A (pyNext (.ref it)) (fun r s1=>r=none/\Inv X pins σ H s1) E s
 self:∀ (A:Around) (i:Nat) (s:Shared) (Q:Value->Shared->Prop) (E:Value->Shared->Prop),tn i s.heap->Q (.ref it) s->wpAny (model P w) A (pyIter (.ref it)) Q E s
abbrev TI:=St->Hp->(It->Hp->Prop)->Prop
def PIE(X:Cx)(pins:List (Addr × Obj))(σ:St)(tg:Expr)(R:It->Hp->Prop)(itv:Value)(s2:Shared):Prop:=
 ∃ (it:Addr) (fp:List Addr) (tn:Nat->Heap->Prop) (J:It) (H':Hp),itv=.ref it/\Inv X pins σ H' s2/\Turn X.prog X.w X.K tg J fp it tn/\tn 0 s2.heap/\(∀ b∈fp,gw X pins H' b)/\R J H'
def PI(X:Cx)(tg iter:Expr)(wi:TI):Prop:=
 ∀ (pins:List (Addr × Obj)) (s:Shared) (σ:St) (H:Hp) (R:It->Hp->Prop),Inv X pins σ H s->wi σ H R →
  wpAny (model X.prog X.w) X.A (eval iter X.env) (fun v s1=>wpAny (model X.prog X.w) X.A (pyIter v) (PIE X pins σ tg R) X.xe s1) X.xe s
theorem pC{M:Model}{A:Around}{E:Value->Shared->Prop}{s:Shared}{tg:Expr}{it:Addr}{u:Value}{o:Obj}{n:String}{vs:Array Value}{Q:Unit->Shared->Prop}(ho:s.heap.get? it=some o)(hc:o.cls=.type n)(hd:o.data=.fields vs)
    (hn:["enumerate", "zip", "dict_itemiterator", "dict_reverseitemiterator", "odict_iterator", "itertools.zip_longest", "itertools.pairwise"].contains n=false) (hQ:Q () s):wpAny M A (letOwnedTupleGo tg (.ref it) u) Q E s:=by
 unfold letOwnedTupleGo
 cases tg<;>first
  |exact wpAny_pure hQ
  | (cases u<;>first
      |exact wpAny_pure hQ
      | (refine wpAny_bind (wpAny_load ho ?_)
         rw[hc,hd]
         show wpAny M A (if (["enumerate", "zip", "dict_itemiterator", "dict_reverseitemiterator", "odict_iterator", "itertools.zip_longest", "itertools.pairwise"].contains n&&vs[0]? == some (rawInt _))=true then _ else _) Q E s
         rw[if_neg (by intro h;rw[hn,Bool.false_and] at h;cases h)]
         exact wpAny_pure hQ))
def Itl(K:PySem.W.Frag)(a:Addr):It:=
 ⟨fun i H=>∃ xs x,SqL K H a xs/\xs[i]?=some x,fun i H x H'=>H'=H/\∀ xs,SqL K H a xs->xs[i]?=some x,fun i H=>∃ xs,SqL K H a xs/\xs.length<=i⟩
def Itt(K:PySem.W.Frag)(a:Addr):It:=
 ⟨fun i H=>∃ xs x,SqT K H a xs/\xs[i]?=some x,fun i H x H'=>H'=H/\∀ xs,SqT K H a xs->xs[i]?=some x,fun i H=>∃ xs,SqT K H a xs/\xs.length<=i⟩
def Itr(lo:Int)(n:Nat):It:=⟨fun i _=>i<n,fun i H x H'=>H'=H/\x=.int (lo+i),fun i _=>n<=i⟩
theorem u6{P:Program}{w:World}{K:PySem.W.Frag}{tg:Expr}(a it:Addr):Turn P w K tg (Itl K a) [it] it (fun i h=>h.IsListIter it a i) where
 mem:=by simp
 obj:=fun i h st b hb=>by
  have e:b=it:=by simpa using hb
  subst e;obtain ⟨o,e,c,d⟩:=st;exact ⟨o,e,fun v z=>by rw[d] at z;cases z⟩
 keep:=fun i h h' st k=>st.at fun o e=>k it (by simp) o e;item:=by
  intro X hP hw hK hc i pins s σ H E I hf st hg;subst hP hw hK;obtain ⟨xs,x,hq,hx⟩:=hg;obtain ⟨its,rv,p,hz⟩:=I.list hq;obtain ⟨u,hu,ru⟩:=rv.get hx;obtain ⟨f0,f1,f2,f3,f4,f5⟩:=hf it (by simp);refine wpAny_pyNext_list_item st p.isList (x:=u) (by simpa using hu) fun h' st' sb=>?_;have I1:Inv X pins σ H { s with heap:=h' }:=I.turned (t':=s.toks) (fun b o hb e=>(sb.2 b hb).trans e) f0 f1 f3 f4 f5
  obtain ⟨o,e,c,d⟩:=id st';exact ⟨u,rfl,pC (s:={ s with heap:=h' }) e c d (by decide) ⟨x,H,I1,ru,⟨rfl,fun ys hy=>by rw[I.list_inj hy hq];exact hx⟩,st',fun b hb=>(hf b hb).1⟩⟩
 done:=by
  intro X hP hw hK hc i pins s σ H E I hf st hg;subst hP hw hK;obtain ⟨xs,hq,hx⟩:=hg;obtain ⟨its,rv,p,hz⟩:=I.list hq;obtain ⟨f0,f1,f2,f3,f4,f5⟩:=hf it (by simp);have hl:=rv.length;exact wpAny_pyNext_list_end (I.ok.hd hc) st p.isList (by simp;omega) fun h' eb=>⟨rfl,I.turned (t':=s.toks) (fun b o hb e=>eb b o hb e) f0 f1 f3 f4 f5⟩
 self:=fun _ _ _ _ _ st h=>wpAny_pyIter_listiter st h
theorem tS{P:Program}{w:World}{K:PySem.W.Frag}{tg:Expr}(a it:Addr):Turn P w K tg (Itt K a) [it] it (fun i h=>h.IsTupleIter it a i) where
 mem:=by simp
 obj:=fun i h st b hb=>by
  have e:b=it:=by simpa using hb
  subst e;obtain ⟨o,e,c,d⟩:=st;exact ⟨o,e,fun v z=>by rw[d] at z;cases z⟩
 keep:=fun i h h' st k=>st.at fun o e=>k it (by simp) o e;item:=by
  intro X hP hw hK hc i pins s σ H E I hf st hg;subst hP hw hK;obtain ⟨xs,x,hq,hx⟩:=hg;obtain ⟨its,rv,p,hz⟩:=I.tuple hq;obtain ⟨u,hu,ru⟩:=rv.get hx;obtain ⟨f0,f1,f2,f3,f4,f5⟩:=hf it (by simp);refine wpAny_pyNext_tuple_item st (show s.heap.IsTuple a its.toArray from p) (x:=u) (by simpa using hu) fun h' st' sb=>?_
  have I1:Inv X pins σ H { s with heap:=h' }:=I.turned (t':=s.toks) (fun b o hb e=>(sb.2 b hb).trans e) f0 f1 f3 f4 f5;obtain ⟨o,e,c,d⟩:=id st';exact ⟨u,rfl,pC (s:={ s with heap:=h' }) e c d (by decide) ⟨x,H,I1,ru,⟨rfl,fun ys hy=>by rw[I.tuple_inj hy hq];exact hx⟩,st',fun b hb=>(hf b hb).1⟩⟩
 done:=by
  intro X hP hw hK hc i pins s σ H E I hf st hg;subst hP hw hK;obtain ⟨xs,hq,hx⟩:=hg;obtain ⟨its,rv,p,hz⟩:=I.tuple hq;obtain ⟨f0,f1,f2,f3,f4,f5⟩:=hf it (by simp);have hl:=rv.length;exact wpAny_pyNext_tuple_end (I.ok.hd hc) st (show s.heap.IsTuple a its.toArray from p) (by simp;omega) fun h' eb=>⟨rfl,I.turned (t':=s.toks) (fun b o hb e=>eb b o hb e) f0 f1 f3 f4 f5⟩
 self:=fun _ _ _ _ _ st h=>wpAny_pyIter_tupleiter st h
theorem tT{P:Program}{w:World}{K:PySem.W.Frag}{tg:Expr}(it:Addr)(lo:Int)(n:Nat):Turn P w K tg (Itr lo n) [it] it (fun i h=>IsRangeIter h it (lo+(i:Nat)*1) ((n:Int) - (i:Nat)) 1) where
 mem:=by simp
 obj:=fun i h st b hb=>by
  have e:b=it:=by simpa using hb
  subst e;exact ⟨_,st,fun v z=>by
   have z':Data.fields _=Data.cell v:=z
   cases z'⟩
 keep:=fun i h h' st k=>k it (by simp) _ st;item:=by
  intro X hP hw hK hc i pins s σ H E I hf st hg;subst hP hw hK;obtain ⟨f0,f1,f2,f3,f4,f5⟩:=hf it (by simp);have W:=Walks.range (prog:=X.prog) (w:=X.w) (I.ok.hd hc) it lo 1 n;refine W.item i s _ _ hg st fun v h' tk hv st' kk=>?_;obtain ⟨t,rfl⟩:=hv;have I1:Inv X pins σ H { s with heap:=h',toks:=tk }:=I.turned (fun b o hb e=>kk b o (by simpa using hb) e) f0 f1 f3 f4 f5
  refine ⟨_,rfl,pC (s:={ s with heap:=h',toks:=tk }) (n := "range_iterator") st' rfl rfl (by decide) ⟨.int (lo+i),H,I1,⟨t,?_⟩,⟨rfl,rfl⟩,st',fun b hb=>(hf b hb).1⟩⟩;rw[Int.mul_one]
 done:=by
  intro X hP hw hK hc i pins s σ H E I hf st hg;subst hP hw hK;obtain ⟨f0,f1,f2,f3,f4,f5⟩:=hf it (by simp);exact wpAny_pyNext_range_end (I.ok.hd hc) st (by have:n<=i:=hg;omega) fun h' eb=>⟨rfl,I.turned (t':=s.toks) (fun b o hb e=>eb b o hb e) f0 f1 f3 f4 f5⟩
 self:=fun _ _ _ _ _ st h=>wpAny_pyIter_rangeiter st h
section
variable {X:Cx}{tg:Expr}
theorem pS{pins:List (Addr × Obj)}{σ:St}{H:Hp}{s:Shared}{R:It->Hp->Prop}{E:Value->Shared->Prop}{lo hi:Int}{t u v:Tok}{tk:Nat}(I:Inv X pins σ H s)(h1:-(2 ^ 62)<=lo)(h2:lo<2 ^ 62)(h3:-(2 ^ 62)<=hi)(h4:hi<2 ^ 62)
    (q:R (Itr lo (hi - lo).toNat) H):wpAny (model X.prog X.w) X.A (pyIter (.ref s.heap.objs.size)) (PIE X pins σ tg R) E { s with heap:=s.heap.push { cls:=.type "range", data:=.fields #[.int lo t,.int hi u,.int 1 v] },toks:=tk }:=by
 refine wpAny_pyIter_range (IsRange.new ..) (small_one h1 h2 h3 h4) ?_;have I1:Inv X pins σ H { s with heap:=s.heap.push { cls:=.type "range", data:=.fields #[.int lo t,.int hi u,.int 1 v] },toks:=tk }:=I.kept fun b o e=>Heap.get?_push_of_some _ e
 refine ⟨(s.heap.push { cls:=.type "range", data:=.fields #[.int lo t,.int hi u,.int 1 v] }).objs.size,[(s.heap.push { cls:=.type "range", data:=.fields #[.int lo t,.int hi u,.int 1 v] }).objs.size],_,_,H,rfl,
  I1.kept (t':=tk) fun b o e=>Heap.get?_push_of_some _ e,tT _ lo (hi - lo).toNat,?_,fun b hb=>?_,q⟩
 ·have e1:lo+((0:Nat):Int)*1=lo:=by simp
  have e2:(((hi - lo).toNat:Nat):Int) - ((0:Nat):Int)=Builtin.Range.rangeSize lo hi 1:=by rw[rangeSize_one];split<;>omega
  show IsRangeIter _ _ (lo+((0:Nat):Int)*1) ((((hi - lo).toNat:Nat):Int) - ((0:Nat):Int)) 1;rw[e1,e2];exact Heap.get?_push_size _ rfl
 ·have e:b=(s.heap.push { cls:=.type "range", data:=.fields #[.int lo t,.int hi u,.int 1 v] }).objs.size:=by simpa using hb
  subst e;exact I1.fpOk (Nat.le_refl _) (I1.hok.fresh (Nat.le_refl _))
def C8(ta:TA):TI:=fun σ H R=>ta σ H fun vs H1=>∃ j:Int,vs=[.int j]/\-(2 ^ 62)<=j/\j<2 ^ 62/\R (Itr 0 j.toNat) H1
def C9(ta:TA):TI:=fun σ H R=>ta σ H fun vs H1=>∃ i j:Int,vs=[.int i,.int j]/\(-(2 ^ 62)<=i/\i<2 ^ 62/\-(2 ^ 62)<=j/\j<2 ^ 62)/\R (Itr i (j - i).toNat) H1
theorem u7{a:Expr}{ta:TA}{p pos:Pos}(hg:Gl X "range")(hm:X.mg "range" = none)(ha:PA X [a] ta)(hs:starEach [a] X.env=[(false,eval a X.env)]:=by rfl):PI X tg (.Call (.Name "range" p) [a] [] pos) (C8 ta):=by
 intro pins s σ H R I h;refine Call_ (gU I hg hm boot_range (PyProof.Rows.callWith_type1 (thn (ha pos pins s σ H _ I h) fun us s1 ⟨vs,H1,I1,r1,q1⟩=>?_) hs rfl));obtain ⟨j,e,q1,q2,q⟩:=q1;subst e
 cases r1 with
 |cons r rr=>
  cases rr
  obtain ⟨t,rfl⟩:=r;exact call_range_1 (pS I1 (by omega) (by omega) q1 q2 (by simpa using q))
theorem u8{a b:Expr}{ta:TA}{p pos:Pos}(hg:Gl X "range")(hm:X.mg "range" = none)(ha:PA X [a,b] ta)(hs:starEach [a,b] X.env=[(false,eval a X.env),(false,eval b X.env)]:=by rfl)(hs2:starEach [b] X.env=[(false,eval b X.env)]:=by rfl) :
    PI X tg (.Call (.Name "range" p) [a,b] [] pos) (C9 ta):=by
 intro pins s σ H R I h;refine Call_ (gU I hg hm boot_range (PyProof.Rows.callWith_type1 (thn (ha pos pins s σ H _ I h) fun us s1 ⟨vs,H1,I1,r1,q1⟩=>?_) (by rw[hs,hs2]) (by rw[hs2];rfl)));obtain ⟨i,j,e,⟨q1,q2,q3,q4⟩,q⟩:=q1;subst e
 cases r1 with
 |cons r rr=>
  cases rr with
  |cons r' rr=>
   cases rr
   obtain ⟨t,rfl⟩:=r;obtain ⟨t',rfl⟩:=r';exact call_range_2 (pS I1 q1 q2 q3 q4 q)
def Ea(wi:TI)(g:TG)(tb:TS):TS:=fun D σ H=>wi σ H fun J H1=>∃ W:Nat->Nat->St->Hp->Prop,(∃ m,W 0 m σ H1)/\∀ i m σ H,W i m σ H →
 (J.stop i H/\D.nx σ H)\/(J.go i H/\∃ N:St->Hp->Prop,(∀ σ' H',N σ' H'->∃ m',m'<m/\W (i+1) m' σ' H')/\∀ x H',J.yld i H x H'->g x σ H' fun σ2 H2=>tb { D with nx:=N,ct:=N,bk:=D.nx } σ2 H2)
def j5(fp:List Addr)(h:Heap):List (Addr × Obj):=fp.filterMap fun b=>(h.get? b).map fun o=>(b,o)
theorem ip{fp:List Addr}{h:Heap}{b:Addr}{o:Obj}(hb:b∈fp)(e:h.get? b=some o):(b,o)∈j5 fp h:=List.mem_filterMap.mpr ⟨b,hb,by rw[e];rfl⟩
theorem u9{fp:List Addr}{h:Heap}{p:Addr × Obj}(hp:p∈j5 fp h):p.1∈fp/\h.get? p.1=some p.2:=by
 obtain ⟨b,hb,e⟩:=List.mem_filterMap.mp hp
 cases q:h.get? b with
 |none=>rw[q] at e;cases e
 |some o=>
  rw[q] at e;have e':(b,o)=p:=Option.some.inj e;subst e';exact ⟨hb,q⟩
theorem Inv.pinned{pins:List (Addr × Obj)}{σ:St}{H:Hp}{s:Shared}{fp:List Addr}(I:Inv X pins σ H s)(hf:∀ b∈fp,gw X pins H b)(ho:∀ b∈fp,∃ o,s.heap.get? b=some o/\∀ v,o.data≠.cell v):Inv X (pins++j5 fp s.heap) σ H s:=
 I.pins_of fun p hp=>(List.mem_append.mp hp).elim (fun z=>I.pin p (List.mem_append_right _ z)) fun z=>by
  obtain ⟨hb,e⟩:=u9 z;obtain ⟨f0,f1,f2,_⟩:=hf p.1 hb;obtain ⟨o,e',d⟩:=ho p.1 hb;rw[e] at e';cases e';exact ⟨e,f0,f1,f2,d⟩
theorem Inv.unpinned{pins pl:List (Addr × Obj)}{σ:St}{H:Hp}{s:Shared}(I:Inv X (pins++pl) σ H s):Inv X pins σ H s:=I.pins_of fun p hp=>I.pin p (List.mem_append_right _ (List.mem_append_left _ hp))
theorem Bc{iter:Expr}{body:List Stmt}{wi:TI}{g:TG}{tb:TS}{pos:Pos}(hp:PassesOwn (model X.prog X.w) X.A X.env X.xe)(hc:X.calm=true)(hi:PI X tg iter wi)(hg:PG X tg g)(hb:PSs X body tb)
    (hs:∀ x,foldedSetIterable iter X.env x=pure x:=by intro _;rfl):PS X (.For tg iter body [] pos) (Ea wi g tb):=by
 intro pins s σ H D I h;refine wpAny_For (thn (hi pins s σ H _ I h) fun v s1 h1=>thn h1 fun itv s2 h2=>?_) hs;obtain ⟨it,fp,tn,J,H2,e,I2,T,st2,f2,W,⟨m0,w0⟩,turn⟩:=h2;subst e;have stat:∀ {H':Hp},(∀ b∈fp,H' b=none)->∀ b∈fp,gw X pins H' b:=fun hn b hb=>⟨hn b hb,(f2 b hb).2⟩
 refine codeAny_forLoop_any (fun n s'=>∃ i σ' H',Inv X pins σ' H' s'/\tn i s'.heap/\(∀ b∈fp,H' b=none)/\W i n σ' H') ?_ m0 ⟨0,σ,H2,I2,st2,fun b hb=>(f2 b hb).1,w0⟩;rintro n s3 ⟨i,σ3,H3,I3,st3,fr3,w3⟩;rcases turn i n σ3 H3 w3 with ⟨stop,qn⟩ | ⟨go,N,hN,step⟩
 ·refine wpAny_passesOwn hp (thn (T.done X rfl rfl rfl hc i pins s3 σ3 H3 X.xe I3 (stat fr3) st3 stop) fun r s4 ⟨hr,I4⟩=>?_)
  subst hr;exact wpAny_execs_nil ⟨σ3,H3,I4,qn⟩
 ·refine wpAny_passesOwn hp (thn (T.item X rfl rfl rfl hc i pins s3 σ3 H3 X.xe I3 (stat fr3) st3 go) fun r s4 ⟨u,hr,h4⟩=>?_)
  subst hr;refine wpAny_passesOwn hp (thn h4 fun _ s5 ⟨x,H5,I5,r5,y5,st5,fr5⟩=>?_);have I5':=I5.pinned (stat fr5) (T.obj _ _ st5);refine wpAny_passesOwn hp (thn (hg _ s5 σ3 H5 x u _ I5' r5 (step x H5 y5)) fun _ s6 ⟨σ6,H6,I6,q6⟩=>?_);refine wpAny_passesOwn hp (thn (hb _ s6 σ6 H6 _ I6 q6) fun f s7 q7=>?_)
  have again:∀ {σ7:St} {H7:Hp},Inv X (pins++j5 fp s5.heap) σ7 H7 s7->N σ7 H7->∃ m,m<n/\∃ i σ' H',Inv X pins σ' H' s7/\tn i s7.heap/\(∀ b∈fp,H' b=none)/\W i m σ' H':=fun {σ7 H7} I7 n7=>by
   obtain ⟨m',hm,w7⟩:=hN σ7 H7 n7;refine ⟨m',hm,i+1,σ7,H7,I7.unpinned,T.keep _ _ _ st5 fun b hb o e=>(I7.pin (b,o) (List.mem_append_right _ (List.mem_append_right _ (ip hb e)))).1,fun b hb=>?_,w7⟩;obtain ⟨o,e,d⟩:=T.obj _ _ st5 b hb;exact (I7.pin (b,o) (List.mem_append_right _ (List.mem_append_right _ (ip hb e)))).2.1
  cases f with
  |next=>obtain ⟨σ7,H7,I7,n7⟩:=q7;exact again I7 n7
  |cont=>obtain ⟨σ7,H7,I7,n7⟩:=q7;exact again I7 n7
  |brk=>obtain ⟨σ7,H7,I7,q7⟩:=q7;exact ⟨σ7,H7,I7.unpinned,q7⟩
  |ret v=>obtain ⟨x7,σ7,H7,I7,r7,q7⟩:=q7;exact ⟨x7,σ7,H7,I7.unpinned,r7,q7⟩
end
abbrev R2:=V->V->Hp->VK->Prop
def OpR(X:Cx)(f:Value->Value->Sem Value)(r:R2):Prop:=
 ∀ (pins:List (Addr × Obj)) (s:Shared) (σ:St) (H:Hp) (x y:V) (v u:Value) (Q:VK),Inv X pins σ H s->RelV x v->RelV y u->r x y H Q →
  wpAny (model X.prog X.w) X.A (f v u) (EP X pins σ Q) X.xe s
def UnR(X:Cx)(f:Value->Sem Value)(r:V->Hp->VK->Prop):Prop:=
 ∀ (pins:List (Addr × Obj)) (s:Shared) (σ:St) (H:Hp) (x:V) (v:Value) (Q:VK),Inv X pins σ H s->RelV x v->r x H Q →
  wpAny (model X.prog X.w) X.A (f v) (EP X pins σ Q) X.xe s
def CallR(X:Cx)(f:Value)(r:List V->Hp->VK->Prop):Prop:=
 ∀ (pins:List (Addr × Obj)) (s:Shared) (σ:St) (H:Hp) (xs:List V) (us:List Value) (Q:VK),Inv X pins σ H s->Vals xs us->r xs H Q →
  wpAny (model X.prog X.w) X.A (call f us) (EP X pins σ Q) X.xe s
def tOp(r:R2)(ta tb:TE):TE:=fun σ H Q=>ta σ H fun x H1=>tb σ H1 fun y H2=>r x y H2 Q
def tUn(r:V->Hp->VK->Prop)(ta:TE):TE:=fun σ H Q=>ta σ H fun x H1=>r x H1 Q
def rI(C:Int->Int->Prop)(g:Int->Int->V):R2:=fun x y H Q=>∃ i j,x=.int i/\y=.int j/\C i j/\Q (g i j) H
def rI0(g:Int->Int->V):R2:=fun x y H Q=>∃ i j,x=.int i/\y=.int j/\Q (g i j) H
def rU(g:Int->V):V->Hp->VK->Prop:=fun x H Q=>∃ i,x=.int i/\Q (g i) H
section
variable {X:Cx}{a b c:Expr}{ta tb tc:TE}{pos:Pos}
theorem xt(ha:PE X a ta)(hb:PE X b tb){pins:List (Addr × Obj)}{s:Shared}{σ:St}{H:Hp}{R:V->V->Hp->Prop}(I:Inv X pins σ H s)
    (h:ta σ H fun x H1=>tb σ H1 fun y H2=>R x y H2) {Q:Value->Shared->Prop} {f:Value->Value->Sem Value}
    (hf:∀ v u s2 x y H2,Inv X pins σ H2 s2->RelV x v->RelV y u->R x y H2->wpAny (model X.prog X.w) X.A (f v u) Q X.xe s2) :
    wpAny (model X.prog X.w) X.A (eval a X.env) (fun v s₁=>wpAny (model X.prog X.w) X.A (eval b X.env) (fun u s₂=>wpAny (model X.prog X.w) X.A (f v u) Q X.xe s₂) X.xe s₁) X.xe s:=by
 refine thn (ha pins s σ H _ I h) fun v s1 ⟨x,H1,I1,r1,q1⟩=>?_;refine thn (hb pins s1 σ H1 _ I1 q1) fun u s2 ⟨y,H2,I2,r2,q2⟩=>?_;exact hf v u s2 x y H2 I2 r1 r2 q2
theorem Db{op:Operator}{r:R2}(ho:OpR X (binaryOp op) r)(ha:PE X a ta)(hb:PE X b tb):PE X (.BinOp a op b pos) (tOp r ta tb):=by
 intro pins s σ H Q I h;exact wpAny_BinOp (xt ha hb I h fun v u s2 x y H2 I2 rx ry q=>ho pins s2 σ H2 x y v u Q I2 rx ry q)
theorem Dd{op:UnaryOp}{r:V->Hp->VK->Prop}(ho:UnR X (unaryOp op) r)(ha:PE X a ta):PE X (.UnaryOp op a pos) (tUn r ta):=by
 intro pins s σ H Q I h;exact UnaryOp_ (thn (ha pins s σ H _ I h) fun v s1 ⟨x,H1,I1,r1,q1⟩=>ho pins s1 σ H1 x v Q I1 r1 q1)
theorem opI{f:Value->Value->Sem Value}{C:Int->Int->Prop}{g:Int->Int->Int}
    (rule:∀ (i j:Int) (t u:Tok) (s:Shared) (Q:Value->Shared->Prop) (E:Value->Shared->Prop),C i j->Q (.int (g i j) s.toks) { s with toks:=s.toks+1 }->wpAny (model X.prog X.w) X.A (f (.int i t) (.int j u)) Q E s) :
    OpR X f (rI C fun i j=>.int (g i j)):=by
 intro pins s σ H x y v u Q I rx ry h;obtain ⟨i,j,rfl,rfl,hc,q⟩:=h;obtain ⟨t,rfl⟩:=rx;obtain ⟨t',rfl⟩:=ry;exact rule i j t t' s _ _ hc ⟨.int (g i j),H,I.tok _,⟨_,rfl⟩,q⟩
theorem Be{f:Value->Value->Sem Value}{g:Int->Int->Int}
    (rule:∀ (i j:Int) (t u:Tok) (s:Shared) (Q:Value->Shared->Prop) (E:Value->Shared->Prop),Q (.int (g i j) s.toks) { s with toks:=s.toks+1 }->wpAny (model X.prog X.w) X.A (f (.int i t) (.int j u)) Q E s) :
    OpR X f (rI0 fun i j=>.int (g i j)):=by
 intro pins s σ H x y v u Q I rx ry h;obtain ⟨i,j,rfl,rfl,q⟩:=h;obtain ⟨t,rfl⟩:=rx;obtain ⟨t',rfl⟩:=ry;exact rule i j t t' s _ _ ⟨.int (g i j),H,I.tok _,⟨_,rfl⟩,q⟩
theorem tU{f:Value->Value->Sem Value}{g:Int->Int->Bool}
    (rule:∀ (i j:Int) (t u:Tok) (s:Shared) (Q:Value->Shared->Prop) (E:Value->Shared->Prop),Q (.bool (g i j)) s->wpAny (model X.prog X.w) X.A (f (.int i t) (.int j u)) Q E s) :
    OpR X f (rI0 fun i j=>.bl (g i j)):=by
 intro pins s σ H x y v u Q I rx ry h;obtain ⟨i,j,rfl,rfl,q⟩:=h;obtain ⟨t,rfl⟩:=rx;obtain ⟨t',rfl⟩:=ry;exact rule i j t t' s _ _ ⟨.bl (g i j),H,I,rfl,q⟩
def Eb(i j:Int):Prop:=0<j/\j<1073741824
def CMul(i j:Int):Prop:=(-(2 ^ 64)<i/\i<2 ^ 64)\/(-(2 ^ 64)<j/\j<2 ^ 64)
theorem CMul.ok{i j:Int}(h:CMul i j):IntMulOk i j:=by
 rcases h with ⟨h1,h2⟩ | ⟨h1,h2⟩
 ·exact .of_left (intBits_le_64 h1 h2)
 ·exact .of_right (intBits_le_64 h1 h2)
theorem Bf:OpR X (binaryOp .Add) (rI0 fun i j=>.int (i+j)):=Be fun _ _ _ _ _ _ _ q=>add_int q
theorem Bg:OpR X (binaryOp .Sub) (rI0 fun i j=>.int (i - j)):=Be fun _ _ _ _ _ _ _ q=>sub_int q
theorem Bh:OpR X (binaryOp .Mult) (rI CMul fun i j=>.int (i*j)):=opI fun _ _ _ _ _ _ _ hc q=>mul_int q hc.ok
theorem zu:OpR X (binaryOp .FloorDiv) (rI Eb fun i j=>.int (i / j)):=opI fun i j _ _ _ _ _ hc q=>by
 have h1:(0:Int)<j:=hc.1;have h2:j<1073741824:=hc.2;exact floordiv_int (by omega) (by rw[Int.fdiv_eq_ediv_of_nonneg i (by omega)];exact q) (.inl (PyProof.noPylong_small (by omega)))
theorem Bk:OpR X (binaryOp .Mod) (rI (fun _ j=>0<j) fun i j=>.int (i % j)):=opI fun i j _ _ _ _ _ hc q=>by
 have h1:(0:Int)<j:=hc;exact mod_int' (by omega) (by rw[Int.fmod_eq_emod_of_nonneg i (by omega)];exact q)
theorem unI{f:Value->Sem Value}{g:Int->Int}
    (rule:∀ (i:Int) (t:Tok) (s:Shared) (Q:Value->Shared->Prop) (E:Value->Shared->Prop),Q (.int (g i) s.toks) { s with toks:=s.toks+1 }->wpAny (model X.prog X.w) X.A (f (.int i t)) Q E s) :
    UnR X f (rU fun i=>.int (g i)):=by
 intro pins s σ H x v Q I rx h;obtain ⟨i,rfl,q⟩:=h;obtain ⟨t,rfl⟩:=rx;exact rule i t s _ _ ⟨.int (g i),H,I.tok _,⟨_,rfl⟩,q⟩
theorem Bm:UnR X (unaryOp .USub) (rU fun i=>.int (-i)):=unI fun _ _ _ _ _ q=>neg_int q
end
def Bn:V->V->Bool
 | .non,.non=>true | .non,.int _=>true | .int _,.non=>true | .non,.bl _=>true | .bl _,.non=>true | .non,.str _=>true | .str _,.non=>true
 | .int _,.int _=>true | .bl _,.bl _=>true | .str _,.str _=>true | .byt _,.byt _=>true
 | .int _,.str _=>true | .str _,.int _=>true | .bl _,.str _=>true | .str _,.bl _=>true
 |_,_=>false
def rEq:R2:=fun x y H Q=>Bn x y=true/\Q (.bl (decide (x=y))) H
def rNe:R2:=fun x y H Q=>Bn x y=true/\Q (.bl (!decide (x=y))) H
theorem rW{i j:Int}:decide (V.int i=V.int j)=(i == j):=by
 rw[Bool.eq_iff_iff];simp
theorem vc{i j:Bool}:decide (V.bl i=V.bl j)=(i == j):=by
 rw[Bool.eq_iff_iff];simp
theorem rX{i j:Str}:decide (V.str i=V.str j)=(i == j):=by
 rw[Bool.eq_iff_iff];simp
theorem rY{i j:Array UInt8}:decide (V.byt i=V.byt j)=(i.toList == j.toList):=by
 rw[Bool.eq_iff_iff]
 cases i
 cases j
 simp
section
variable {X:Cx}{a b c:Expr}{ta tb tc:TE}{pos:Pos}
theorem bi{pins:List (Addr × Obj)}{σ:St}{H:Hp}{s:Shared}{Q:VK}{k k':Bool}(I:Inv X pins σ H s)(q:Q (.bl k) H)(e:k=k'):EP X pins σ Q (.bool k') s:=by
 subst e;exact ⟨.bl k,H,I,rfl,q⟩
theorem De:OpR X (compareOp .Eq) rEq:=by
 intro pins s σ H x y v u Q I rx ry h;obtain ⟨hs,q⟩:=h
 cases x with
 |non=>
  cases rx
  cases y with
  |non=>cases ry;exact PySem.EqNone.eq_none_none (bi I q (by simp))
  |bl j=>cases ry;exact PySem.EqNone.eq_none_bool (bi I q (by simp))
  |int j=>obtain ⟨t',rfl⟩:=ry;exact PySem.EqNone.eq_none_int (bi I q (by simp))
  |str j=>obtain ⟨t',rfl⟩:=ry;exact PySem.EqNone.eq_none_str (bi I q (by simp))
  |_=>exact absurd (show false=true from hs) Bool.false_ne_true
 |bl i=>
  cases rx
  cases y with
  |non=>cases ry;exact PySem.EqNone.eq_bool_none (bi I q (by simp))
  |bl j=>cases ry;exact eq_bool (bi I q vc)
  |str j=>obtain ⟨t',rfl⟩:=ry;exact PySem.EqMixed.eq_bool_str (bi I q (by simp))
  |_=>exact absurd (show false=true from hs) Bool.false_ne_true
 |int i=>
  obtain ⟨t,rfl⟩:=rx
  cases y with
  |non=>cases ry;exact PySem.EqNone.eq_int_none (bi I q (by simp))
  |int j=>obtain ⟨t',rfl⟩:=ry;exact eq_int (bi I q rW)
  |str j=>obtain ⟨t',rfl⟩:=ry;exact PySem.EqMixed.eq_int_str (bi I q (by simp))
  |_=>exact absurd (show false=true from hs) Bool.false_ne_true
 |str i=>
  obtain ⟨t,rfl⟩:=rx
  cases y with
  |non=>cases ry;exact PySem.EqNone.eq_str_none (bi I q (by simp))
  |bl j=>cases ry;exact PySem.EqMixed.eq_str_bool (bi I q (by simp))
  |int j=>obtain ⟨t',rfl⟩:=ry;exact PySem.EqMixed.eq_str_int (bi I q (by simp))
  |str j=>obtain ⟨t',rfl⟩:=ry;exact eq_str (bi I q rX)
  |_=>exact absurd (show false=true from hs) Bool.false_ne_true
 |byt i=>
  obtain ⟨t,rfl⟩:=rx
  cases y with
  |byt j=>obtain ⟨t',rfl⟩:=ry;exact PySem.W.eq_bytes (bi I q rY)
  |_=>exact absurd (show false=true from hs) Bool.false_ne_true
 |_=>cases y<;>exact absurd (show false=true from hs) Bool.false_ne_true
theorem Dg:OpR X (compareOp .NotEq) rNe:=by
 intro pins s σ H x y v u Q I rx ry h;obtain ⟨hs,q⟩:=h
 cases x with
 |non=>
  cases rx
  cases y with
  |non=>cases ry;exact PySem.EqNone.ne_none_none (bi I q (by simp))
  |bl j=>cases ry;exact PySem.EqNone.ne_none_bool (bi I q (by simp))
  |int j=>obtain ⟨t',rfl⟩:=ry;exact PySem.EqNone.ne_none_int (bi I q (by simp))
  |str j=>obtain ⟨t',rfl⟩:=ry;exact PySem.EqNone.ne_none_str (bi I q (by simp))
  |_=>exact absurd (show false=true from hs) Bool.false_ne_true
 |bl i=>
  cases rx
  cases y with
  |non=>cases ry;exact PySem.EqNone.ne_bool_none (bi I q (by simp))
  |bl j=>cases ry;exact ne_bool (bi I q (congrArg not vc))
  |str j=>obtain ⟨t',rfl⟩:=ry;exact PySem.EqMixed.ne_bool_str (bi I q (by simp))
  |_=>exact absurd (show false=true from hs) Bool.false_ne_true
 |int i=>
  obtain ⟨t,rfl⟩:=rx
  cases y with
  |non=>cases ry;exact PySem.EqNone.ne_int_none (bi I q (by simp))
  |int j=>obtain ⟨t',rfl⟩:=ry;exact ne_int (bi I q (congrArg not rW))
  |str j=>obtain ⟨t',rfl⟩:=ry;exact PySem.EqMixed.ne_int_str (bi I q (by simp))
  |_=>exact absurd (show false=true from hs) Bool.false_ne_true
 |str i=>
  obtain ⟨t,rfl⟩:=rx
  cases y with
  |non=>cases ry;exact PySem.EqNone.ne_str_none (bi I q (by simp))
  |bl j=>cases ry;exact PySem.EqMixed.ne_str_bool (bi I q (by simp))
  |int j=>obtain ⟨t',rfl⟩:=ry;exact PySem.EqMixed.ne_str_int (bi I q (by simp))
  |str j=>obtain ⟨t',rfl⟩:=ry;exact ne_str (bi I q (congrArg not rX))
  |_=>exact absurd (show false=true from hs) Bool.false_ne_true
 |byt i=>
  obtain ⟨t,rfl⟩:=rx
  cases y with
  |byt j=>obtain ⟨t',rfl⟩:=ry;exact PySem.W.ne_bytes (bi I q (congrArg not rY))
  |_=>exact absurd (show false=true from hs) Bool.false_ne_true
 |_=>cases y<;>exact absurd (show false=true from hs) Bool.false_ne_true
theorem pD:OpR X (compareOp .Lt) (rI0 fun i j=>.bl (decide (i<j))):=tU fun _ _ _ _ _ _ _ q=>lt_int q
theorem gO:OpR X (compareOp .LtE) (rI0 fun i j=>.bl (decide (i<=j))):=tU fun _ _ _ _ _ _ _ q=>le_int q
theorem Dh:OpR X (compareOp .Gt) (rI0 fun i j=>.bl (decide (j<i))):=tU fun _ _ _ _ _ _ _ q=>gt_int q
theorem Di:OpR X (compareOp .GtE) (rI0 fun i j=>.bl (decide (j<=i))):=tU fun _ _ _ _ _ _ _ q=>ge_int q
theorem Bo:OpR X (compareOp .Is) (fun x y H Q=>y=.non/\Q (.bl (decide (x=.non))) H):=by
 intro pins s σ H x y v u Q I rx ry h;obtain ⟨rfl,q⟩:=h
 cases ry
 refine is_none_gen (bi I q ?_)
 cases x<;>first
  | (cases rx;rfl)
  | (obtain ⟨t,rfl⟩:=rx;rfl)
theorem OpR.or{f:Value->Value->Sem Value}{r r':R2}(h:OpR X f r)(h':OpR X f r'):OpR X f (fun x y H Q=>r x y H Q\/r' x y H Q):=by
 intro pins s σ H x y v u Q I rx ry q;rcases q with q | q
 ·exact h pins s σ H x y v u Q I rx ry q
 ·exact h' pins s σ H x y v u Q I rx ry q
theorem be(b:Expr){op:CmpOp}(h:op≠.In:=by decide)(h2:op≠.NotIn:=by decide):behindInMarks op b=false:=by
 have e1:(op == CmpOp.In)=false:=by cases op<;>first | rfl | exact absurd rfl h
 have e2:(op == CmpOp.NotIn)=false:=by cases op<;>first | rfl | exact absurd rfl h2
 cases b<;>simp[behindInMarks,e1,e2]
theorem zv{op:CmpOp}{r:R2}(ho:OpR X (compareOp op) r)(ha:PE X a ta)(hb:PE X b tb)(hm:behindInMarks op b=false):PE X (.Compare a [op] [b] pos) (tOp r ta tb):=by
 intro pins s σ H Q I h;exact wpAny_Compare1 (xt ha hb I h fun v u s2 x y H2 I2 rx ry q=>ho pins s2 σ H2 x y v u Q I2 rx ry q) hm
def yL(t:TE):TT:=fun σ H Q=>t σ H fun x H'=>∃ k,x=.bl k/\Q k H'
theorem zw{op:CmpOp}{r:R2}(ho:OpR X (compareOp op) r)(ha:PE X a ta)(hb:PE X b tb)(hm:behindInMarks op b=false):PT X (.Compare a [op] [b] pos) (yL (tOp r ta tb)):=by
 intro pins s σ H Q I h;refine wpAny_isTrue_Compare1 (thn (ha pins s σ H _ I h) fun v s1 ⟨x,H1,I1,r1,q1⟩=>thn (hb pins s1 σ H1 _ I1 q1) fun u s2 ⟨y,H2,I2,r2,q2⟩=>
  thn (ho pins s2 σ H2 x y v u _ I2 r1 r2 q2) fun c s3 ⟨z,H3,I3,r3,k,e,q3⟩=>?_) hm
 subst e
 cases r3
 exact wpAny_truthy_bool ⟨H3,I3,q3⟩
def pT(r r':R2)(ta tb tc:TE):TE:=fun σ H Q=>ta σ H fun x H1=>tb σ H1 fun y H2=>r x y H2 fun z H3=>∃ k,z=.bl k ∧
 (if k=true then tc σ H3 fun w' H4=>r' y w' H4 Q else Q (.bl false) H3)
theorem xu{op op':CmpOp}{r r':R2}(ho:OpR X (compareOp op) r)(ho':OpR X (compareOp op') r')(ha:PE X a ta)(hb:PE X b tb)(hc:PE X c tc)
    (hm:lastMarks [op,op'] [b,c]=false:=by with_unfolding_all rfl):PE X (.Compare a [op,op'] [b,c] pos) (pT r r' ta tb tc):=by
 intro pins s σ H Q I h;refine Compare_chain (thn (ha pins s σ H _ I h) fun v s1 ⟨x,H1,I1,r1,q1⟩=>chain_link (thn (hb pins s1 σ H1 _ I1 q1) fun u s2 ⟨y,H2,I2,r2,q2⟩=>
  thn (ho pins s2 σ H2 x y v u _ I2 r1 r2 q2) fun d s3 ⟨z,H3,I3,r3,k,e,q3⟩=>?_)) hm
 subst e
 cases r3
 refine wpAny_truthy_bool ?_
 cases k with
 |false=>exact ite_ff ⟨.bl false,H3,I3,rfl,q3⟩
 |true=>exact ite_tt (chain_last (thn (hc pins s3 σ H3 _ I3 q3) fun w' s4 ⟨z',H4,I4,r4,q4⟩=>ho' pins s4 σ H4 y z' u w' Q I4 r2 r4 q4))
theorem xw{op op':CmpOp}{r r':R2}(ho:OpR X (compareOp op) r)(ho':OpR X (compareOp op') r')(ha:PE X a ta)(hb:PE X b tb)(hc:PE X c tc)
    (hm:lastMarks [op,op'] [b,c]=false:=by with_unfolding_all rfl):PT X (.Compare a [op,op'] [b,c] pos) (yL (pT r r' ta tb tc)):=by
 intro pins s σ H Q I h;refine isTrue_chain (thn (ha pins s σ H _ I h) fun v s1 ⟨x,H1,I1,r1,q1⟩=>test_link (thn (hb pins s1 σ H1 _ I1 q1) fun u s2 ⟨y,H2,I2,r2,q2⟩=>
  thn (ho pins s2 σ H2 x y v u _ I2 r1 r2 q2) fun d s3 ⟨z,H3,I3,r3,k,e,q3⟩=>?_)) hm
 subst e
 cases r3
 refine wpAny_truthy_bool ?_
 cases k with
 |false=>
  obtain ⟨k',e',q'⟩:=q3
  cases e'
  exact ite_ff ⟨H3,I3,q'⟩
 |true=>
  refine ite_tt (test_last (thn (hc pins s3 σ H3 _ I3 q3) fun w' s4 ⟨z',H4,I4,r4,q4⟩=>thn (ho' pins s4 σ H4 y z' u w' _ I4 r2 r4 q4) fun d' s5 ⟨z2,H5,I5,r5,k2,e2,q5⟩=>?_));subst e2
  cases r5
  exact wpAny_truthy_bool ⟨H5,I5,q5⟩
theorem j6:(sizeLine:Nat)<2 ^ 63:=by rw[sizeLine_eq];decide
theorem tV:OpR X (binaryOp .Add) (fun x y H Q=>∃ i j,x=.str i/\y=.str j/\i.length+j.length<=sizeLine/\Q (.str (i++j)) H):=by
 intro pins s σ H x y v u Q I rx ry h;obtain ⟨i,j,rfl,rfl,hz,q⟩:=h;obtain ⟨t,rfl⟩:=rx;obtain ⟨t',rfl⟩:=ry;exact add_str (fun t' tk=>⟨.str (i++j),H,I.tok _,⟨_,rfl⟩,q⟩) hz
theorem i3{x:V}{us:List Value}(r:Vals [x] us):∃ u,us=[u]/\RelV x u:=by
 cases r with
 |cons r1 r2=>cases r2;exact ⟨_,rfl,r1⟩
theorem yM{x y:V}{us:List Value}(r:Vals [x,y] us):∃ u w',us=[u,w']/\RelV x u/\RelV y w':=by
 cases r with
 |cons r1 r2=>
  cases r2 with
  |cons r3 r4=>cases r4;exact ⟨_,_,rfl,r1,r3⟩
theorem vd(hc:X.calm=true):CallR X (.builtin "max") (fun xs H Q=>∃ i j,xs=[.int i,.int j]/\Q (.int (if j > i then j else i)) H):=by
 intro pins s σ H xs us Q I r h;obtain ⟨i,j,rfl,q⟩:=h;obtain ⟨u,w',rfl,⟨t,rfl⟩,⟨t',rfl⟩⟩:=yM r;refine max_two_ints (I.ok.hd hc) fun h' tk k=>⟨_,H,I.kept k,?_,q⟩
 by_cases hj:j > i
 ·rw[if_pos hj,if_pos hj];exact ⟨_,rfl⟩
 ·rw[if_neg hj,if_neg hj];exact ⟨_,rfl⟩
theorem ve(hc:X.calm=true):CallR X (.builtin "min") (fun xs H Q=>∃ i j,xs=[.int i,.int j]/\Q (.int (if j<i then j else i)) H):=by
 intro pins s σ H xs us Q I r h;obtain ⟨i,j,rfl,q⟩:=h;obtain ⟨u,w',rfl,⟨t,rfl⟩,⟨t',rfl⟩⟩:=yM r;refine min_two_ints (I.ok.hd hc) fun h' tk k=>⟨_,H,I.kept k,?_,q⟩
 by_cases hj:j<i
 ·rw[if_pos hj,if_pos hj];exact ⟨_,rfl⟩
 ·rw[if_neg hj,if_neg hj];exact ⟨_,rfl⟩
theorem vf:CallR X (.type "int") (fun xs H Q=>(∃ i,xs=[.int i]/\Q (.int i) H)\/∃ k,xs=[.bl k]/\Q (.int (if k then 1 else 0)) H):=by
 intro pins s σ H xs us Q I r h;rcases h with ⟨i,rfl,q⟩ | ⟨k,rfl,q⟩
 ·obtain ⟨u,rfl,t,rfl⟩:=i3 r
  exact call_int_int ⟨.int i,H,I,⟨_,rfl⟩,q⟩
 ·obtain ⟨u,rfl,r1⟩:=i3 r
  cases r1
  exact call_int_bool ⟨.int (if k then 1 else 0),H,I.tok _,⟨_,rfl⟩,q⟩
end
structure ObjM (h:Heap) (x dx C:Addr) (mA:Str->Option Value):Prop where
 obj:h.get? x=some (PySem.W.instObj C dx)
 ns:h.Ns1 dx mA
 ne:dx≠x
theorem vg{h:Heap}{dx:Addr}{mA:Str->Option Value}(n:h.Ns1 dx mA):∃ od,h.get? dx=some od/\∀ name,PySem.W.lookIn name od=some (mA name):=by
 obtain ⟨o,es,ep,ho,hd,hk,_,hm⟩:=n;refine ⟨o,ho,fun name=>?_⟩;have e:=hm name;unfold nsFind findBy at e;rw[<- Array.find?_toList] at e;unfold PySem.W.lookIn;rw[hd];dsimp only;split
 ·rename_i y q
  rw[q] at e;exact congrArg some e
 ·rename_i q
  rw[q] at e;have a:es.toList.any (·.refKey)=false:=by
   rw[List.any_eq_false];intro y hy;obtain ⟨z,t,hkey⟩:=hk y (Array.mem_toList_iff.mp hy);simp[DictEntry.refKey,hkey]
  have a':¬ es.toList.any (·.refKey)=true:=by rw[a];exact Bool.false_ne_true
  rw[if_neg a'];exact congrArg some e
theorem ObjM.look{h:Heap}{x dx C:Addr}{mA:Str->Option Value}(I:ObjM h x dx C mA):∃ od,PySem.W.InstAt h x (PySem.W.instObj C dx) C (some od)/\∀ name,PySem.W.lookIn name od=some (mA name):=
 let ⟨od,ho,hl⟩:=vg I.ns
 ⟨od,⟨I.obj,rfl,rfl,ho⟩,hl⟩
section
variable {prog:Program}{w:World}{A:Around}{E:Value->Shared->Prop}{s:Shared}{K:PySem.W.Frag}{x dx C f:Addr}{mA:Str->Option Value}{name:Str}{v:Value}
theorem zx{expr:Bool}{Q:Value->Shared->Prop}(X:K.In s.heap)(I:ObjM s.heap x dx C mA)(hg:PySem.W.plainGet K C name=true)(hh:PySem.W.hasDictIn K C=true)
    (ha:PySem.W.findIn K (.ref C) name=some none) (hv:mA name=some v) (hv':PySem.W.handedIn v=true) (h:Q v { s with toks:=s.toks+1 }) :
    wpAny (model prog w) A (getAttr (.ref x) name expr) Q E s:=by
 obtain ⟨od,J,hl⟩:=I.look;exact PySem.W.get_value X J (PySem.W.plainGet_of hg).1 (PySem.W.findObj_own hh ha rfl (by rw[hl,hv])) hv' h
theorem zy{ns:List Str}{Q:Unit->Shared->Prop}(X:K.In s.heap)(I:ObjM s.heap x dx C mA)
    (hs:PySem.W.findIn K (.ref C) "__setattr__" = some (some (.builtin "object.__setattr__"))) (hp:PySem.W.plainOver K C=true) (ht:PySem.W.takerIn K C name=some none) (hh:PySem.W.hasDictIn K C=true)
    (hw:PySem.Within mA ns) (hsz:ns.length<=sizeLine)
    (h:∀ h',ObjM h' x dx C (fun y=>if y=name then some v else mA y)->Heap.SameBut dx s.heap h'->Q () { s with heap:=h',toks:=s.toks+2 }) :
    wpAny (model prog w) A (setAttr (.ref x) name v) Q E s:=by
 obtain ⟨od,J,hl⟩:=I.look;refine PySem.W.set_plain X J hs (PySem.W.osa_open (s:={ s with toks:=s.toks+1 }) (r:=none) X J hp ht fun b=>?_);obtain ⟨cd,hc,hd'⟩:=PySem.W.any_some hh;have hx:s.heap.get? x=some ⟨.ref C,some dx,.plain,#[]⟩:=I.obj
 refine wpAny_bind (wpAny_pure (wpAny_bind (wpAny_bind (wpAny_loadPart hx (wpAny_bind (PySem.W.Looks.here (s:={ s with toks:=s.toks+1 }) (PySem.W.looks_clsIn X hc) ?_))))));rw[hd'];refine wpAny_pure (a:=some dx) (wpAny_bind (wpAny_pure (wpAny_bind ?_)));refine wpAny_nsSet1 (s:={ s with toks:=s.toks+1 }) I.ns fun h' hn2 hs2=>?_
 obtain ⟨oD,esD,epD,hoD,hdD,hcD⟩:=hn2.count (PySem.Within.cons name v hw);refine wpAny_bind (wpAny_lookBehind hoD (by rw[hdD];exact pastItsLine_dict (Nat.le_trans hcD (by rw[List.length_cons];omega))) ?_);exact wpAny_pure (h _ ⟨(hs2.2 _ (Ne.symm I.ne)).trans I.obj,hn2,I.ne⟩ hs2)
theorem xx{R:Result->Shared->Prop}{vs:List Value}{kw:List (Str × Value)}(X:K.In s.heap)(hm:PySem.W.makesIn K C=true)
    (hi:PySem.W.findIn K (.ref C) "__init__" = some (some (.ref f))) (hf:PySem.W.typeIn K (.ref f)=some (.type "function"))
    (h:codeAny (model prog w) (A.under (.builtin "type.__call__" ⟨.ref C::vs,kw⟩)) (.call (.ref f) ⟨.ref (s.heap.objs.size+1)::vs,kw⟩) (PySem.W.InitBack (s.heap.objs.size+1) R)
     { s with heap:=(s.heap.push PySem.W.emptyDict).push (PySem.W.instObj C s.heap.objs.size) }) :
    codeAny (model prog w) A (.call (.ref C) ⟨vs,kw⟩) R s:=by
 obtain ⟨hh,g,d,t,os⟩:=s;exact PySem.W.make_core (PySem.W.makes_of X hm) (PySem.W.looks_findIn X hi) (fun self=>PySem.W.bind_fn X self hf) (.inl rfl) h
end
def dI(f:Str)(v:V):List (Str × V)->List (Str × V)
 | []=>[(f,v)]
 | (g,x)::r=>if g=f then (g,v)::r else (g,x)::dI f v r
theorem lH(f g:Str)(v:V):∀ fs:List (Str × V),(dI f v fs).lookup g=if g=f then some v else fs.lookup g
 | []=>by
  show List.lookup g [(f,v)]=_;by_cases h:g=f
  ·have hb:(g == f)=true:=beq_iff_eq.mpr h
   simp only[List.lookup,hb,if_pos h]
  ·have hb:(g == f)=false:=beq_eq_false_iff_ne.mpr h
   simp only[List.lookup,hb,if_neg h]
 | (k,x)::r=>by
  have ih:=lH f g v r;rw[show dI f v ((k,x)::r)=(if k=f then (k,v)::r else (k,x)::dI f v r) from rfl];by_cases hk:k=f
  ·rw[if_pos hk]
   by_cases h:g=k
   ·have hb:(g == k)=true:=beq_iff_eq.mpr h
    simp only[List.lookup,hb,if_pos (h.trans hk)]
   ·have hb:(g == k)=false:=beq_eq_false_iff_ne.mpr h
    simp only[List.lookup,hb,if_neg (fun e:g=f=>h (e.trans hk.symm))]
  ·rw[if_neg hk]
   by_cases h:g=k
   ·have hb:(g == k)=true:=beq_iff_eq.mpr h
    simp only[List.lookup,hb,if_neg (fun e:g=f=>hk (h.symm.trans e))]
   ·have hb:(g == k)=false:=beq_eq_false_iff_ne.mpr h
    simp only[List.lookup,hb];exact ih
theorem j7(f:Str)(v:V):∀ fs:List (Str × V),f∈(dI f v fs).map (·.1)/\∀ g,g∈fs.map (·.1)->g∈(dI f v fs).map (·.1)
 | []=>⟨by simp[dI],fun g h=>by simp at h⟩
 | (k,x)::r=>by
  obtain ⟨i1,i2⟩:=j7 f v r;rw[show dI f v ((k,x)::r)=(if k=f then (k,v)::r else (k,x)::dI f v r) from rfl];by_cases hk:k=f
  ·rw[if_pos hk]
   subst hk;exact ⟨by simp,fun g h=>by simpa using h⟩
  ·rw[if_neg hk]
   refine ⟨?_,fun g h=>?_⟩
   ·rw[List.map_cons]
    exact List.mem_cons_of_mem _ i1
   ·rw[List.map_cons] at h ⊢
    rcases List.mem_cons.mp h with e | e
    ·exact List.mem_cons.mpr (.inl e)
    ·exact List.mem_cons_of_mem _ (i2 g e)
theorem lI(f:Str)(v:V):∀ fs:List (Str × V),(dI f v fs).length<=fs.length+1
 | []=>by simp[dI]
 | (k,x)::r=>by
  have ih:=lI f v r;rw[show dI f v ((k,x)::r)=(if k=f then (k,v)::r else (k,x)::dI f v r) from rfl];by_cases hk:k=f
  ·rw[if_pos hk,List.length_cons,List.length_cons];omega
  ·rw[if_neg hk,List.length_cons,List.length_cons];omega
theorem RelO.some_of{v:V}{o:Option Value}(r:RelO (some v) o):∃ u,o=some u/\RelV v u:=by
 cases o with
 |none=>exact (show False from r).elim
 |some u=>exact ⟨u,rfl,r⟩
theorem vh{v:V}{u:Value}(r:RelV v u):PySem.W.handedIn u=true:=by
 cases v with
 |non=>cases (show u=Value.none from r);rfl
 |bl b=>cases (show u=Value.bool b from r);rfl
 |int i=>obtain ⟨t,e⟩:=(show ∃ t,u=Value.int i t from r);cases e;rfl
 |str x=>obtain ⟨t,e⟩:=(show ∃ t,u=Value.str x t from r);cases e;rfl
 |byt b=>obtain ⟨t,e⟩:=(show ∃ t,u=Value.bytes b t from r);cases e;rfl
 |flt b=>obtain ⟨t,e⟩:=(show ∃ t,u=Value.float b t from r);cases e;rfl
 |ref a=>cases (show u=Value.ref a from r);rfl
 |ty n=>cases (show u=Value.type n from r);rfl
section
variable {P:Program}{w:World}{H H':Hp}{h h':Heap}{a C dx:Addr}{fs fs':List (Str × V)}
theorem nJ(hok:HOk P w H h)(e:H a=some (.ins C dx fs)):∃ mA,ObjM h a dx C mA/\(∀ f,RelO (fs.lookup f) (mA f))/\PySem.Within mA (fs.map (·.1))/\fs.length<=1000/\H dx=some (.own a):=by
 obtain ⟨d,z,ne,ob,mA,n,r,q⟩:=(show ObjOk P w H h a (.ins C dx fs) from hok a _ e)
 exact ⟨mA,⟨ob,n,ne⟩,r,q,z,d⟩
end
structure Cls (K:PySem.W.Frag) (C:Addr):Prop where
 pg:PySem.W.plainGet K C Str.empty=true
 hd:PySem.W.hasDictIn K C=true
 po:PySem.W.plainOver K C=true
 sa:PySem.W.findIn K (.ref C) "__setattr__" = some (some (.builtin "object.__setattr__"))
theorem Cls.get{K:PySem.W.Frag}{C:Addr}(c:Cls K C)(f:Str):PySem.W.plainGet K C f=true:=c.pg
def NoAttr(K:PySem.W.Frag)(C:Addr)(f:Str):Prop:=PySem.W.findIn K (.ref C) f=some none
theorem NoAttr.taker{K:PySem.W.Frag}{C:Addr}{f:Str}(n:NoAttr K C f):PySem.W.takerIn K C f=some none:=by
 unfold PySem.W.takerIn;rw[show PySem.W.findIn K (.ref C) f=some none from n];rfl
structure Con (K:PySem.W.Frag) (C:Addr) (f:Str) (v:V) (u:Value):Prop where
 at_:PySem.W.findIn K (.ref C) f=some (some u)
 rel:RelV v u
 get:PySem.W.specialIn K u "__get__" = some none
 cp:PySem.W.copiedNames.contains f=false
structure Meth (K:PySem.W.Frag) (C:Addr) (m:Str) (f:Addr):Prop where
 at_:PySem.W.findIn K (.ref C) m=some (some (.ref f))
 fn:PySem.W.isFn K (.ref f)=true
 kp:PySem.W.keepIn K (.ref f)=true
section
variable {X:Cx}{pins:List (Addr × Obj)}{σ:St}{H:Hp}{s:Shared}{a C dx:Addr}{fs:List (Str × V)}{f:Str}{v:V}{A:Around}{E:Value->Shared->Prop}
theorem tW{b:Bool}{Q:Value->Shared->Prop}(I:Inv X pins σ H s)(e:H a=some (.ins C dx fs))(c:Cls X.K C)(n:NoAttr X.K C f)(l:fs.lookup f=some v)
    (h:∀ u s',Inv X pins σ H s'->RelV v u->Q u s'):wpAny (model X.prog X.w) A (getAttr (.ref a) f b) Q E s:=by
 obtain ⟨mA,O,r,_,_,_⟩:=nJ I.hok e;obtain ⟨u,hu,ru⟩:=RelO.some_of (v:=v) (o:=mA f) (by rw[<- l];exact r f);exact zx I.kIn O (c.get f) c.hd n hu (vh ru) (h u _ (I.tok _) ru)
theorem tX{y:V}{u:Value}{Q:Unit->Shared->Prop}(I:Inv X pins σ H s)(e:H a=some (.ins C dx fs))(c:Cls X.K C)(n:NoAttr X.K C f)(hl:fs.length<1000)(ry:RelV y u)
    (h:∀ s',Inv X pins σ (upd H a (.ins C dx (dI f y fs))) s'->Q () s'):wpAny (model X.prog X.w) A (setAttr (.ref a) f u) Q E s:=by
 obtain ⟨mA,O,r,wi,_,ho⟩:=nJ I.hok e;have hz:(fs.map (·.1)).length<=sizeLine:=by rw[List.length_map,sizeLine_eq];omega
 refine zy I.kIn O c.sa c.po n.taker c.hd wi hz fun h' O' sb=>h _ ?_;have hd:∃ o,h'.get? dx=some o:=let ⟨o,_,_,e',_⟩:=O'.ns;⟨o,e'⟩;refine I.write (x:=a) (e:=dx) (by rw[e];exact True.intro) (.inr ho) (fun b q hb z=>(sb.2 b hb).trans z) hd ?_;refine ⟨by rw[aR O.ne];exact ho,?_,O.ne,O'.obj,_,O'.ns,fun g=>?_,fun g hg=>?_⟩
 ·have:=lI f y fs;omega
 ·show RelO ((dI f y fs).lookup g) (if g=f then some u else mA g)
  rw[lH];by_cases q:g=f
  ·rw[if_pos q,if_pos q];exact ry
  ·rw[if_neg q,if_neg q];exact r g
 ·by_cases q:g=f
  ·rw[q];exact (j7 f y fs).1
  ·refine (j7 f y fs).2 g (wi g fun z=>hg ?_)
   show (if g=f then some u else mA g)=none;rw[if_neg q];exact z
theorem Inv.made(I:Inv X pins σ H s):Inv X pins σ (upd (upd H s.heap.objs.size (.own (s.heap.objs.size+1))) (s.heap.objs.size+1) (.ins C s.heap.objs.size []))
    { s with heap:=(s.heap.push PySem.W.emptyDict).push (PySem.W.instObj C s.heap.objs.size) }:=by
 have e1:(s.heap.push PySem.W.emptyDict).get? s.heap.objs.size=some PySem.W.emptyDict:=Heap.get?_push_size s.heap rfl;have e2:((s.heap.push PySem.W.emptyDict).push (PySem.W.instObj C s.heap.objs.size)).get? (s.heap.objs.size+1)=some (PySem.W.instObj C s.heap.objs.size):=by
  have:=Heap.get?_push_size (s.heap.push PySem.W.emptyDict) (o:=PySem.W.instObj C s.heap.objs.size) rfl;rwa [Heap.size_push] at this
 have e3:(s.heap.push PySem.W.emptyDict).Ns s.heap.objs.size (fun _=>none):=⟨PySem.W.emptyDict,#[],_,e1,rfl,(fun e he=>absurd he (by simp)),fun _=>rfl⟩
 have I1:=I.laid (a:=s.heap.objs.size) (o:=.own (s.heap.objs.size+1)) (h':=s.heap.push PySem.W.emptyDict) (t':=s.toks) (fun b u q=>Heap.get?_push_of_some _ q) (Nat.le_refl _) ⟨_,e1⟩;refine I1.laid (a:=s.heap.objs.size+1) (o:=.ins C s.heap.objs.size []) (t':=s.toks) (fun b u q=>Heap.get?_push_of_some _ q) (Nat.le_of_eq (Heap.size_push _ _)) ?_
 have ne:s.heap.objs.size≠s.heap.objs.size+1:=Nat.ne_of_lt (Nat.lt_succ_self _);refine ⟨by rw[aR ne,bP],Nat.zero_le _,ne,e2,fun _=>none,(Heap.Ns1.of_empty e3).at fun o q=>Heap.get?_push_of_some _ q,fun _=>True.intro,fun y hy=>absurd rfl hy⟩
theorem zz{prog:Program}{w:World}{env:Env}{e:Expr}{f:Str}{pos:Pos}{s:Shared}{Q:Value->Shared->Prop}(hb:attributeBase e f env (eval e env)=eval e env)
    (h:wpAny (model prog w) A (eval e env) (fun o s₁=>wpAny (model prog w) A (getAttr o f true) Q E s₁) E s):wpAny (model prog w) A (eval (.Attribute e f pos) env) Q E s:=
 Attribute_any_ h (by rw[arm_eval_Attribute,hb])
end
def Ec(K:PySem.W.Frag)(ta:TE)(f:Str):TE:=fun σ H Q=>ta σ H fun x H1=>∃ a C dx fs v,x=.ref a/\H1 a=some (.ins C dx fs)/\Cls K C/\NoAttr K C f/\fs.lookup f=some v/\Q v H1
def Ed(K:PySem.W.Frag)(ta tv:TE)(f:Str):TS:=fun D σ H=>tv σ H fun y H1=>ta σ H1 fun x H2=>∃ a C dx fs,x=.ref a/\H2 a=some (.ins C dx fs)/\Cls K C/\NoAttr K C f/\fs.length<1000 ∧
 D.nx σ (upd H2 a (.ins C dx (dI f y fs)))
section
variable {X:Cx}{o e value:Expr}{f:Str}{pos pos' tpos:Pos}{ta tv:TE}
theorem Bp(he:PE X e ta)(hb:attributeBase e f X.env (eval e X.env)=eval e X.env):PE X (.Attribute e f pos) (Ec X.K ta f):=by
 intro pins s σ H Q I h;refine zz hb (thn (he pins s σ H _ I h) fun u s1 ⟨x,H1,I1,rx,a,C,dx,fs,v,ex,ea,c,n,l,q⟩=>?_);subst ex;obtain rfl:u=Value.ref a:=rx;exact tW I1 ea c n l fun u' s2 I2 ru=>⟨v,H1,I2,ru,q⟩
theorem Bq(ha:PE X o ta)(hv:PE X value tv)(hs:swapsWith value (some (.Attribute o f pos')) pos.line X.env=pure false):PS X (.Assign [.Attribute o f pos'] value pos) (Ed X.K ta tv f):=by
 intro pins s σ H D I h;refine plainObj_wpAny_Assign_Attribute (thn (hv pins s σ H _ I h) fun u s1 ⟨y,H1,I1,ry,q⟩=>thn (ha pins s1 σ H1 _ I1 q) fun ov s2 ⟨x,H2,I2,rx,a,C,dx,fs,ex,ea,c,n,l,q2⟩=>?_) hs;subst ex;obtain rfl:ov=Value.ref a:=rx;exact tX I2 ea c n l ry fun s3 I3=>⟨σ,_,I3,q2⟩
end
section
variable {X:Cx}{pins:List (Addr × Obj)}{σ:St}{H:Hp}{s:Shared}{A:Around}{E:Value->Shared->Prop}{Q:Value->Shared->Prop}{c:Value}{b:Bool}
inductive TyOf (K:PySem.W.Frag) (H:Hp):V->Value->Prop where
 |non:TyOf K H .non (.type "NoneType")
 |bl (x:Bool):TyOf K H (.bl x) (.type "bool")
 |int (i:Int):TyOf K H (.int i) (.type "int")
 |str (x:Str):TyOf K H (.str x) (.type "str")
 |flt (x:UInt64):TyOf K H (.flt x) (.type "float")
 |lst {a:Addr} {xs:List V} (e:H a=some (.lst xs)):TyOf K H (.ref a) (.type "list")
 |frz {a:Addr} {o:Obj} {xs:List V} (e:H a=some (.frz o (.lst xs))):TyOf K H (.ref a) (.type "list")
 |tup {a:Addr} {xs:List V} (e:H a=some (.tup xs)):TyOf K H (.ref a) (.type "tuple")
 |dK {a:Addr} {kvs:List (Key × V)} (e:H a=some (.dK kvs)):TyOf K H (.ref a) (.type "dict")
 |dT {a:Addr} {kvs:List (List Key × V)} (e:H a=some (.dT kvs)):TyOf K H (.ref a) (.type "dict")
 |ins {a C dx:Addr} {fs:List (Str × V)} (e:H a=some (.ins C dx fs)) (cl:Cls K C) (ha:PySem.W.findIn K (.ref C) "__class__" = some (some (.builtin "object.__class__")))
     (hn:PySem.W.specialIn K (.builtin "object.__class__") "__get__" = some (some (.builtin "getset_descriptor.__get__"))) (htk:PySem.W.takesIn K (.builtin "object.__class__")=some true)
     (hm:PySem.W.mroIn K C (.type "object")=some true):TyOf K H (.ref a) (.ref C)
theorem vk{x:V}{u t:Value}(I:Inv X pins σ H s)(rx:RelV x u)(ty:TyOf X.K H x t)(e:PySem.W.kitOne X.K t c=some b)(h:∀ tk,Q (.bool b) { s with toks:=tk }) :
    wpAny (model X.prog X.w) A (call (.builtin "isinstance") [u,c]) Q E s:=by
 cases ty with
 |non=>cases (show u=Value.none from rx);exact PySem.W.kia_one PySem.W.kitx_none I.kIn True.intro e (fun z=>nomatch z) h
 |bl y=>cases (show u=Value.bool y from rx);exact PySem.W.kia_one PySem.W.kitx_bool I.kIn True.intro e (fun z=>nomatch z) h
 |int i=>obtain ⟨t,q⟩:=(show ∃ t,u=Value.int i t from rx);cases q;exact PySem.W.kia_one PySem.W.kitx_int I.kIn True.intro e (fun z=>nomatch z) h
 |str y=>obtain ⟨t,q⟩:=(show ∃ t,u=Value.str y t from rx);cases q;exact PySem.W.kia_one PySem.W.kitx_str I.kIn True.intro e (fun z=>nomatch z) h
 |flt y=>obtain ⟨t,q⟩:=(show ∃ t,u=Value.float y t from rx);cases q;exact PySem.W.kia_one PySem.W.kitx_float I.kIn True.intro e (fun z=>nomatch z) h
 | @lst a xs ea=>
  cases (show u=Value.ref a from rx)
  obtain ⟨_,_,n,_,h1⟩:=(show ObjOk X.prog X.w H s.heap a (.lst xs) from I.hok a _ ea)
  exact PySem.W.kia_one PySem.W.kitx_list I.kIn ⟨_,h1,rfl⟩ e (fun z=>nomatch z) h
 | @frz a ob xs ea=>
  cases (show u=Value.ref a from rx)
  obtain ⟨_,_,_,n,_,h1⟩:=(show ObjOk X.prog X.w H s.heap a (.frz ob (.lst xs)) from I.hok a _ ea)
  exact PySem.W.kia_one PySem.W.kitx_list I.kIn ⟨_,h1,rfl⟩ e (fun z=>nomatch z) h
 | @tup a xs ea=>
  cases (show u=Value.ref a from rx)
  obtain ⟨_,_,_,p⟩:=(show ObjOk X.prog X.w H s.heap a (.tup xs) from I.hok a _ ea)
  obtain ⟨o,h1,h2,_⟩:=p;exact PySem.W.kia_one PySem.W.kitx_tuple I.kIn ⟨o,h1,h2⟩ e (fun z=>nomatch z) h
 | @dK a kvs ea=>
  cases (show u=Value.ref a from rx)
  obtain ⟨_,_,vs,_,p⟩:=(show ObjOk X.prog X.w H s.heap a (.dK kvs) from I.hok a _ ea)
  obtain ⟨o,es,ep,h1,h2,_⟩:=p;exact PySem.W.kia_one PySem.W.kitx_dict I.kIn ⟨o,h1,h2.1⟩ e (fun z=>nomatch z) h
 | @dT a kvs ea=>
  cases (show u=Value.ref a from rx)
  obtain ⟨_,_,xs,_,o,es,ep,h1,h2,_⟩:=(show ObjOk X.prog X.w H s.heap a (.dT kvs) from I.hok a _ ea)
  exact PySem.W.kia_one PySem.W.kitx_dict I.kIn ⟨o,h1,h2.1⟩ e (fun z=>nomatch z) h
 | @ins a C dx fs ea cl ha hn htk hm=>
  cases (show u=Value.ref a from rx)
  obtain ⟨mA,O,_⟩:=nJ I.hok ea;obtain ⟨od,J,_⟩:=O.look;exact PySem.W.kia_one (PySem.W.kitx_own (cl.get _) cl.hd ha hn htk hm) I.kIn J e (fun z=>nomatch z) h
end
structure Room (k:Nat) (A:Around):Prop where
 hd:A.handled=none
 dp:A.depth+3*k+5<recursionLimit
 un:A.units+16*k+200<cLine
theorem Room.mono{j k:Nat}{A:Around}(r:Room k A)(h:j<=k):Room j A:=⟨r.hd,by have:=r.dp;omega,by have:=r.un;omega⟩
theorem Room.deeper{k:Nat}{A:Around}(r:Room (k+1) A)(env:Env):Room k (A.deeper env):=
 ⟨r.hd,by have:=r.dp;show A.depth+1+3*k+5<_;omega,by have:=r.un;show A.units+3+16*k+200<_;omega⟩
theorem tY{A:Around}{C:Addr}{us:List Value}{kw:List (Str × Value)}:(A.under (.builtin "type.__call__" ⟨.ref C::us,kw⟩)).depth=A.depth+1:=by
 first | rfl | simp[Around.under,Code.weight,Code.isCreation,Code.isGuard,Code.isCaller,Code.frames,Code.isFrame,guardIds]
theorem tZ{A:Around}{C:Addr}{us:List Value}{kw:List (Str × Value)}:(A.under (.builtin "type.__call__" ⟨.ref C::us,kw⟩)).units=A.units+1:=by
 first | rfl | simp[Around.under,Code.cUnits,Code.frames,Code.isFrame]
theorem Room.make{k:Nat}{A:Around}(r:Room (k+1) A)(C:Addr)(us:List Value)(kw:List (Str × Value)):Room k (A.under (.builtin "type.__call__" ⟨.ref C::us,kw⟩)):=
 ⟨r.hd,by have:=r.dp;rw[tY];omega,by have:=r.un;rw[tZ];omega⟩
theorem Room.depth{k:Nat}{A:Around}(r:Room k A):A.depth<recursionLimit:=by have:=r.dp;omega
def Ee:TA:=fun _ H Q=>Q [] H
def Dj(ta:TE)(tr:TA):TA:=fun σ H Q=>ta σ H fun x H1=>tr σ H1 fun xs H2=>Q (x::xs) H2
section
variable {X:Cx}{e:Expr}{es:List Expr}{te:TE}{t:TA}{pos:Pos}
theorem fW:PA X [] Ee:=fun _ _ _ _ H Q I h=>Calls.spliced_nil ⟨[],H,I,.nil,h⟩
theorem eG(ha:PE X e te)(hr:PA X es t)(hs:starEach (e::es) X.env=(false,eval e X.env)::starEach es X.env:=by rfl):PA X (e::es) (Dj te t):=by
 intro pos pins s σ H Q I h;rw[hs];show wpAny _ _ (spliced ((false,eval e X.env)::backTo pos (starEach es X.env))) _ _ s;refine Calls.spliced_cons (thn (ha pins s σ H _ I h) fun u s1 ⟨x,H1,I1,r1,q1⟩=>?_);exact thn (hr pos pins s1 σ H1 _ I1 q1) fun us s2 ⟨xs,H2,I2,r2,q2⟩=>⟨x::xs,H2,I2,.cons r1 r2,q2⟩
def Ef(t:TA):TE:=fun σ H Q=>t σ H fun xs H1=>xs.length<=sizeLine/\∀ p,H1 p=none->Q (.ref p) (upd H1 p (.tup xs))
def Eg(t:TA):TE:=fun σ H Q=>t σ H fun xs H1=>xs.length<=sizeLine/\∀ p,H1 p=none->Q (.ref p) (upd H1 p (.lst xs))
theorem Br{x1}(h:PA X es t):PE X (.Tuple es x1 pos) (Ef t):=by
 intro pins s σ H Q I hq;refine wpAny_Tuple_spliced (thn (h pos pins s σ H _ I hq) fun us s1 ⟨xs,H1,I1,r,z,q⟩=>⟨by rw[<- r.length];exact z,?_⟩);have hf:H1 s1.heap.objs.size=none:=I1.hok.fresh (Nat.le_refl _);refine ⟨.ref s1.heap.objs.size,upd H1 s1.heap.objs.size (.tup xs),I1.laid (t':=s1.toks) (fun b u e=>Heap.get?_push_of_some _ e) (Nat.le_refl _) ?_,rfl,q _ hf⟩
 exact ⟨z,us,r,⟨_,Heap.get?_push_size _ rfl,rfl,_,rfl⟩⟩
theorem Bs(h:PA X es t):PE X (.List es pos) (Eg t):=by
 intro pins s σ H Q I hq;refine wpAny_List_spliced (thn (h pos pins s σ H _ I hq) fun us s1 ⟨xs,H1,I1,r,z,q⟩=>⟨by rw[<- r.length];exact z,?_⟩);have hf:H1 s1.heap.objs.size=none:=I1.hok.fresh (Nat.le_refl _);refine ⟨.ref s1.heap.objs.size,upd H1 s1.heap.objs.size (.lst xs),I1.laid (t':=s1.toks) (fun b u e=>Heap.get?_push_of_some _ e) (Nat.le_refl _) ?_,rfl,q _ hf⟩
 exact ⟨z,us,0,r,Heap.get?_push_size _ rfl⟩
end
abbrev Sp:=List V->Hp->VK->XK->Prop
abbrev CXT:=List Env->Hp->Shared->XK->Value->Shared->Prop
structure Env0 (P:Program) (w:World) (K:PySem.W.Frag) (mg:Str->Option Value) (base:Heap) (A:Around) (outer:List Env) (s:Shared) (H:Hp):Prop where
 frames:A.frames=some outer
 mod:Mod K mg base
 bs:∀ b o,base.get? b=some o->s.heap.get? b=some o/\H b=none
 bsz:base.objs.size<=s.heap.objs.size
 funs:s.heap.FunFrames base outer
 frf:∀ b∈frs outer,H b=none
 hok:HOk P w H s.heap
 bare:AllBare s.gens
def CE(outer:List Env)(P:Program)(w:World)(H:Hp)(s:Shared)(Q:VK)(u:Value)(s':Shared):Prop:=
 ∃ v H',s'.os=s.os/\AllBare s'.gens/\Un (frs outer) [] H H' s.heap s'.heap/\HOk P w H' s'.heap/\RelV v u/\Q v H'
def CR(CX:CXT)(outer:List Env)(P:Program)(w:World)(H:Hp)(s:Shared)(Q:VK)(E:XK)(r:Result)(s':Shared):Prop:=
 match r with
 | .ok (.ret u)=>CE outer P w H s Q u s'
 | .ok _=>False
 | .error e=>CX outer H s E e s'
structure FnOk (P:Program) (w:World) (K:PySem.W.Frag) (mg:Str->Option Value) (base:Heap) (CX:CXT) (k:Nat) (f:Addr) (fd:FuncData) (ps:List Str) (sp:Sp):Prop where
 len:∀ vs H Q E,sp vs H Q E->vs.length=ps.length
 run:∀ (A:Around) (outer:List Env) (s:Shared) (H:Hp) (args:Args) (us:List Value) (vs:List V) (Q:VK) (E:XK),Room k A->Env0 P w K mg base A outer s H->BindsTo s fd args (ps.zip us)->Vals vs us->sp vs H Q E →
  codeAny (model P w) A (.call (.ref f) args) (CR CX outer P w H s Q E) s
theorem Env0.make{P:Program}{w:World}{K:PySem.W.Frag}{mg:Str->Option Value}{base:Heap}{A:Around}{outer:List Env}{s:Shared}{H:Hp}(e:Env0 P w K mg base A outer s H)(C:Addr)(us:List Value)(kw:List (Str × Value)) :
    Env0 P w K mg base (A.under (.builtin "type.__call__" ⟨.ref C::us,kw⟩)) outer s H:=⟨by first | exact e.frames | (simpa [Around.under,Code.envs,Code.isFrame,pushEnvs] using e.frames),e.mod,e.bs,e.bsz,e.funs,e.frf,e.hok,e.bare⟩
section
variable {X:Cx}{pins:List (Addr × Obj)}{σ:St}{H:Hp}{s s':Shared}
theorem Inv.env0(I:Inv X pins σ H s):Env0 X.prog X.w X.K X.mg X.base X.A X.stack s H:=
 ⟨I.ok.frames,I.ok.mod,I.bs,Nat.le_trans I.ok.bsz I.sz,I.stack,I.stkFree,I.hok,I.bare⟩
theorem Inv.after{Q:VK}{u:Value}(I:Inv X pins σ H s)(h:CE X.stack X.prog X.w H s Q u s'):EP X pins σ Q u s':=by
 obtain ⟨v,H',os,bare,un,hok,r,q⟩:=h;obtain ⟨hh,g,d,t,os'⟩:=s';obtain rfl:os'=s.os:=os;exact ⟨v,H',I.call (h':=hh) (g':=g) (d':=d) (t':=t) (ch:=[]) un hok bare (fun b z=>absurd z (by simp)),r,q⟩
end
def Dk(sp:Sp)(dvs:List V)(E:XK)(t:TA):TE:=fun σ H Q=>t σ H fun vs H1=>sp (vs++dvs) H1 Q E
def Dl(C:Addr)(sp:Sp)(dvs:List V)(E:XK)(t:TA):TE:=fun σ H Q=>t σ H fun vs H1=>∀ x dx,H1 x=none->H1 dx=none->dx≠x →
 sp (.ref x::(vs++dvs)) (upd (upd H1 dx (.own x)) x (.ins C dx [])) (fun v H2=>v=.non/\Q (.ref x) H2) E
def Binds(K:PySem.W.Frag)(fd:FuncData)(ps:List Str)(ds:List Value):Prop:=
 ∀ (s:Shared) (us:List Value),K.In s.heap->(us++ds).length=ps.length->BindsTo s fd ⟨us,[]⟩ (ps.zip (us++ds))
theorem Binds.all{K:PySem.W.Frag}{fd:FuncData}{ps:List Str}(h:∀ us:List Value,us.length=ps.length->bindArgs fd ⟨us,[]⟩=pure (ps.zip us)):Binds K fd ps []:=fun s us _ hl=>by
 rw[List.append_nil] at hl ⊢;exact .of_eq (h us hl)
def gW(CX:CXT)(X:Cx)(E:XK):Prop:=∀ (pins:List (Addr × Obj)) (σ:St) (H:Hp) (s:Shared) (e:Value) (s':Shared),Inv X pins σ H s->CX X.stack H s E e s'->X.xe e s'
section
variable {X:Cx}{CX:CXT}{k:Nat}{f C:Addr}{fd:FuncData}{ps:List Str}{sp:Sp}{dvs:List V}{ds:List Value}{E:XK}{x m:Str}{p pos apos:Pos}{e o:Expr}{es:List Expr}{ta:TE}{t:TA}
theorem Bt{pins:List (Addr × Obj)}{σ:St}{H:Hp}{s:Shared}{Q:VK}{us:List Value}{vs:List V}(F:FnOk X.prog X.w X.K X.mg X.base CX k f fd ps sp)(hr:Room k X.A)(hb:Binds X.K fd ps ds)(hd:Vals dvs ds)(hx:gW CX X E)
    (I:Inv X pins σ H s) (r:Vals vs us) (h:sp (vs++dvs) H Q E):wpAny (model X.prog X.w) X.A (call (.ref f) us) (EP X pins σ Q) X.xe s:=by
 have r2:Vals (vs++dvs) (us++ds):=r.append hd;have hl:(us++ds).length=ps.length:=by rw[<- r2.length];exact F.len _ _ _ _ h
 refine wpAny_call (codeAny_mono (F.run X.A X.stack s H ⟨us,[]⟩ (us++ds) (vs++dvs) Q E hr I.env0 (hb s us I.kIn hl) r2 h) fun r s' hq=>?_)
 cases r with
 |error e=>exact hx pins σ H s e s' I hq
 |ok fl=>
  cases fl with
  |ret u=>exact I.after hq
  |next=>exact False.elim hq
  |brk=>exact False.elim hq
  |cont=>exact False.elim hq
theorem rZ(F:FnOk X.prog X.w X.K X.mg X.base CX k f fd ps sp)(hr:Room k X.A)(hg:Gl X x)(hm:X.mg x=some (.ref f))(hk:PySem.W.keepIn X.K (.ref f)=true)(hb:Binds X.K fd ps ds)(hd:Vals dvs ds)(hx:gW CX X E)
    (ha:PA X (e::es) t) (hdb:(x == ("__debug__" : Str))=false:=by decide) (he:starEach (e::es) X.env=(false,eval e X.env)::starEach es X.env:=by rfl) (hpl:(backTo pos (starEach es X.env)).any (·.1)=false:=by rfl) :
    PE X (.Call (.Name x p) (e::es) [] pos) (Dk sp dvs E t):=by
 intro pins s σ H Q I h;refine wpAny_Call_Name_kw (kX I hg hm ?_ hdb);refine PySem.W.callWith_K (h₀:=X.base) I.ok.mod.kin hk (thn (ha pos pins s σ H _ I h) fun us s1 ⟨vs,H1,I1,r,q⟩=>⟨I1.kIn,?_⟩) he hpl;exact Bt F hr hb hd hx I1 r q
structure Mk (K:PySem.W.Frag) (C f:Addr):Prop where
 makes:PySem.W.makesIn K C=true
 init:PySem.W.findIn K (.ref C) "__init__" = some (some (.ref f))
 fn:PySem.W.isFn K (.ref f)=true
 kp:PySem.W.keepIn K (.ref C)=true
theorem xy{pins:List (Addr × Obj)}{σ:St}{H:Hp}{s:Shared}{Q:VK}{us:List Value}{vs:List V}(M:Mk X.K C f)(F:FnOk X.prog X.w X.K X.mg X.base CX k f fd ps sp)(hr:Room (k+1) X.A)(hb:Binds X.K fd ps ds)(hd:Vals dvs ds)
    (hx:gW CX X E) (I:Inv X pins σ H s) (r:Vals vs us)
    (h:∀ x dx,H x=none->H dx=none->dx≠x->sp (.ref x::(vs++dvs)) (upd (upd H dx (.own x)) x (.ins C dx [])) (fun v H2=>v=.non/\Q (.ref x) H2) E) :
    wpAny (model X.prog X.w) X.A (call (.ref C) us) (EP X pins σ Q) X.xe s:=by
 have hq:=h (s.heap.objs.size+1) s.heap.objs.size (I.hok.fresh (Nat.le_succ _)) (I.hok.fresh (Nat.le_refl _)) (Nat.ne_of_lt (Nat.lt_succ_self _));have I2:=Inv.made (C:=C) I;have r2:Vals (V.ref (s.heap.objs.size+1)::(vs++dvs)) (Value.ref (s.heap.objs.size+1)::(us++ds)):=.cons rfl (r.append hd);have hl:(Value.ref (s.heap.objs.size+1)::us++ds).length=ps.length:=by
  have e:=r2.length;rw[F.len _ _ _ _ hq] at e;exact e.symm
 refine wpAny_call (xx (f:=f) I.kIn M.makes M.init (beq_iff_eq.mp M.fn) (codeAny_mono (F.run _ X.stack _ _ ⟨Value.ref (s.heap.objs.size+1)::us,[]⟩ (Value.ref (s.heap.objs.size+1)::(us++ds)) _ _ E (hr.make C us [])
  (I2.env0.make C us []) (hb _ (Value.ref (s.heap.objs.size+1)::us) I2.kIn hl) r2 hq) fun r s' hq'=>?_))
 cases r with
 |error e=>exact hx pins σ _ _ e s' I2 hq'
 |ok fl=>
  cases fl with
  |ret u=>
   obtain ⟨v,H',I3,rv,ev,q3⟩:=I2.after hq';subst ev;exact ⟨rv,⟨V.ref (s.heap.objs.size+1),H',I3,rfl,q3⟩⟩
  |next=>exact False.elim hq'
  |brk=>exact False.elim hq'
  |cont=>exact False.elim hq'
theorem zA(M:Mk X.K C f)(F:FnOk X.prog X.w X.K X.mg X.base CX k f fd ps sp)(hr:Room (k+1) X.A)(hg:Gl X x)(hm:X.mg x=some (.ref C))(hb:Binds X.K fd ps ds)(hd:Vals dvs ds)(hx:gW CX X E)
    (ha:PA X (e::es) t) (hdb:(x == ("__debug__" : Str))=false:=by decide) (he:starEach (e::es) X.env=(false,eval e X.env)::starEach es X.env:=by rfl) (hpl:(backTo pos (starEach es X.env)).any (·.1)=false:=by rfl) :
    PE X (.Call (.Name x p) (e::es) [] pos) (Dl C sp dvs E t):=by
 intro pins s σ H Q I h;refine wpAny_Call_Name_kw (kX I hg hm ?_ hdb);refine PySem.W.callWith_K (h₀:=X.base) I.ok.mod.kin M.kp (thn (ha pos pins s σ H _ I h) fun us s1 ⟨vs,H1,I1,r,q⟩=>⟨I1.kIn,?_⟩) he hpl;exact xy M F hr hb hd hx I1 r q
end
section
variable {X:Cx}{CX:CXT}{k:Nat}{f C:Addr}{fd:FuncData}{ps ks:List Str}{sp:Sp}{E:XK}{x m:Str}{p pos apos kpos:Pos}{e o:Expr}{es:List Expr}{kws:List Keyword}{te ta:TE}{t tk:TA}{nm:Option Str}
structure KBinds (K:PySem.W.Frag) (fd:FuncData) (ps ks:List Str) (g:List Value->List Value->List Value) (gV:List V->List V->List V):Prop where
 to:∀ (s:Shared) (us ws:List Value),K.In s.heap->(g us ws).length=ps.length->BindsTo s fd ⟨us,ks.zip ws⟩ (ps.zip (g us ws))
 rel:∀ {vs:List V} {us:List Value} {zs:List V} {ws:List Value},Vals vs us->Vals zs ws->Vals (gV vs zs) (g us ws)
variable {g:List Value->List Value->List Value}{gV:List V->List V->List V}
end
structure FnScope (N P:List Str) (sc:Scope):Prop where
 kind:sc.kind=.function
 co:sc.isCoroutine=false
 gen:sc.isGenerator=false
 nd:N.Nodup
 pre:N.take P.length=P
 par:∀ x∈P,sc.names.lookup x=some .local\/sc.names.lookup x=some .cell
 nofree:∀ y∈sc.names,y.2≠.free
theorem oC{kindOf:Str->Option NameKind}{x:Str}:∀ {binds:List (Str × Value)} {m:Str->Option Value},(∀ v,(x,v)∉binds)->bindL kindOf binds m x=m x
 | [],_,_=>rfl
 | (n,v)::r,m,h=>by
  unfold bindL;rw[oC fun w hw=>h w (List.mem_cons_of_mem _ hw)];split
  ·have:x≠n:=by rintro rfl;exact h v List.mem_cons_self
   simp[this]
  ·rfl
theorem oE{kindOf:Str->Option NameKind}{x:Str}:∀ {binds:List (Str × Value)} {m:Str->Option Value},(∀ v,(x,v)∉binds)->bindC kindOf binds m x=m x
 | [],_,_=>rfl
 | (n,v)::r,m,h=>by
  unfold bindC;rw[oE fun w hw=>h w (List.mem_cons_of_mem _ hw)];split
  ·rfl
  ·have:x≠n:=by rintro rfl;exact h v List.mem_cons_self
   simp[this]
theorem oF{kindOf:Str->Option NameKind}{x:Str}{v:Value}:∀ {P:List Str} {vs:List Value} {i:Nat} {m:Str->Option Value},P.Nodup->P[i]?=some x->vs[i]?=some v->kindOf x=some .local →
    bindL kindOf (P.zip vs) m x=some v
 | [],_,_,_,_,h,_,_=>by simp at h
 |_::_,[],_,_,_,_,h,_=>by simp at h
 |p::P,w::vs,0,m,nd,h1,h2,hk=>by
  simp at h1 h2;subst h1;subst h2;show bindL kindOf ((p,w)::P.zip vs) m p=_;unfold bindL;rw[oC fun v hv=>(List.nodup_cons.mp nd).1 (List.of_mem_zip hv).1,if_pos hk];simp
 |p::P,w::vs,i+1,m,nd,h1,h2,hk=>by
  show bindL kindOf ((p,w)::P.zip vs) m x=_;unfold bindL;exact oF (i:=i) (List.nodup_cons.mp nd).2 (by simpa using h1) (by simpa using h2) hk
theorem oG{kindOf:Str->Option NameKind}{x:Str}{v:Value}:∀ {P:List Str} {vs:List Value} {i:Nat} {m:Str->Option Value},P.Nodup->P[i]?=some x->vs[i]?=some v->kindOf x≠some .local →
    bindC kindOf (P.zip vs) m x=some v
 | [],_,_,_,_,h,_,_=>by simp at h
 |_::_,[],_,_,_,_,h,_=>by simp at h
 |p::P,w::vs,0,m,nd,h1,h2,hk=>by
  simp at h1 h2;subst h1;subst h2;show bindC kindOf ((p,w)::P.zip vs) m p=_;unfold bindC;rw[oE fun v hv=>(List.nodup_cons.mp nd).1 (List.of_mem_zip hv).1,if_neg hk];simp
 |p::P,w::vs,i+1,m,nd,h1,h2,hk=>by
  show bindC kindOf ((p,w)::P.zip vs) m x=_;unfold bindC;exact oG (i:=i) (List.nodup_cons.mp nd).2 (by simpa using h1) (by simpa using h2) hk
def gP(N:List Str)(vs:List V):St:=vs.map some++List.replicate (N.length - vs.length) none
def jF(CX:CXT)(P:Program)(w:World)(K:PySem.W.Frag)(mg:Str->Option Value)(base:Heap)(N:List Str)(qual:Str)(scope:Scope)(f:Addr)(cd:Value)(A:Around)(outer:List Env)(s:Shared)(H:Hp)(E:XK):Cx where
 prog:=P
 w:=w
 K:=K
 mg:=mg
 base:=base
 A:=A.deeper (envOfC qual scope s.heap.objs.size f cd)
 N:=N
 s₀:=s
 H₀:=H
 env:=envOfC qual scope s.heap.objs.size f cd
 outer:=outer
 stack:=envOfC qual scope s.heap.objs.size f cd::outer
 ex:=[]
 calm:=true
 fn:=fun _=>true
 pn:=[]
 xe:=fun e s'=>wpAny (model P w) (A.deeper (envOfC qual scope s.heap.objs.size f cd)) (leaving (envOfC qual scope s.heap.objs.size f cd) e) (fun _ s''=>CX outer H s E e s'') (fun e' s''=>CX outer H s E e' s'') s'
theorem pV{sc:Scope}{n:Nat}{x:Str}(h:sc.names.lookup x=some .cell):∃ c,(cellsFrom n sc.names []).lookup x=some c:=by
 have q:=PySem.W.cellsFrom_some sc.names n [] (.inl h);exact Option.isSome_iff_exists.mp q
theorem vl{CX:CXT}{P:Program}{w:World}{K:PySem.W.Frag}{mg:Str->Option Value}{base:Heap}{N ps:List Str}{qual:Str}{scope:Scope}{f:Addr}{cd:Value}{A:Around}{outer:List Env}{s s1:Shared}{H:Hp}{E:XK}{us:List Value}{vs:List V}
    (S:FnScope N ps scope) (hd:A.handled=none) (e0:Env0 P w K mg base A outer s H) (hl:vs.length=ps.length) (r:Vals vs us)
    (x:InCallC s s.heap.objs.size (bindL (envOfC qual scope s.heap.objs.size f cd).kindOf (ps.zip us) fun _=>none) (cellsFrom (s.heap.objs.size+1) scope.names []) (bindC (envOfC qual scope s.heap.objs.size f cd).kindOf (ps.zip us) fun _=>none) s1) :
    Inv (jF CX P w K mg base N qual scope f cd A outer s H E) [] (gP N vs) H s1:=by
 have hpl:ps.length<=N.length:=by have:=congrArg List.length S.pre;rw[List.length_take] at this;omega
 obtain ⟨h1,tk,rfl,hk⟩:=x.done;have noA:∀ b:Addr,b∉(jF CX P w K mg base N qual scope f cd A outer s H E).ex:=fun b z=>absurd (show b∈([]:List Addr) from z) (by simp)
 refine ⟨⟨e0.mod,S.kind,rfl,rfl,Nat.le_refl _,fun y z c h1 h2=>?_,fun y hy=>?_,fun y c _ h=>?_,fun _=>hd,Around.frames_deeper e0.frames,.inr ⟨rfl,rfl⟩,fun b z=>absurd z (noA b),e0.bs,e0.bsz,fun b _ _=>noA b,fun b z=>absurd z (noA b),e0.funs,e0.frf⟩,
  rfl,e0.bare,Un.kept hk,⟨_,x.toInCall.ns,fun i y v h1 h2 h3=>?_⟩,fun y c h=>⟨_,x.cell y c h⟩,e0.hok.fresh (Nat.le_refl _),fun y c h=>?_,fun p hp=>absurd (show p∈([]:List (Addr × Obj)) from hp) (by simp),e0.hok.kept hk,?_⟩
 ·exact name_of_addr x.apart (PySem.mem_of_lookup h1) (PySem.mem_of_lookup h2)
 ·have hy:scope.names.lookup y=some .cell\/scope.names.lookup y=some .free:=hy
  rcases hy with hy | hy
  ·exact pV hy
  ·exact absurd rfl (S.nofree _ (PySem.mem_of_lookup hy))
 ·exact Nat.le_of_lt (x.above y c (PySem.mem_of_lookup h))
 ·have hi:i<vs.length:=by
     unfold gP at h2;by_cases hi:i<vs.length
     ·exact hi
     ·rw[List.getElem?_append_right (by simpa using hi)] at h2
      rw[List.getElem?_replicate] at h2;split at h2<;>cases h2
  have ha:vs[i]?=some v:=by
   unfold gP at h2;rw[List.getElem?_append_left (by simpa using hi),List.getElem?_map] at h2
   cases e:vs[i]? with
   |none=>rw[e] at h2;cases h2
   |some a=>rw[e] at h2;cases h2;rfl
  obtain ⟨u,hu,rv⟩:=r.get ha;have hp:ps[i]?=some y:=by
   rw[<- S.pre,List.getElem?_take_of_lt (by omega)];exact h1
  have ndP:ps.Nodup:=by rw[<- S.pre];exact S.nd.sublist (List.take_sublist _ _)
  refine ⟨u,rv,?_⟩;rcases S.par y (List.mem_of_getElem? hp) with k | k
  ·exact .inl ⟨k,oF ndP hp hu k⟩
  ·obtain ⟨c,e⟩:=pV (n:=s.heap.objs.size+1) k
   refine .inr ⟨.inl k,c,e,?_⟩;have q:=x.cell y c e;rw[oG ndP hp hu (by show scope.names.lookup y≠_;rw[k];decide)] at q;exact q
 ·exact e0.hok.fresh (Nat.le_of_lt (x.above y c (PySem.mem_of_lookup h)))
 ·unfold gP
  show _=N.length;rw[List.length_append,List.length_map,List.length_replicate];omega
theorem Dm{CX:CXT}{P:Program}{w:World}{K:PySem.W.Frag}{mg:Str->Option Value}{base:Heap}{k:Nat}{f:Addr}{name qual:Str}{params:Arguments}{body:List Stmt}{scope:Scope}{dV kV doc pm cdv ct oc:Value}{an od:Option Addr}
    {osl:Array (Option Value)} {N ps:List Str} {sp:Sp} (lk:K.lookup f=some ⟨oc,od,.func (PySem.W.fnOf name qual params body scope dV kV doc pm an cdv ct),osl⟩) (hcd:PySem.W.codeIn K cdv qual=true) (S:FnScope N ps scope)
    (len:∀ vs H Q E,sp vs H Q E->vs.length=ps.length)
    (hbody:∀ (A:Around) (outer:List Env) (s:Shared) (H:Hp) (vs:List V) (Q:VK) (E:XK),Room k (A.deeper (envOfC qual scope s.heap.objs.size f cdv))->sp vs H Q E →
     ∃ t,PSs (jF CX P w K mg base N qual scope f cdv A outer s H E) body t/\t { nx:=fun _ H'=>Q .non H',rt:=Q } (gP N vs) H) :
    FnOk P w K mg base CX (k+1) f (PySem.W.fnOf name qual params body scope dV kV doc pm an cdv ct) ps sp:=by
 refine ⟨len,fun A outer s H args us vs Q E hr e0 hb r hsp=>?_⟩;have hl:=len _ _ _ _ hsp;have KX:K.In s.heap:=e0.mod.kin.keeps fun b o e=>(e0.bs b o e).1;have lim:s.heap.NoLimit:=e0.mod.nolimit.keeps fun b o e=>(e0.bs b o e).1
 have hkind:∀ y∈ps.zip us,scope.names.lookup y.1=some .local\/(scope.names.lookup y.1=some .cell/\((cellsFrom (s.heap.objs.size+1) scope.names []).lookup y.1).isSome=true):=fun ⟨n,v⟩ hy=>by
  rcases S.par n (List.of_mem_zip hy).1 with q | q
  ·exact .inl q
  ·exact .inr ⟨q,PySem.W.cellsFrom_some _ _ _ (.inl q)⟩
 refine codeAny_call_function hr.depth (KX _ _ lk) rfl S.co S.gen rfl (PySem.W.codeRec_of KX hcd) (hb _ _ _ _ ?_);refine wpAny_newFunctionEnv_cells S.kind hkind fun env he s1 x=>?_;subst he;refine ⟨lim.keeps x.toInCall.keep,codeAny_func ?_⟩;obtain ⟨t,ht,hq⟩:=hbody A outer s H vs Q E (hr.deeper _) hsp
 have I:Inv (jF CX P w K mg base N qual scope f cdv A outer s H E) [] (gP N vs) H s1:=vl S hr.hd e0 hl r x;refine wpAny_mono (ht [] s1 (gP N vs) H _ I hq) (fun fl s' hs=>?_) fun e s' hs=>hs;have fin:∀ {σ':St} {H':Hp} {v:V} {u:Value},Inv (jF CX P w K mg base N qual scope f cdv A outer s H E) [] σ' H' s'->RelV v u->Q v H'->CE outer P w H s Q u s':=
  fun {σ' H' v u} J rv q=>⟨v,H',J.os,J.bare,J.base,J.hok,rv,q⟩
 cases fl with
 |ret u=>
  obtain ⟨v,σ',H',J,rv,q⟩:=hs;exact fin J rv q
 |next=>
  obtain ⟨σ',H',J,q⟩:=hs;exact fin (v:=V.non) (u:=Value.none) J rfl q
 |brk=>
  obtain ⟨_,_,_,q⟩:=hs;exact False.elim q
 |cont=>
  obtain ⟨_,_,_,q⟩:=hs;exact False.elim q
section
variable {X:Cx}{x:Str}{p pos:Pos}{e:Expr}{es:List Expr}{t:TA}{id T:String}{r:List V->Hp->VK->Prop}
def tCB(r:List V->Hp->VK->Prop)(t:TA):TE:=fun σ H Q=>t σ H fun vs H1=>r vs H1 Q
theorem pW(hc:CallR X (.builtin id) r)(hg:Gl X x)(hm:X.mg x=none)(hv:bootBuiltins x=some (.builtin id))(ha:PA X (e::es) t)(hn:x ≠ "__name__" := by decide)(hdb:(x == ("__debug__" : Str))=false:=by decide)
    (he:starEach (e::es) X.env=(false,eval e X.env)::starEach es X.env:=by rfl) (hpl:(backTo pos (starEach es X.env)).any (·.1)=false:=by rfl):PE X (.Call (.Name x p) (e::es) [] pos) (tCB r t):=by
 intro pins s σ H Q I h;refine wpAny_Call_Name_kw (gU I hg hm hv ?_ hn hdb);exact PyProof.Rows.callWith_builtin1 (thn (ha pos pins s σ H _ I h) fun us s1 ⟨vs,H1,I1,r1,q1⟩=>hc pins s1 σ H1 vs us Q I1 r1 q1) he hpl
theorem oH(hc:CallR X (.type T) r)(hg:Gl X x)(hm:X.mg x=none)(hv:bootBuiltins x=some (.type T))(ha:PA X (e::es) t)(hn:x ≠ "__name__" := by decide)(hdb:(x == ("__debug__" : Str))=false:=by decide)
    (he:starEach (e::es) X.env=(false,eval e X.env)::starEach es X.env:=by rfl) (hpl:(backTo pos (starEach es X.env)).any (·.1)=false:=by rfl):PE X (.Call (.Name x p) (e::es) [] pos) (tCB r t):=by
 intro pins s σ H Q I h;refine wpAny_Call_Name_kw (gU I hg hm hv ?_ hn hdb);exact PyProof.Rows.callWith_type1 (thn (ha pos pins s σ H _ I h) fun us s1 ⟨vs,H1,I1,r1,q1⟩=>hc pins s1 σ H1 vs us Q I1 r1 q1) he hpl
end
end L2
namespace HT
open PySem PyProof.Rows
section
open PySem.SeqAt
open PySem.AutoSeq1 (wpAny_loadPart')
open PySem.MeetsSeq PySem.MeetsSeq2 PySem.MeetsSeq3
end
section
variable {prog:Program}{w:World}{A:Around}{E:Value->Shared->Prop}{s:Shared}
end
end HT
namespace L2
open PySem PySem.Spec PyProof.Rows
abbrev TO:=St->Hp->(Option Int->Hp->Prop)->Prop
def PO(X:Cx)(e:Option Expr)(t:TO):Prop:=
 ∀ (pins:List (Addr × Obj)) (s:Shared) (σ:St) (H:Hp) (Q:Option Int->Hp->Prop),Inv X pins σ H s->t σ H Q →
  wpAny (model X.prog X.w) X.A (evalPart e X.env) (fun u s'=>∃ o H',Inv X pins σ H' s'/\IsPart u o/\Q o H') X.xe s
theorem t7{ns:List Int}:∀ {us:List Value},Vals (ns.map V.int) us->IntsAre us ns:=by
 induction ns with
 |nil=>intro us r;rw[List.map_nil] at r;cases r;exact .nil
 |cons n ns ih=>
  intro us r;rw[List.map_cons] at r
  cases r with
  |cons r1 r2=>
   obtain ⟨t,e⟩:=r1;subst e;exact .cons n t (ih r2)
section
variable {X:Cx}{e:Expr}{te:TE}{lo hi:Option Expr}{tl th:TO}{pos p2:Pos}
end
def ixN(n:Nat)(i:Int):Option Nat:=if 0<=i then (if i<n then some i.toNat else none) else if -(n:Int)<=i then some (i+n).toNat else none
def atI{α:Type}(xs:List α)(i:Int):Option α:=(ixN xs.length i).bind fun j=>xs[j]?
theorem nK{n:Nat}{i:Int}{j:Nat}(h:ixN n i=some j):seqIndex? i n=some j/\j<n/\-(n:Int)<=i/\i<n:=by
 unfold ixN at h;by_cases h0:0<=i
 ·rw[if_pos h0] at h
  by_cases h1:i<n
  ·rw[if_pos h1] at h
   have e:i.toNat=j:=Option.some.inj h;exact ⟨by rw[seqIndex_of h0 h1,e],by omega,by omega,h1⟩
  ·rw[if_neg h1] at h;cases h
 ·rw[if_neg h0] at h
  by_cases h1:-(n:Int)<=i
  ·rw[if_pos h1] at h
   have e:(i+n).toNat=j:=Option.some.inj h;exact ⟨by rw[seqIndex_neg (by omega) h1,e],by omega,h1,by omega⟩
  ·rw[if_neg h1] at h;cases h
theorem kZ{α:Type}{xs:List α}{i:Int}{v:α}(h:atI xs i=some v):∃ j,seqIndex? i xs.length=some j/\xs[j]?=some v/\j<xs.length/\-(xs.length:Int)<=i/\i<xs.length:=by
 unfold atI at h
 cases e:ixN xs.length i with
 |none=>rw[e] at h;cases h
 |some j=>
  rw[e] at h;obtain ⟨h1,h2,h3,h4⟩:=nK e;exact ⟨j,h1,h,h2,h3,h4⟩
def nL(b:Expr):Prop:=∀ o i,subscripted b false o i=operate [o,i] (getItem o i)
def IxR(X:Cx)(r:R2):Prop:=
 ∀ (value slice:Expr) (pins:List (Addr × Obj)) (s:Shared) (σ:St) (H:Hp) (x y:V) (v u:Value) (Q:VK),Inv X pins σ H s->RelV x v->RelV y u->r x y H Q →
  subscripted slice false v u=operate [v,u] (getItem v u)->wpAny (model X.prog X.w) X.A (subscriptTail value slice v u) (EP X pins σ Q) X.xe s
def MtR(X:Cx)(id:String)(r:V->List V->Hp->VK->Prop):Prop:=
 ∀ (pins:List (Addr × Obj)) (s:Shared) (σ:St) (H:Hp) (x:V) (xs:List V) (v:Value) (us:List Value) (Q:VK),Inv X pins σ H s->RelV x v->Vals xs us->r x xs H Q →
  wpAny (model X.prog X.w) X.A (call (.builtin id) (v::us)) (EP X pins σ Q) X.xe s
section
variable {X:Cx}{a b:Expr}{ta tb:TE}{pos:Pos}
theorem IxR.or{r r':R2}(h:IxR X r)(h':IxR X r'):IxR X (fun x y H Q=>r x y H Q\/r' x y H Q):=by
 intro value slice pins s σ H x y v u Q I rx ry q hs;rcases q with q | q
 ·exact h value slice pins s σ H x y v u Q I rx ry q hs
 ·exact h' value slice pins s σ H x y v u Q I rx ry q hs
theorem Dn{r:R2}(hr:IxR X r)(ha:PE X a ta)(hb:PE X b tb)(hs:nL b):PE X (.Subscript a b pos) (tOp r ta tb):=by
 intro pins s σ H Q I h;exact Subscript_ (xt ha hb I h fun v u s2 x y H2 I2 rx ry q=>hr a b pins s2 σ H2 x y v u Q I2 rx ry q (hs _ _))
def Bu(K:PySem.W.Frag):R2:=fun x y H Q=>∃ p xs i v,x=.ref p/\y=.int i/\SqL K H p xs/\atI xs i=some v/\Q v H
def Bv(K:PySem.W.Frag):R2:=fun x y H Q=>∃ p xs i v,x=.ref p/\y=.int i/\SqT K H p xs/\atI xs i=some v/\Q v H
def Bw:R2:=fun x y H Q=>∃ z i c,x=.str z/\y=.int i/\z.length<=sizeLine/\atI z.cps.toList i=some c/\Q (.str ⟨#[c]⟩) H
theorem ix_list:IxR X (Bu X.K):=by
 intro value slice pins s σ H x y v u Q I rx ry h hs;obtain ⟨p,xs,i,z,rfl,rfl,hq,he,q⟩:=h
 cases rx
 obtain ⟨t,rfl⟩:=ry;obtain ⟨its,r,pl,hz⟩:=I.list hq;obtain ⟨j,h1,h2,h3,h4,h5⟩:=kZ he;obtain ⟨w,ew,rw'⟩:=r.get h2;have hl:=r.length;have hn:=j6;have fin:EP X pins σ Q w s:=⟨z,H,I,rw',q⟩
 by_cases h0:0<=i
 ·have hj:i.toNat=j:=by
     rw[seqIndex_of h0 h5] at h1;exact Option.some.inj h1
  exact item_listR pl.isList h0 (by omega) (by rw[hj];simpa using ew) fin hs
 ·have hj:(i+(its.toArray.size:Int)).toNat=j:=by
     rw[seqIndex_neg (by omega) h4] at h1;rw[List.size_toArray,<- hl];exact Option.some.inj h1
  exact subscriptTail_builtinR (x:=w) pl.isList.typeIs slot_list_getitem.lookup
   (wpAny_getItem_list_neg (Q:=fun r s'=>r=w/\EP X pins σ Q r s') pl.isList (by omega) (by rw[List.size_toArray] <;> omega) (by omega) (by rw[hj];simpa using ew) ⟨rfl,fin⟩) hs
theorem ix_tup:IxR X (Bv X.K):=by
 intro value slice pins s σ H x y v u Q I rx ry h hs;obtain ⟨p,xs,i,z,rfl,rfl,hq,he,q⟩:=h
 cases rx
 obtain ⟨t,rfl⟩:=ry;obtain ⟨its,r,pl,hz⟩:=I.tuple hq;obtain ⟨j,h1,h2,h3,h4,h5⟩:=kZ he;obtain ⟨w,ew,rw'⟩:=r.get h2;have hl:=r.length;have hn:=j6;have fin:EP X pins σ Q w s:=⟨z,H,I,rw',q⟩
 exact subscriptTail_builtinR (x:=w) pl.typeIs slot_tuple_getitem.lookup
  (getItem_tuple (j:=j) (Q:=fun r s'=>r=w/\EP X pins σ Q r s') pl (by omega) (by omega) (by rw[List.size_toArray,<- hl];exact h1) (by simpa using ew) ⟨rfl,fin⟩) hs
theorem Bx:IxR X Bw:=by
 intro value slice pins s σ H x y v u Q I rx ry h hs;obtain ⟨z,i,c,rfl,rfl,hz,he,q⟩:=h;obtain ⟨t,rfl⟩:=rx;obtain ⟨t',rfl⟩:=ry;obtain ⟨j,h1,h2,h3,h4,h5⟩:=kZ he;have hl:z.cps.toList.length=z.length:=by simp[Str.length]
 rw[hl] at h1 h4 h5;have hn:=j6;exact tail_any (typeIs_str s z t) slot_str_getitem.lookup (getItem_str (c:=c) (by
  have e1:decide (i < -(2 ^ 63:Int))=false:=decide_eq_false (by omega)
  have e2:decide (i ≥ 2 ^ 63)=false:=decide_eq_false (by omega)
  rw[e1,e2,Bool.or_false]) (by rw[h1];simpa using h2) ⟨.str ⟨#[c]⟩,H,I.tok _,⟨_,rfl⟩,q⟩) hs
def rIx(K:PySem.W.Frag):R2:=fun x y H Q=>Bu K x y H Q\/Bv K x y H Q\/Bw x y H Q
theorem By:IxR X (rIx X.K):=ix_list.or (ix_tup.or Bx)
theorem pX:CallR X (.builtin "len") (fun xs H Q=>∃ p ys,xs=[.ref p]/\(SqL X.K H p ys\/SqT X.K H p ys)/\Q (.int ys.length) H):=by
 intro pins s σ H xs us Q I r h;obtain ⟨p,ys,rfl,hq,q⟩:=h;obtain ⟨u,rfl,rx⟩:=i3 r
 cases rx
 have hn:=j6;rcases hq with hq | hq
 ·obtain ⟨its,r',pl,hz⟩:=I.list hq
  have hlen:=r'.length;exact Calls.call_len_list pl.isList (by simp only[List.size_toArray] <;> omega) ⟨.int ys.length,H,I.tok _,⟨s.toks+1,by rw[List.size_toArray,hlen]⟩,q⟩
 ·obtain ⟨its,r',pl,hz⟩:=I.tuple hq
  have hlen:=r'.length;exact len_tuple pl (by simp only[List.size_toArray] <;> omega) ⟨.int ys.length,H,I.tok _,⟨s.toks+1,by rw[List.size_toArray,hlen]⟩,q⟩
theorem pY:CallR X (.builtin "len") (fun xs H Q=>∃ z,xs=[.str z]/\z.length<=sizeLine/\Q (.int z.length) H):=by
 intro pins s σ H xs us Q I r h;obtain ⟨z,rfl,hz,q⟩:=h;obtain ⟨u,rfl,t,rfl⟩:=i3 r;have hn:=j6;exact len_str (by omega) ⟨.int z.length,H,I.tok _,⟨_,rfl⟩,q⟩
theorem CallR.or{f:Value}{r r':List V->Hp->VK->Prop}(h:CallR X f r)(h':CallR X f r'):CallR X f (fun xs H Q=>r xs H Q\/r' xs H Q):=by
 intro pins s σ H xs us Q I rs q;rcases q with q | q
 ·exact h pins s σ H xs us Q I rs q
 ·exact h' pins s σ H xs us Q I rs q
theorem pZ:CallR X (.type "list") (fun xs H Q=>∃ p ys,xs=[.ref p]/\(SqL X.K H p ys\/SqT X.K H p ys)/\∀ l,H l=none->Q (.ref l) (upd H l (.lst ys))):=by
 intro pins s σ H xs us Q I r h;obtain ⟨p,ys,rfl,hq,q⟩:=h;obtain ⟨u,rfl,rx⟩:=i3 r
 cases rx
 have fin:∀ (its:List Value),Vals ys its->ys.length<=sizeLine->∀ (h':Heap) (c':Nat),(∀ b o',s.heap.get? b=some o'->h'.get? b=some o') →
     h'.get? s.heap.objs.size=some { cls:=.type "list", dict:=none,data:=.seq its.toArray c',slots:=#[] }->EP X pins σ Q (.ref s.heap.objs.size) { s with heap:=h' }:=fun its r' hz h' c' kp e=>
  ⟨.ref s.heap.objs.size,_,I.laid (t':=s.toks) kp (Nat.le_refl _) (show ObjOk X.prog X.w _ h' _ (.lst ys) from ⟨hz,its,c',r',e⟩),rfl,q _ (I.hok.fresh (Nat.le_refl _))⟩
 rcases hq with hq | hq
 ·obtain ⟨its,r',pl,hz⟩:=I.list hq
  have hlen:=r'.length;obtain ⟨o,ho,hc,n,hd⟩:=pl.isList;exact call_list_seq p (.inl rfl) ho hc hd (fun h' c' kp e=>fin its r' hz h' c' kp e) (by simp only[List.size_toArray] <;> omega)
 ·obtain ⟨its,r',pl,hz⟩:=I.tuple hq
  have hlen:=r'.length;obtain ⟨o,ho,hc,n,hd⟩:=pl;exact call_list_seq p (.inr rfl) ho hc hd (fun h' c' kp e=>fin its r' hz h' c' kp e) (by simp only[List.size_toArray] <;> omega)
def tyV(K:PySem.W.Frag)(T:String)(x:V)(H:Hp):Prop:=match x with
 | .str _=>T = "str"
 | .int _=>T = "int"
 | .ref p=>(T = "list" /\ ∃ xs,SqL K H p xs)\/(T = "tuple" /\ ∃ o,K.lookup p=some o/\o.cls=.type "tuple" /\ o.dict=none) ∨
     (T = "dict" /\ ((∃ kvs,H p=some (.dK kvs))\/∃ kvs,H p=some (.dT kvs)))\/(T = "set" /\ ∃ S n,H p=some (.set S n))
 |_=>False
theorem Bz{pins:List (Addr × Obj)}{σ:St}{H:Hp}{s:Shared}{T:String}{x:V}{v:Value}(I:Inv X pins σ H s)(r:RelV x v)(ty:tyV X.K T x H) :
    s.TypeIs v T/\∀ a,v=.ref a->∃ ob,s.heap.get? a=some ob/\ob.dict=none:=by
 cases x with
 |str z=>
  obtain ⟨t,rfl⟩:=r
  cases (show T = "str" from ty)
  exact ⟨typeIs_str s z t,fun _ e=>nomatch e⟩
 |int i=>
  obtain ⟨t,rfl⟩:=r
  cases (show T = "int" from ty)
  exact ⟨typeIs_int s i t,fun _ e=>nomatch e⟩
 |ref p=>
  cases r
  rcases ty with ⟨rfl,xs,hq⟩ | ⟨rfl,o,hk,hc,hd⟩ | ⟨rfl,hk⟩ | ⟨rfl,S,n,hk⟩
  ·obtain ⟨its,_,pl,_⟩:=I.list hq
   refine ⟨pl.isList.typeIs,fun a e=>?_⟩
   cases e
   obtain ⟨o,n,e,c,hd,_⟩:=pl;exact ⟨o,e,hd⟩
  ·refine ⟨⟨o,I.kIn p o hk,hc⟩,fun a e=>?_⟩
   cases e
   exact ⟨o,I.kIn _ o hk,hd⟩
  ·have z:∃ o,s.heap.get? p=some o/\o.ExactDict:=by
      rcases hk with ⟨kvs,hk⟩ | ⟨kvs,hk⟩
      ·obtain ⟨_,_,_,_,o,_,_,e,ex,_⟩:=I.hok p _ hk
       exact ⟨o,e,ex⟩
      ·obtain ⟨_,_,_,_,o,_,_,e,ex,_⟩:=I.hok p _ hk
       exact ⟨o,e,ex⟩
   obtain ⟨o,e,ex⟩:=z;refine ⟨⟨o,e,ex.1⟩,fun a e2=>?_⟩
   cases e2
   exact ⟨o,e,ex.2.1⟩
  ·obtain ⟨o,_,_,_,e,ex,_⟩:=I.hok p _ hk
   refine ⟨⟨o,e,ex.1⟩,fun a e2=>?_⟩
   cases e2
   exact ⟨o,e,ex.2.1⟩
 |_=>exact False.elim ty
def tBM(K:PySem.W.Frag)(T:String)(r:V->List V->Hp->VK->Prop)(to:TE)(t:TA):TE:=fun σ H Q=>to σ H fun x H1=>tyV K T x H1/\t σ H1 fun xs H2=>r x xs H2 Q
variable {o e:Expr}{es:List Expr}{to:TE}{t:TA}{name:Str}{apos cpos:Pos}{T id:String}{r:V->List V->Hp->VK->Prop}
theorem mr(pa:PlainAttrs T)(slot:Slot T name id)(hty:typeOf (.builtin id)=pure (.type "method_descriptor"))(hm:MtR X id r)(ho:PE X o to)(ha:PA X (e::es) t)
    (hbase:attributeBase o name X.env (eval o X.env)=eval o X.env:=by rfl)
    (hfew:((backTo cpos (starEach (e::es) X.env)).all (fun x=>!x.1)&&(backToKw cpos (keywordEach [] X.env)).all (fun x=>x.1.isSome)
     && decide ((e::es).length+([]:List Keyword).length+(if ([]:List Keyword).isEmpty then 0 else 1)<30))=true:=by rfl)
    (hline:(apos.endLine == cpos.line)=true:=by rfl) (hs:starEach (e::es) X.env=(false,eval e X.env)::starEach es X.env:=by rfl) (hplain:(backTo cpos (starEach es X.env)).any (·.1)=false:=by rfl) :
    PE X (.Call (.Attribute o name apos) (e::es) [] cpos) (tBM X.K T r to t):=by
 intro pins s σ H Q I h;refine wpAny_Call_method_late hbase hfew hline rfl (thn (ho pins s σ H _ I h) fun v s1 ⟨x,H1,I1,r1,ty,q1⟩=>?_);obtain ⟨h1,h2⟩:=Bz I1 r1 ty;refine ⟨T,id,pa,slot,hty,h1,h2,?_⟩;have hA:=ha cpos pins s1 σ H1 _ I1 q1;rw[hs] at hA ⊢;refine Calls.callWith_builtin (by show (false||(backTo cpos (starEach es X.env)).any (·.1))=false;rw[hplain] <;> rfl) (Calls.evalArgs_plain ?_)
 exact thn hA fun us s2 ⟨vs,H2,I2,r2,q2⟩=>hm pins s2 σ H2 x vs v us Q I2 r1 r2 q2
/- xs.append(e),list.index on a module's tuple .. are MtR facts of 06m -/
end
def MtM(X:Cx)(id:String)(r:V->List V->Hp->VK->Prop):Prop:=
 ∀ (pins:List (Addr × Obj)) (s:Shared) (σ:St) (H:Hp) (x:V) (xs:List V) (v:Value) (us:List Value) (Q:VK),Inv X pins σ H s->RelV x v->Vals xs us->r x xs H Q →
  wpAny (model X.prog X.w) X.A (call (.builtin id) (v::us)) (EP X pins σ Q) X.xe s
theorem Vals.one:∀ {x:V} {us:List Value},Vals [x] us->∃ u,us=[u]/\RelV x u
 |_,_,.cons r .nil=>⟨_,rfl,r⟩
theorem Vals.eraseIdx:∀ {xs:List V} {us:List Value} (i:Nat),Vals xs us->Vals (xs.eraseIdx i) (us.eraseIdx i)
 |_,_,_,.nil=>.nil
 |_,_,0,.cons _ t=>t
 |_,_,i+1,.cons r t=>.cons r (Vals.eraseIdx i t)
theorem oI{α:Type}:∀ (l:List α) (i:Nat),(l.eraseIdx i).length<=l.length
 | [],_=>Nat.le_refl _
 |_::_,0=>Nat.le_succ _
 |_::r,i+1=>Nat.succ_le_succ (oI r i)
section
variable {X:Cx}{pins:List (Addr × Obj)}{σ:St}{H:Hp}{s:Shared}{l b:Addr}{xs ys zs:List V}
theorem Inv.lset{its its':List Value}{n:Nat}{f:Array Value->Array Value}{t':Nat}(I:Inv X pins σ H s)(hH:H l=some (.lst xs))
    (e:s.heap.get? l=some { cls:=.type "list", data:=.seq its.toArray n }) (hf:f its.toArray=its'.toArray) (hv:Vals ys its') (hz:ys.length<=sizeLine) :
    Inv X pins σ (upd H l (.lst ys)) { s with heap:=s.heap.update l (Obj.mapSeq f),toks:=t' }:=by
 have q:=PySem.IsL.update e f;rw[hf] at q;refine I.write (x:=l) (e:=l) (by rw[hH];exact trivial) (.inl rfl) (fun b' u hb hu=>(Heap.get?_update_other s.heap (Obj.mapSeq f) (Ne.symm hb)).trans hu) ⟨_,q⟩ ?_;exact ⟨hz,its',_,hv,q⟩
theorem Inv.lnew{its:List Value}{t':Nat}(I:Inv X pins σ H s)(hv:Vals ys its)(hz:ys.length<=sizeLine) :
    Inv X pins σ (upd H s.heap.objs.size (.lst ys)) { s with heap:=s.heap.push { cls:=.type "list", data:=.seq its.toArray },toks:=t' }:=
 I.laid (fun _ _ q=>Heap.get?_push_of_some _ q) (Nat.le_refl _) ⟨hz,its,0,hv,Heap.get?_push_size _ rfl⟩
theorem Inv.fresh(I:Inv X pins σ H s):H s.heap.objs.size=none:=I.hok.fresh (Nat.le_refl _)
theorem Inv.lstM(I:Inv X pins σ H s)(hH:H l=some (.lst xs)):xs.length<=sizeLine/\∃ (its:List Value) (n:Nat),Vals xs its/\xs.length=its.length/\s.heap.get? l=some { cls:=.type "list", data:=.seq its.toArray n }:=by
 obtain ⟨z,its,n,r,e⟩:=I.hok l _ hH;exact ⟨z,its,n,r,r.length,e⟩
theorem xz{n:Nat}(h:n<=sizeLine):Builtin.List.listTooLong n=false:=by
 unfold Builtin.List.listTooLong;exact decide_eq_false (by omega)
end
section
variable {X:Cx}
def zB:V->List V->Hp->VK->Prop:=fun x vs H Q=>∃ l xs y,x=.ref l/\vs=[y]/\H l=some (.lst xs)/\xs.length<sizeLine/\Q .non (upd H l (.lst (xs++[y])))
theorem j8:MtM X "list.append" zB:=by
 intro pins s σ H x vs v us Q I rx rv h;obtain ⟨l,xs,y,rfl,rfl,hH,hz,q⟩:=h
 cases rx
 obtain ⟨u,rfl,ru⟩:=rv.one;obtain ⟨z,its,n,r,hl,e⟩:=I.lstM hH;refine call_meets F.slot_list_append ⟨_,e,rfl⟩ F.entry_list_append (F.args_list_append_2 _ _) (PySem.list_append l its.toArray n u (by rw[List.size_toArray];omega)) ⟨e,?_⟩;refine ⟨.non,_,I.lset (its':=its++[u]) hH e (by simp) (r.append (.cons ru .nil)) ?_,rfl,q⟩;rw[List.length_append,List.length_singleton];omega
def zC:V->List V->Hp->VK->Prop:=fun x vs H Q=>∃ l b xs zs,x=.ref l/\vs=[.ref b]/\H l=some (.lst xs)/\H b=some (.lst zs)/\xs.length+zs.length<=sizeLine/\Q .non (upd H l (.lst (xs++zs)))
theorem vm:MtM X "list.extend" zC:=by
 intro pins s σ H x vs v us Q I rx rv h;obtain ⟨l,b,xs,zs,rfl,rfl,hH,hB,hz,q⟩:=h
 cases rx
 obtain ⟨u,rfl,ru⟩:=rv.one
 cases ru
 obtain ⟨z,its,n,r,hl,e⟩:=I.lstM hH;obtain ⟨z2,its2,n2,r2,hl2,e2⟩:=I.lstM hB;have hsz:its.toArray.size+its2.toArray.size<=sizeLine:=by rw[List.size_toArray,List.size_toArray];omega
 have hlong:¬ (!its.toArray.isEmpty&&Builtin.List.listTooLong (its.toArray.size+its2.toArray.size))=true:=by
  rw[xz hsz,Bool.and_false];exact Bool.false_ne_true
 refine call_meets F.slot_list_extend ⟨_,e,rfl⟩ F.entry_list_extend (F.args_list_extend_2 _ _)
  (AutoSeq1.list_extend_list_list_0 l its.toArray n b its2.toArray n2 hlong (by rw[List.size_toArray];omega) (by omega)) ⟨e,e2,?_⟩
 refine ⟨.non,_,I.lset (its':=its++its2) hH e (by simp) (r.append r2) ?_,rfl,q⟩;rw[List.length_append];omega
def BA:V->List V->Hp->VK->Prop:=fun x vs H Q=>∃ l xs i k y,x=.ref l/\vs=[.int i]/\H l=some (.lst xs)/\-(2 ^ 63)<=i/\i<2 ^ 63/\seqIndex? i xs.length=some k/\xs[k]?=some y/\Q y (upd H l (.lst (xs.eraseIdx k)))
theorem p8:MtM X "list.pop" BA:=by
 intro pins s σ H x vs v us Q I rx rv h;obtain ⟨l,xs,i,k,y,rfl,rfl,hH,h1,h2,hk,hy,q⟩:=h
 cases rx
 obtain ⟨u,rfl,ru⟩:=rv.one;obtain ⟨t,rfl⟩:=ru;obtain ⟨z,its,n,r,hl,e⟩:=I.lstM hH;obtain ⟨w,hw,rw'⟩:=r.get hy;refine call_meets F.slot_list_pop ⟨_,e,rfl⟩ F.entry_list_pop (F.args_list_pop_2 _ _)
  (MeetsSeq.list_pop_at l its.toArray n i t k w (fitsIndex_both h1 h2) (by rw[List.size_toArray,<- hl];exact hk) (by rw[<- Array.getElem?_toList];exact hw) (by rw[List.size_toArray];omega)) ⟨e,?_⟩
 refine ⟨y,_,I.lset (its':=its.eraseIdx k) hH e ?_ (r.eraseIdx k) ?_,rw',q⟩
 ·show its.toArray.eraseIdxIfInBounds k=(its.eraseIdx k).toArray
  rw[List.eraseIdxIfInBounds_toArray]
 ·have:=oI xs k
  omega
def Eh:R2:=fun x y H Q=>∃ l b xs zs,x=.ref l/\y=.ref b/\H l=some (.lst xs)/\H b=some (.lst zs)/\xs.length+zs.length<=sizeLine/\∀ p,H p=none->Q (.ref p) (upd H p (.lst (xs++zs)))
theorem BB:OpR X (binaryOp .Add) Eh:=by
 intro pins s σ H x y v u Q I rx ry h;obtain ⟨l,b,xs,zs,rfl,rfl,hH,hB,hz,q⟩:=h
 cases rx
 cases ry
 obtain ⟨z,its,n,r,hl,e⟩:=I.lstM hH;obtain ⟨z2,its2,n2,r2,hl2,e2⟩:=I.lstM hB;refine PySem.P.add_list e e2 ?_ (by rw[List.size_toArray,List.size_toArray];omega);have ea:its.toArray++its2.toArray=(its++its2).toArray:=by simp
 rw[ea];exact ⟨.ref _,_,I.lnew (t':=s.toks) (r.append r2) (by rw[List.length_append];omega),rfl,q _ I.fresh⟩
end
section
variable {prog:Program}{w:World}{A:Around}{E:Value->Shared->Prop}{s:Shared}
end
section
variable {X:Cx}
end
section
variable {κ:Type}[DecidableEq κ]
def fL(kvs:List (κ × V))(k:κ):Option V:=(kvs.find? fun kv=>decide (kv.1=k)).map (·.2)
def dJ(kvs:List (κ × V))(k:κ)(v:V):List (κ × V):=
 if (kvs.any fun kv=>decide (kv.1=k))=true then kvs.map (fun kv=>if kv.1=k then (kv.1,v) else kv) else kvs++[(k,v)]
theorem iJ{p:κ × V}{r:List (κ × V)}{k:κ}(e:p.1=k):fL (p::r) k=some p.2:=by simp[fL,List.find?_cons,e]
theorem gz{p:κ × V}{r:List (κ × V)}{k:κ}(e:¬ p.1=k):fL (p::r) k=fL r k:=by simp[fL,List.find?_cons,e]
theorem p9(k:κ):∀ kvs:List (κ × V),(kvs.any fun kv=>decide (kv.1=k))=(fL kvs k).isSome
 | []=>rfl
 |p::r=>by
  rw[List.any_cons];by_cases e:p.1=k
  ·simp only[iJ e,decide_eq_true e,Bool.true_or,Option.isSome_some]
  ·rw[gz e,decide_eq_false e,Bool.false_or];exact p9 k r
theorem lJ(kvs:List (κ × V))(k:κ)(v:V):(dJ kvs k v).length<=kvs.length+1:=by
 unfold dJ;split
 ·rw[List.length_map];omega
 ·rw[List.length_append,List.length_cons,List.length_nil];omega
theorem RelO.isSome_eq{o:Option V}{u:Option Value}(r:RelO o u):o.isSome=u.isSome:=by
 cases o with
 |none=>cases u with
  |none=>rfl
  |some _=>exact (show False from r).elim
 |some _=>cases u with
  |none=>exact (show False from r).elim
  |some _=>rfl
theorem RelO.getD{o:Option V}{u:Option Value}{d:V}{d':Value}(r:RelO o u)(rd:RelV d d'):RelV (o.getD d) (u.getD d'):=by
 cases o with
 |none=>cases u with
  |none=>exact rd
  |some _=>exact (show False from r).elim
 |some _=>cases u with
  |none=>exact (show False from r).elim
  |some _=>exact r
theorem KV.val{kvs:List (κ × V)}{vs:List (κ × Value)}(r:KV kvs vs)(k:κ):RelO (fL kvs k) (valueAt vs k):=by
 unfold KV at r;induction r with
 |nil=>exact True.intro
 | @cons p q ps qs h t ih=>
  obtain ⟨h1,h2⟩:=h;by_cases e:p.1=k
  ·have e':q.1=k:=h1.symm.trans e
   have b:valueAt (q::qs) k=some q.2:=by simp[valueAt,List.find?_cons,e']
   rw[iJ e,b];exact h2
  ·have e':¬ q.1=k:=fun z=>e (h1.trans z)
   have b:valueAt (q::qs) k=valueAt qs k:=by simp[valueAt,List.find?_cons,e']
   rw[gz e,b];exact ih
theorem KV.any{kvs:List (κ × V)}{vs:List (κ × Value)}(r:KV kvs vs)(k:κ):(kvs.any fun kv=>decide (kv.1=k))=vs.any fun kv=>decide (kv.1=k):=by
 unfold KV at r;induction r with
 |nil=>rfl
 |cons h t ih=>rw[List.any_cons,List.any_cons,ih,h.1]
theorem KV.repl{kvs:List (κ × V)}{vs:List (κ × Value)}(r:KV kvs vs)(k:κ){y:V}{u:Value}(ry:RelV y u) :
    KV (kvs.map fun kv=>if kv.1=k then (kv.1,y) else kv) (vs.map fun kv=>if kv.1=k then (kv.1,u) else kv):=by
 unfold KV at r ⊢;induction r with
 |nil=>exact .nil
 | @cons p q ps qs h t ih=>
  rw[List.map_cons,List.map_cons];refine .cons ?_ ih;obtain ⟨h1,h2⟩:=h;by_cases e:p.1=k
  ·rw[if_pos e,if_pos (h1.symm.trans e)];exact ⟨h1,ry⟩
  ·rw[if_neg e,if_neg (fun z=>e (h1.trans z))];exact ⟨h1,h2⟩
theorem KV.put{kvs:List (κ × V)}{vs:List (κ × Value)}(r:KV kvs vs)(k:κ){y:V}{u:Value}(ry:RelV y u):KV (dJ kvs k y) (stored vs k u):=by
 unfold dJ stored;rw[r.any k];by_cases e:(vs.any fun kv=>decide (kv.1=k))=true
 ·rw[if_pos e,if_pos e];exact r.repl k ry
 ·rw[if_neg e,if_neg e];exact Paired.snoc r ⟨rfl,ry⟩
theorem KV.length{kvs:List (κ × V)}{vs:List (κ × Value)}(r:KV kvs vs):kvs.length=vs.length:=Paired.length r
end
theorem pE{P:Program}{w:World}{k:Key}{u:Value}(r:RelV (kV k) u):(cQ P w).is k u=true:=by
 cases k with
 |inl i=>obtain ⟨t,e⟩:=(show ∃ t,u=Value.int i t from r);subst e;exact rL P w i t
 |inr x=>obtain ⟨t,e⟩:=(show ∃ t,u=Value.str x t from r);subst e;exact rM P w x t
theorem oJ{P:Program}{w:World}:∀ {ks:List Key} {us:List Value},Vals (ks.map kV) us->ItemsAre (cQ P w) ks us
 | [],_,r=>by rw[List.map_nil] at r;cases r;exact .nil
 |k::ks,_,r=>by
  rw[List.map_cons] at r
  cases r with
  |cons h t=>exact .cons (pE h) (oJ t)
abbrev KT(H:Hp):List (List Key × V)->List (List Key × Addr × Value)->Prop:=Paired fun p q=>p.1=q.1/\H q.2.1=some (.tup (p.1.map kV))/\RelV p.2 q.2.2
theorem KT.val{H:Hp}{kvs:List (List Key × V)}{xs:List (List Key × Addr × Value)}(r:KT H kvs xs)(k:List Key):RelO (fL kvs k) ((atKey xs k).map (·.2)):=by
 induction r with
 |nil=>exact True.intro
 | @cons p q ps qs h t ih=>
  obtain ⟨h1,_,h2⟩:=h;by_cases e:p.1=k
  ·have e':q.1=k:=h1.symm.trans e
   have b:atKey (q::qs) k=some q.2:=by simp[atKey,List.find?_cons,e']
   rw[iJ e,b];exact h2
  ·have e':¬ q.1=k:=fun z=>e (h1.trans z)
   have b:atKey (q::qs) k=atKey qs k:=by simp[atKey,List.find?_cons,e']
   rw[gz e,b];exact ih
theorem KT.repl{H:Hp}{kvs:List (List Key × V)}{xs:List (List Key × Addr × Value)}(r:KT H kvs xs)(k:List Key){y:V}{u:Value}(ry:RelV y u) :
    KT H (kvs.map fun kv=>if kv.1=k then (kv.1,y) else kv) (xs.map (putAt k u)):=by
 induction r with
 |nil=>exact .nil
 | @cons p q ps qs h t ih=>
  rw[List.map_cons,List.map_cons];refine .cons ?_ ih;obtain ⟨h1,h2,h3⟩:=h;unfold putAt;by_cases e:p.1=k
  ·rw[if_pos e,if_pos (h1.symm.trans e)];exact ⟨h1,h2,ry⟩
  ·rw[if_neg e,if_neg (fun z=>e (h1.trans z))];exact ⟨h1,h2,h3⟩
theorem KT.put{H:Hp}{kvs:List (List Key × V)}{xs:List (List Key × Addr × Value)}(r:KT H kvs xs)(k:List Key){b:Addr}{y:V}{u:Value}(hb:H b=some (.tup (k.map kV)))(ry:RelV y u) :
    KT H (dJ kvs k y) (storedH xs k b u):=by
 have e:(kvs.any fun kv=>decide (kv.1=k))=(atKey xs k).isSome:=by
  rw[p9,(r.val k).isSome_eq,Option.isSome_map]
 unfold dJ storedH;rw[e];by_cases q:(atKey xs k).isSome=true
 ·rw[if_pos q,if_pos q];exact r.repl k ry
 ·rw[if_neg q,if_neg q];exact Paired.snoc r ⟨rfl,hb,ry⟩
theorem KT.keeps{H H':Hp}{kvs:List (List Key × V)}{xs:List (List Key × Addr × Value)}(r:KT H kvs xs)(ht:∀ b ys,H b=some (.tup ys)->H' b=some (.tup ys)):KT H' kvs xs:=
 Paired.mapP r fun _ _ z=>⟨z.1,ht _ _ z.2.1,z.2.2⟩
section
variable {P:Program}{w:World}{H:Hp}{h:Heap}{a:Addr}
theorem yN{u:HO}(ok:HOk P w H h)(e:Rd H a u):ObjOk P w H h a u:=e.ok ok
theorem pF{kvs:List (Key × V)}(ok:HOk P w H h)(e:Rd H a (.dK kvs)):kvs.length<=sizeLine/\(a == sysModules)=false/\∃ vs,KV kvs vs/\h.DictOf (cQ P w) a vs:=
 show ObjOk P w H h a (.dK kvs) from yN ok e
theorem Do{kvs:List (Key × V)}(ok:HOk P w H h)(e:H a=some (.dK kvs)):kvs.length<=sizeLine/\(a == sysModules)=false/\∃ vs,KV kvs vs/\h.DictOf (cQ P w) a vs:=pF ok (.inl e)
theorem ms{ks:List Key}(ok:HOk P w H h)(e:H a=some (.tup (ks.map kV))):(tupleKind (cQ P w)).is h ks a:=by
 obtain ⟨_,its,r,o,h1,h2,n,h3⟩:=(show ObjOk P w H h a (.tup (ks.map kV)) from ok a _ e)
 exact ⟨o,its.toArray,n,h1,h2,h3,by simpa using oJ r⟩
theorem pG{kvs:List (List Key × V)}(ok:HOk P w H h)(e:Rd H a (.dT kvs)):kvs.length<=sizeLine/\(a == sysModules)=false ∧
    ∃ xs,KT H kvs xs/\h.DictOfH (tupleKind (cQ P w)) a xs:=by
 obtain ⟨z,y,xs,r,o,es,ep,h1,h2,h3,h4,h5⟩:=(show ObjOk P w H h a (.dT kvs) from yN ok e)
 refine ⟨z,y,xs,r,o,es,ep,h1,h2,h3,h4,fun x hx=>?_,h5⟩;have all:∀ {l:List (List Key × V)} {m:List (List Key × Addr × Value)},KT H l m->∀ x∈m,(tupleKind (cQ P w)).is h x.1 x.2.1:=by
  intro l m q;induction q with
  |nil=>intro x hx;exact nomatch hx
  | @cons p q ps qs hq t ih=>
   intro x hx;rcases List.mem_cons.mp hx with e | hx
   ·subst e
    exact ms ok (by rw[<- hq.1];exact hq.2.1)
   ·exact ih x hx
 exact all r x hx
theorem Dp{kvs:List (List Key × V)}(ok:HOk P w H h)(e:H a=some (.dT kvs)):kvs.length<=sizeLine/\(a == sysModules)=false ∧
    ∃ xs,KT H kvs xs/\h.DictOfH (tupleKind (cQ P w)) a xs:=pG ok (.inl e)
end
def DGet(H:Hp)(a:Addr)(y:V)(r:Option V):Prop:=
 (∃ kvs k,Rd H a (.dK kvs)/\y=kV k/\r=fL kvs k)\/∃ kvs k b,Rd H a (.dT kvs)/\y=.ref b/\H b=some (.tup (k.map kV))/\r=fL kvs k
def DPut(H:Hp)(a:Addr)(y v:V)(H':Hp):Prop:=
 (∃ kvs k,H a=some (.dK kvs)/\y=kV k/\kvs.length<sizeLine/\H'=upd H a (.dK (dJ kvs k v))) ∨
 ∃ kvs k b,H a=some (.dT kvs)/\y=.ref b/\H b=some (.tup (k.map kV))/\kvs.length<sizeLine/\H'=upd H a (.dT (dJ kvs k v))
theorem DGet.t{H:Hp}{a b:Addr}{kvs:List (List Key × V)}{k:List Key}(e:H a=some (.dT kvs))(eb:H b=some (.tup (k.map kV))):DGet H a (.ref b) (fL kvs k):=.inr ⟨kvs,k,b,.inl e,rfl,eb,rfl⟩
theorem DPut.t{H:Hp}{a b:Addr}{kvs:List (List Key × V)}{k:List Key}{v:V}(e:H a=some (.dT kvs))(eb:H b=some (.tup (k.map kV)))(hl:kvs.length<sizeLine) :
    DPut H a (.ref b) v (upd H a (.dT (dJ kvs k v))):=.inr ⟨kvs,k,b,e,rfl,eb,hl,rfl⟩
section
variable {X:Cx}{pins:List (Addr × Obj)}{σ:St}{H:Hp}{s:Shared}{a:Addr}{y v:V}{u r:Value}{o:Option V}{A:Around}{E:Value->Shared->Prop}
theorem Inv.big(I:Inv X pins σ H s):sysModules<s.heap.objs.size:=by
 have h:mainGlobals<s.heap.objs.size:=(I.mod.glob.keeps I.bk).lt;exact Nat.lt_trans (by decide) h
theorem Ei{Q:Value->Shared->Prop}(hu:A.units+1<cLine)(I:Inv X pins σ H s)(g:DGet H a y o)(ry:RelV y u)(h:∀ s',Inv X pins σ H s'->Q (.bool o.isSome) s') :
    wpAny (model X.prog X.w) A (compareOp .In u (.ref a)) Q E s:=by
 rcases g with ⟨kvs,k,e,ey,l⟩ | ⟨kvs,k,b,e,ey,eb,l⟩
 ·subst ey
  obtain ⟨z,hd,vs,rel,dd⟩:=pF I.hok e;refine wpAny_in_of (pE ry) hd dd.mapOf ?_;rw[<- (rel.val k).isSome_eq,<- l];exact h _ (I.tok _)
 ·subst ey
  cases (show u=Value.ref b from ry)
  obtain ⟨z,hd,xs,rel,dd⟩:=pG I.hok e;refine wpAny_in_heap (tupleKind_room_in1 hu) (ms I.hok eb) hd dd ?_;have q:=(rel.val k).isSome_eq;rw[Option.isSome_map] at q;rw[<- q,<- l];exact h _ (I.tok _)
theorem r9{h':Heap}{t':Nat}{ob:HO}(I:Inv X pins σ H s)(mu:Mut (H a))(hs:Heap.SameBut a s.heap h')(he:∃ q,h'.get? a=some q)(new:ObjOk X.prog X.w (upd H a ob) h' a ob) :
    Inv X pins σ (upd H a ob) { s with heap:=h',toks:=t' }:=
 I.write (x:=a) (e:=a) mu (.inl rfl) (fun b q hb z=>(hs.2 b hb).trans z) he new
theorem BC{P:Program}{w:World}{H':Hp}{h':Heap}{kvs:List (Key × V)}{vs:List (Key × Value)}(z:kvs.length<=sizeLine)(hd:(a == sysModules)=false)(rel:KV kvs vs)(dd:h'.DictOf (cQ P w) a vs) :
    ObjOk P w H' h' a (.dK kvs):=⟨z,hd,vs,rel,dd⟩
theorem vn{H':Hp}{Q:Unit->Shared->Prop}(hu:A.units+1<cLine)(I:Inv X pins σ H s)(g:DPut H a y v H')(ry:RelV y u)(rv:RelV v r)(h:∀ s',Inv X pins σ H' s'->Q () s') :
    wpAny (model X.prog X.w) A (setItem (.ref a) u r) Q E s:=by
 rcases g with ⟨kvs,k,e,ey,l,eH⟩ | ⟨kvs,k,b,e,ey,eb,l,eH⟩
 ·subst ey eH
  obtain ⟨z,hd,vs,rel,dd⟩:=Do I.hok e;have hz:vs.length<=sizeLine:=by rw[<- rel.length];exact z
  have hl:(dJ kvs k v).length<=sizeLine:=by have:=lJ kvs k v;omega
  refine wpAny_setItem_pairs (hsz:=hz) (pE ry) dd fun h' dd' hs=>h _ ?_;have he:∃ q,h'.get? a=some q:=let ⟨q,_,_,hq,_⟩:=dd';⟨q,hq⟩;exact r9 I (by rw[e];exact True.intro) hs he (BC hl hd (rel.put k rv) dd')
 ·subst ey eH
  cases (show u=Value.ref b from ry)
  obtain ⟨z,hd,xs,rel,dd⟩:=Dp I.hok e;have hz:xs.length<=sizeLine:=by rw[<- Paired.length rel];exact z
  have hl:(dJ kvs k v).length<=sizeLine:=by have:=lJ kvs k v;omega
  refine wpAny_setItem_heap (hsz:=hz) (tupleKind_room_in1 hu) (ms I.hok eb) dd fun h' dd' hs=>h _ ?_;obtain ⟨q,es,ep,hq,h2,h3,h4,_,h5⟩:=dd';refine r9 I (by rw[e];exact True.intro) hs ⟨q,hq⟩ ⟨hl,hd,_,(rel.put k eb rv).keeps fun c ys ec=>?_,q,es,ep,hq,h2,h3,h4,h5⟩;rw[aR (CZ ec e (fun z=>nomatch z))];exact ec
end
section
variable {X:Cx}{pins:List (Addr × Obj)}{σ:St}{H:Hp}{s:Shared}{a:Addr}{kvs:List (Key × V)}{k:Key}{u:Value}{A:Around}{E:Value->Shared->Prop}
end
section
variable {X:Cx}{o i e value:Expr}{pos pos' tpos:Pos}{td ty tv:TE}
end
theorem xA{P:Program}{w:World}{H:Hp}(h:Heap)(hb:sysModules<h.objs.size):ObjOk P w H (h.push { cls:=.type "dict", data:=.dict #[] }) h.objs.size (.dT []):=
 ⟨Nat.zero_le _,beq_eq_false_iff_ne.mpr (Ne.symm (Nat.ne_of_lt hb)),[],.nil,_,#[],0,Heap.get?_push_size _ rfl,⟨rfl,rfl,rfl⟩,rfl,rfl,List.nodup_nil⟩
def BD:TE:=fun _ H Q=>∀ p,H p=none->Q (.ref p) (upd H p (.dT []))
section
variable {X:Cx}{pos:Pos}
theorem xB:PE X (.Dict [] [] pos) BD:=fun pins s σ H Q I h=>
 wpAny_Dict_empty ⟨.ref s.heap.objs.size,_,I.laid (a:=s.heap.objs.size) (o:=.dT []) (t':=s.toks) (fun _ _ q=>Heap.get?_push_of_some _ q) (Nat.le_refl _) (xA s.heap I.big),rfl,h _ (I.hok.fresh (Nat.le_refl _))⟩
end
structure M1 (X:Cx) (o:Expr) (m:Str) (apos:Pos) (e:Expr) (cpos:Pos):Prop where
 base:attributeBase o m X.env (eval o X.env)=eval o X.env
 few:((backTo cpos (starEach [e] X.env)).all (fun x=>!x.1)&&(backToKw cpos (keywordEach [] X.env)).all (fun x=>x.1.isSome)
  && decide (([e]:List Expr).length+([]:List Keyword).length+(if ([]:List Keyword).isEmpty then 0 else 1)<30))=true
 line:(apos.endLine == cpos.line)=true
 trees:backTo cpos (starEach [e] X.env)=[(false,eval e X.env)]
structure M2 (X:Cx) (o:Expr) (m:Str) (apos:Pos) (e f:Expr) (cpos:Pos):Prop where
 base:attributeBase o m X.env (eval o X.env)=eval o X.env
 few:((backTo cpos (starEach [e,f] X.env)).all (fun x=>!x.1)&&(backToKw cpos (keywordEach [] X.env)).all (fun x=>x.1.isSome)
  && decide (([e,f]:List Expr).length+([]:List Keyword).length+(if ([]:List Keyword).isEmpty then 0 else 1)<30))=true
 line:(apos.endLine == cpos.line)=true
 trees:backTo cpos (starEach [e,f] X.env)=[(false,eval e X.env),(false,eval f X.env)]
def IsD(H:Hp)(a:Addr):Prop:=(∃ kvs,Rd H a (.dK kvs))\/∃ kvs,Rd H a (.dT kvs)
theorem BE{X:Cx}{pins:List (Addr × Obj)}{σ:St}{H:Hp}{s:Shared}{a:Addr}(I:Inv X pins σ H s)(d:IsD H a) :
    s.TypeIs (.ref a) "dict" /\ (∀ b,Value.ref a=.ref b->∃ ob,s.heap.get? b=some ob/\ob.dict=none)/\(a == sysModules)=false:=by
 rcases d with ⟨kvs,e⟩ | ⟨kvs,e⟩
 ·obtain ⟨_,hd,vs,_,dd⟩:=pF I.hok e
  refine ⟨dd.typeIs,fun b q=>?_,hd⟩
  cases q
  obtain ⟨ob,_,_,h1,h2,_⟩:=dd;exact ⟨ob,h1,h2.2.1⟩
 ·obtain ⟨_,hd,xs,_,dd⟩:=pG I.hok e
  refine ⟨dd.typeIs,fun b q=>?_,hd⟩
  cases q
  obtain ⟨ob,_,_,h1,h2,_⟩:=dd;exact ⟨ob,h1,h2.2.1⟩
section
variable {X:Cx}{pins:List (Addr × Obj)}{σ:St}{H:Hp}{s:Shared}{a:Addr}{y d:V}{u r:Value}{o:Option V}{A:Around}{E:Value->Shared->Prop}
theorem BF{Q:Value->Shared->Prop}(hu:A.units+1<cLine)(I:Inv X pins σ H s)(g:DGet H a y o)(ry:RelV y u)(rd:RelV d r)(h:∀ w' s',Inv X pins σ H s'->RelV (o.getD d) w'->Q w' s') :
    wpAny (model X.prog X.w) A (call (.builtin "dict.get") [.ref a,u,r]) Q E s:=by
 rcases g with ⟨kvs,k,e,ey,l⟩ | ⟨kvs,k,b,e,ey,eb,l⟩
 ·subst ey
  obtain ⟨z,hd,vs,rel,dd⟩:=pF I.hok e;refine call_meetsIn PySem.F.slot_dict_get dd.typeIs PySem.F.entry_dict_get (PySem.F.args_dict_get_3 _ _ _) (meets_dict_get_default (cQ X.prog X.w) a (pE ry) hd r) ⟨_,dd.mapOf,h _ _ (I.tok _) ?_⟩;rw[l];exact (rel.val k).getD rd
 ·subst ey
  cases (show u=Value.ref b from ry)
  obtain ⟨z,hd,xs,rel,dd⟩:=pG I.hok e;refine call_meetsIn PySem.F.slot_dict_get dd.typeIs PySem.F.entry_dict_get (PySem.F.args_dict_get_3 _ _ _) (meetsH_dict_get_default (tupleKind (cQ X.prog X.w)) a b hd r) ⟨tupleKind_room_in1 hu,k,xs,ms I.hok eb,dd,h _ _ (I.tok _) ?_⟩;rw[l];exact (rel.val k).getD rd
end
def BG(td ty tx:TE):TE:=fun σ H Q=>td σ H fun x H1=>∃ a,x=.ref a/\IsD H1 a/\ty σ H1 fun y H2=>tx σ H2 fun z H3=>∃ o,DGet H3 a y o/\Q (o.getD z) H3
section
variable {X:Cx}{o e f:Expr}{apos cpos:Pos}{td ty tx:TE}
theorem xC(hu:X.A.units+1<cLine)(ho:PE X o td)(he:PE X e ty)(hf:PE X f tx)(m:M2 X o "get" apos e f cpos):PE X (.Call (.Attribute o "get" apos) [e,f] [] cpos) (BG td ty tx):=by
 intro pins s σ H Q I h;refine wpAny_Call_method m.base m.few m.line PySem.F.plainAttrs_dict PySem.F.slot_dict_get PySem.F.type_dict_get (thn (ho pins s σ H _ I h) fun u s1 ⟨x,H1,I1,rx,a,ex,d,q1⟩=>?_);subst ex;obtain rfl:u=Value.ref a:=rx;obtain ⟨t1,t2,_⟩:=BE I1 d;refine ⟨t1,t2,?_⟩;rw[m.trees]
 refine Calls.callWith_builtin rfl (Calls.evalArgs_plain (Calls.spliced_cons (thn (he pins s1 σ H1 _ I1 q1) fun iv s2 ⟨y,H2,I2,ry,q2⟩=>
  Calls.spliced_cons (thn (hf pins s2 σ H2 _ I2 q2) fun fv s3 ⟨z,H3,I3,rz,ov,g,q3⟩=>Calls.spliced_nil ?_))))
 exact BF hu I3 g ry rz fun w' s4 I4 rw'=>⟨_,H3,I4,rw',q3⟩
end
section
variable {X:Cx}{pins:List (Addr × Obj)}{σ:St}{H:Hp}{s:Shared}{a:Addr}{kvs:List (Key × V)}{A:Around}{E:Value->Shared->Prop}
end
section
variable {X:Cx}{pins:List (Addr × Obj)}{σ:St}{H:Hp}{s:Shared}{a:Addr}{y:V}{u:Value}{A:Around}{E:Value->Shared->Prop}
end
end L2
namespace Att
open PySem PySem.W PySem.Calls PyProof.Rows
theorem mt{P:Params}{h:Heap}:∀ (ns:List Int) (vs:List Value),WellAll P h vs (ns.map WData.int)->IntsAre vs ns:=by
 intro ns;induction ns with
 |nil=>
  intro vs w;rw[List.map_nil] at w
  cases w
  exact .nil
 |cons n ns ih=>
  intro vs w;rw[List.map_cons] at w
  cases w with
  |cons a b=>
   cases a
   exact .cons _ _ (ih _ b)
theorem vo{l:OpenLaw}{n:Nat}(hn:l.most=some n){P:Params}{h:Heap}{args:List WData}{vals:List Value}
    (hpre:l.row.toRowW.claim.pre args=true) (hwl:WellAll P h vals args) :
    ∃ a vs ns,vals=[Value.ref a]/\args=[WData.list (ns.map WData.int)]/\h.get? a=some { cls:=.type "list", data:=.seq vs.toArray }/\IntsAre vs ns/\ns.length<=n:=by
 have hsh:WShape.hasAll [] args [.list .int]=true:=(pre_splitW hpre).1;have hc:l.pre.holds [] { args:=args }=true:=(pre_splitW hpre).2;obtain ⟨d,r,rfl,h1,h2⟩:=hasAllW_cons hsh;obtain rfl:=hasAllW_nil h2;obtain ⟨xs,rfl,h3⟩:=hasW_list h1;obtain ⟨ns,rfl⟩:=items_int h3;have hlen:ns.length<=n:=by
  unfold OpenLaw.pre at hc;have h4:(WTm.not (.lt (.lit (.int (n:Int))) (.len (.arg 0)))).holds [] { args:=[.list (ns.map .int)] }=true:=by
   have h4:=(holds_andW hc).1;rw[hn] at h4;exact h4
  have h5:=condW_of h4 (w_not (w_lt w_lit (w_len_list (w_arg rfl))));rw[List.length_map] at h5;refine Nat.le_of_not_lt fun q=>?_;have q':(n:Int)<((ns.length:Nat):Int):=by omega
  first
   | (rw[decide_eq_true q'] at h5;exact absurd h5 (by decide))
   | (simp at h5;omega)
 cases hwl with
 |cons w1 w2=>
  cases w2
  cases w1 with
  |list ho hall=>exact ⟨_,_,ns,rfl,rfl,ho,mt ns _ hall,hlen⟩
theorem vp(l:OpenLaw)(args:List WData):l.row.toRowW.claim.post args (.bool true) args=true:=
 postW_of (r:=l.row.toRowW) (X:=(true == true))
  (show WShape.has [] (.bool true) .bool=true by first | rfl | decide | simp[WShape.has,WShape.arms,WShape.armsAll])
  (show (WTm.eq .res (.lit (.bool true))).value [] { args:=args,res:=some (.bool true),after:=args }=some (.bool (true == true)) from w_eq_bool (w_res rfl) w_lit) rfl
theorem attach_call{l:OpenLaw}{n:Nat}{q:Program}{loose:List Str}{XP:(Str->Option Value)->Heap->Prop}{YP:World->Heap->Prop}{d:DefRec}
    (hn:l.most=some n) (hdf:d.params.defaults=[])
    (call:∀ (w:World) (s₀ s₁:Shared) (mg mb:Str->Option Value) (fa:Addr) (o:Obj) (pm cd doc:Value) (a:Addr) (vs:List Value) (ns:List Int),
     Ground q loose [] XP w s₀ mg mb s₁.heap->YP w s₁.heap →
     s₁.heap.get? fa=some o->o.data=.func (docDef d.name d.params d.body d.scope pm cd doc)->s₁.heap.CodeRec cd d.name->mg d.name=some (.ref fa) →
     s₁.heap.get? a=some { cls:=.type "list", data:=.seq vs.toArray }->IntsAre vs ns->ns.length<=n->s₁.gens=#[] →
     codeAny (model l.prog w) callerA (.call (.ref fa) ⟨[.ref a],[]⟩) (fun r s'=>r=.ok (.ret (.bool true))/\OldK s₁.heap s'.heap/\s'.os=s₁.os/\AllBare s'.gens) s₁) :
    WalkO q loose XP YP l.row.toRowW d [] (fun f vs=>PySem.call f vs):=by
 intro w s₀ s₁ mg mb G Y fa o pm cd doc dV kV ho hd hcd hD hmg hg args vals as hpre hlay hrd hwl hlo;obtain rfl:dV=.none:=Dflts.none hD hdf;obtain rfl:kV=.none:=Dflts.noKw hD;obtain ⟨a,vs,ns,rfl,rfl,hobj,hints,hlen⟩:=vo hn hpre hwl;refine enter_call (codeAny_mono (call w s₀ s₁ mg mb fa o pm cd doc a vs ns G Y ho (fd_plain hd) hcd hmg hobj hints hlen hg) fun r s' hq=>?_);obtain ⟨rfl,h2,h3,h4⟩:=hq
 exact ⟨.inl ⟨.bool true,.bool true,[],rfl,fun _=>rfl,.bool true,vp l _,fun _=>⟨List.Pairwise.nil,fun _ hm=>(nomatch hm)⟩⟩,h2,h3,h4⟩
section
variable {prog:Program}{w:World}{A:Around}{E:Value->Shared->Prop}{s:Shared}{K:Frag}
end
end Att
namespace L2
open PySem PySem.Spec PyProof.Rows
theorem j9:∀ {vs:List Value} {ns:List Int},IntsAre vs ns->Vals (ns.map V.int) vs
 |_,_,.nil=>.nil
 |_,_,.cons n t h=>.cons ⟨t,rfl⟩ (j9 h)
def BH(H:Hp):Prop:=∀ b,H b=none\/∃ o xs,H b=some (.frz o (.lst xs))
theorem xD{P:Program}{w:World}{K:PySem.W.Frag}{mg mb:Str->Option Value}{CX:CXT}{k:Nat}{fa a:Addr}{fd:FuncData}{x:Str}{sp:Sp}{s₁:Shared}{vs:List Value}{ns:List Int}
    (KX:K.In s₁.heap) (hns:s₁.heap.Ns mainGlobals mg) (hb:s₁.heap.Ns builtinsNs mb) (hbb:∀ x:Str,x ≠ "__name__" -> mb x=bootBuiltins x) (hlim:s₁.heap.NoLimit) (hg:s₁.gens=#[])
    (ha:s₁.heap.get? a=some { cls:=.type "list", data:=.seq vs.toArray }) (hi:IntsAre vs ns) (hl:ns.length<=sizeLine) (hr:Room k callerA)
    (F:∀ base:Heap,K.In base->base.Ns mainGlobals mg->FnOk P w K mg base CX k fa fd [x] sp) (hbind:∀ (s:Shared) (u:Value),BindsTo s fd ⟨[u],[]⟩ [(x,u)])
    (hsp:∀ H:Hp,BH H->SqL K H a (ns.map V.int)->sp [.ref a] H (fun v _=>v=.bl true) fun _ _ _=>False)
    (hCX:∀ H e s',CX [] H s₁ (fun _ _ _=>False) e s'->False) :
    codeAny (model P w) callerA (.call (.ref fa) ⟨[.ref a],[]⟩) (fun r s'=>r=.ok (.ret (.bool true))/\OldK s₁.heap s'.heap/\s'.os=s₁.os/\AllBare s'.gens) s₁:=by
 have rv:=j9 hi;have lenV:=hi.length;have core:∀ H:Hp,BH H->SqL K H a (ns.map V.int)->HOk P w H s₁.heap->(∀ b,H b≠none->b=a)->(H a≠none->K.lookup a=none) →
     codeAny (model P w) callerA (.call (.ref fa) ⟨[.ref a],[]⟩) (fun r s'=>r=.ok (.ret (.bool true))/\OldK s₁.heap s'.heap/\s'.os=s₁.os/\AllBare s'.gens) s₁:=by
  intro H hO hS hok hA hK;have base_of:∀ {b:Addr} {o:Obj},s₁.heap.get? b=some o->H b=none->(jD s₁.heap H).get? b=some o:=fun e n=>xk e n;have noA:∀ {b:Addr} {o:Obj} {es:Array DictEntry} {ep:Nat},s₁.heap.get? b=some o->o.data=.dict es ep->H b=none:=fun {b o es ep} e d=>by
   cases q:H b with
   |none=>rfl
   |some u=>
    have e':b=a:=hA b (by rw[q];simp);subst e';rw[ha] at e;cases e;have d':Data.seq vs.toArray _=Data.dict es ep:=d
    cases d'
  have nsK:∀ {b:Addr} {m:Str->Option Value},s₁.heap.Ns b m->(jD s₁.heap H).Ns b m:=fun {b m} ⟨o,es,ep,e,d,r⟩=>⟨o,es,ep,base_of e (noA e d),d,r⟩
  have hKb:K.In (jD s₁.heap H):=fun b o e=>base_of (KX b o e) (by
   cases q:H b with
   |none=>rfl
   |some u=>
    have e':b=a:=hA b (by rw[q];simp)
    subst e'
    rw[hK (by rw[q];simp)] at e;cases e)
  have hM:Mod K mg (jD s₁.heap H):=⟨hKb,nsK hns,⟨mb,nsK hb,hbb⟩,let ⟨mc,h1,h2⟩:=hlim;⟨mc,nsK h1,h2⟩⟩
  have e0:Env0 P w K mg (jD s₁.heap H) callerA [] s₁ H:=⟨rfl,hM,fun b o e=>ze e,Nat.le_of_eq (uU _ _),trivial,fun b hb=>absurd (show b∈([]:List Addr) from hb) (by simp),hok,.of_eq hg⟩
  refine codeAny_mono ((F _ hKb (nsK hns)).run callerA [] s₁ H ⟨[.ref a],[]⟩ [.ref a] [.ref a] _ _ hr e0 (hbind s₁ (.ref a)) (.cons rfl .nil) (hsp H hO hS)) fun r s' h=>?_
  cases r with
  |error e=>exact (hCX H e s' h).elim
  |ok fl=>
   cases fl with
   |next=>exact False.elim h
   |brk=>exact False.elim h
   |cont=>exact False.elim h
   |ret u=>
    obtain ⟨v,H',os,bare,un,hok',r',q⟩:=h;have q':v=.bl true:=q;subst q';obtain rfl:u=Value.bool true:=r';refine ⟨rfl,OldK.of_keep fun b o e=>?_,os,bare⟩
    cases q:H b with
    |none=>exact un.keep b o e q (by intro z;exact absurd (show b∈([]:List Addr) from z) (by simp)) (by simp)
    |some u=>
     rcases hO b with z | ⟨ob,xs,z⟩
     ·rw[q] at z;cases z
     ·have z2:=un.frzs b ob _ z
      obtain ⟨e1,_⟩:=hok b _ z;obtain ⟨e2,_⟩:=hok' b _ z2;rw[e] at e1;cases e1;exact e2
 cases hk:K.lookup a with
 |some o=>
  have e:=KX a o hk;rw[ha] at e
  cases e
  refine core (fun _=>none) (fun _=>.inl rfl) (.inr ⟨_,vs.toArray,_,hk,rfl,rfl,rfl,by rw[List.size_toArray,lenV];exact hl,by simpa using rv⟩) (fun b u z=>by have z':(none:Option HO)=some u:=z;cases z') (fun b z=>absurd rfl z) fun z=>absurd rfl z
 |none=>
  refine core (fun b=>if b=a then some (.frz { cls:=.type "list", data:=.seq vs.toArray } (.lst (ns.map V.int))) else none) (fun b=>?_) (.inl (.inr ⟨{ cls:=.type "list", data:=.seq vs.toArray },if_pos rfl⟩)) (fun b u z=>?_) (fun b z=>?_) fun _=>hk
  ·by_cases hb:b=a
   ·exact .inr ⟨_,_,if_pos hb⟩
   ·exact .inl (if_neg hb)
  ·by_cases hb:b=a
   ·have z':=(if_pos hb).symm.trans z
    cases z'
    subst hb;exact ⟨ha,by rw[List.length_map];exact hl,vs,_,rv,ha⟩
   ·have z':=(if_neg hb).symm.trans z
    cases z'
  ·by_cases hb:b=a
   ·exact hb
   ·exact absurd (if_neg hb) z
def eI(s:Stmt):Arguments:=match s with
 | .FunctionDef _ a _ _ _ _ _ _ _ _=>a
 |_=>{ posonlyargs:=[],args:=[],vararg:=none,kwonlyargs:=[],kw_defaults:=[],kwarg:=none,defaults:=[] }
def cK(s:Stmt):List Stmt:=match s with
 | .FunctionDef _ _ b _ _ _ _ _ _ _=>b
 |_=>[]
def az(s:Stmt):Scope:=match s with
 | .FunctionDef _ _ _ _ _ _ sc _ _ _=>sc
 |_=>{ kind:=.function,names:=[],isGenerator:=false,isCoroutine:=false }
abbrev E0:XK:=fun _ _ _=>False
structure Fun (K:PySem.W.Frag) (x qual:Str) (st:Stmt) (f:Addr) (fd:FuncData):Prop where
 ex:∃ (oc:Value) (od:Option Addr) (kV doc pm:Value) (an:Option Addr) (cdv ct:Value) (osl:Array (Option Value)),
  fd=PySem.W.fnOf x qual (eI st) (cK st) (az st) .none kV doc pm an cdv ct/\K.lookup f=some ⟨oc,od,.func fd,osl⟩/\PySem.W.codeIn K cdv qual=true
 kp:PySem.W.keepIn K (.ref f)=true
section
variable {P:Program}{w:World}{K:PySem.W.Frag}{mg:Str->Option Value}{base:Heap}
theorem Fun.binds{x qual:Str}{st:Stmt}{f:Addr}{fd:FuncData}{ps:List Str}(F:Fun K x qual st f fd)
    (h:∀ (kV doc pm:Value) (an:Option Addr) (cdv ct:Value) (us:List Value),us.length=ps.length->bindArgs (PySem.W.fnOf x qual (eI st) (cK st) (az st) .none kV doc pm an cdv ct) ⟨us,[]⟩=pure (ps.zip us)):Binds K fd ps []:=by
 obtain ⟨oc,od,kV,doc,pm,an,cdv,ct,osl,rfl,lk,hcd⟩:=F.ex;exact .all (h kV doc pm an cdv ct)
theorem mw{x qual:Str}{st:Stmt}{f:Addr}{oc:Value}{od an:Option Addr}{osl:Array (Option Value)}{kV doc pm cdv ct:Value}(l:K.lookup f=some ⟨oc,od,.func (PySem.W.fnOf x qual (eI st) (cK st) (az st) .none kV doc pm an cdv ct),osl⟩)
    (c:PySem.W.codeIn K cdv qual=true) (k:PySem.W.keepIn K (.ref f)=true):Fun K x qual st f (PySem.W.fnOf x qual (eI st) (cK st) (az st) .none kV doc pm an cdv ct):=⟨⟨oc,od,kV,doc,pm,an,cdv,ct,osl,rfl,l,c⟩,k⟩
end
section
variable {X:Cx}
end
def Same(H H':Hp):Prop:=∀ b o,H b=some o->H' b=some o
theorem Same.refl(H:Hp):Same H H:=fun _ _ h=>h
theorem Same.trans{H H1 H2:Hp}(a:Same H H1)(b:Same H1 H2):Same H H2:=fun c o h=>b c o (a c o h)
section
variable {X:Cx}
end
section
variable {κ:Type}[DecidableEq κ]
end
end L2
set_option maxHeartbeats 4000000
theorem List.reverseRecOn'{α:Type}{motive:List α->Prop}(l:List α)(nil:motive [])(snoc:∀ xs x,motive xs->motive (xs++[x])):motive l:=by
 have:∀ l:List α,motive l.reverse:=by
  intro l;induction l with
  |nil=>exact nil
  |cons x xs ih=>rw[List.reverse_cons];exact snoc _ _ ih
 simpa using this l.reverse
namespace Mi
open PySem L2
inductive Tg where
 |f | o | b
 deriving DecidableEq
inductive D where
 |non | bl (b:Bool) | int (i:Int) | str (x:Str)
 |lst (t:Tg) (xs:List D) | tup (xs:List D)
 |dic (t:Tg) (kvs:List (List Key × D))
 |ins (t:Tg) (C:Addr) (fs:List (Str × D))
 |exc (C:Value)
 |scr (ns:List Int)
 |slf (a C:Addr) (fs:List (Str × D))
namespace D
def tag:D->Tg
 | .lst t _=>t
 | .dic t _=>t
 | .ins t _ _=>t
 | .slf _ _ _=>.o
 |_=>.f
def rd:D->D
 | .lst .o xs=>.lst .b xs
 | .dic .o xs=>.dic .b xs
 | .ins .o C fs=>.ins .b C fs
 | .slf _ C fs=>.ins .b C fs
 |d=>d
mutual
def fz:D->D
 | .lst _ xs=>.lst .f (fzs xs)
 | .dic _ kvs=>.dic .f (fzk kvs)
 | .tup xs=>.tup (fzs xs)
 | .ins _ C fs=>.ins .f C fs
 | .slf _ C fs=>.ins .f C fs
 |d=>d
def fzs:List D->List D
 | []=>[]
 |x::xs=>fz x::fzs xs
def fzk:List (List Key × D)->List (List Key × D)
 | []=>[]
 | (k,x)::xs=>(k,fz x)::fzk xs
end
def atom:D->Bool
 | .non | .bl _ | .int _ | .str _=>true
 |_=>false
theorem fzs_map:∀ xs:List D,fzs xs=xs.map fz:=by
 intro lc
 cases lc with
 |nil=>
  simp[fzs]
 |cons x xs=>
  simp[fzs,fzs_map xs]
end D
mutual
inductive Rep (H:Hp):V->D->Prop
 |non:Rep H .non .non
 |bl {b}:Rep H (.bl b) (.bl b)
 |int {i}:Rep H (.int i) (.int i)
 |str {x}:Rep H (.str x) (.str x)
 |lst {a xs ds t}:H a=some (.lst xs)->Reps H xs ds->Rep H (.ref a) (.lst t ds)
 |tup {a xs ds}:H a=some (.tup xs)->Reps H xs ds->Rep H (.ref a) (.tup ds)
 |dic {a kvs ks t}:H a=some (.dT kvs)->RepK H kvs ks->Rep H (.ref a) (.dic t ks)
 |ins {a C dx fs ds t}:H a=some (.ins C dx fs)->RepF H fs ds->Rep H (.ref a) (.ins t C ds)
 |scr {a o ns}:H a=some (.frz o (.lst (ns.map V.int)))->Rep H (.ref a) (.scr ns)
 |slf {a C dx fs ds}:H a=some (.ins C dx fs)->RepF H fs ds->Rep H (.ref a) (.slf a C ds)
inductive Reps (H:Hp):List V->List D->Prop
 |nil:Reps H [] []
 |cons {v d vs ds}:Rep H v d->Reps H vs ds->Reps H (v::vs) (d::ds)
inductive RepK (H:Hp):List (List Key × V)->List (List Key × D)->Prop
 |nil:RepK H [] []
 |cons {k v d vs ds}:Rep H v d->RepK H vs ds->RepK H ((k,v)::vs) ((k,d)::ds)
inductive RepF (H:Hp):List (Str × V)->List (Str × D)->Prop
 |nil:RepF H [] []
 |cons {k v d vs ds}:Rep H v d->RepF H vs ds->RepF H ((k,v)::vs) ((k,d)::ds)
end
mutual
theorem Rep.mono{H H':Hp}(s:Same H H'):∀ {v d},Rep H v d->Rep H' v d:=by
 intro _ _ hc
 cases hc with
 |non=>
  exact .non
 |bl=>
  exact .bl
 |int=>
  exact .int
 |str=>
  exact .str
 |lst h r=>
  exact .lst (s _ _ h) (Reps.mono s r)
 |scr h=>
  exact .scr (s _ _ h)
 |slf h r=>
  exact .slf (s _ _ h) (RepF.mono s r)
 |tup h r=>
  exact .tup (s _ _ h) (Reps.mono s r)
 |dic h r=>
  exact .dic (s _ _ h) (RepK.mono s r)
 |ins h r=>
  exact .ins (s _ _ h) (RepF.mono s r)
theorem Reps.mono{H H':Hp}(s:Same H H'):∀ {v d},Reps H v d->Reps H' v d:=by
 intro _ _ hc
 cases hc with
 |nil=>
  exact .nil
 |cons h r=>
  exact .cons (Rep.mono s h) (Reps.mono s r)
theorem RepK.mono{H H':Hp}(s:Same H H'):∀ {v d},RepK H v d->RepK H' v d:=by
 intro _ _ hc
 cases hc with
 |nil=>
  exact .nil
 |cons h r=>
  exact .cons (Rep.mono s h) (RepK.mono s r)
theorem RepF.mono{H H':Hp}(s:Same H H'):∀ {v d},RepF H v d->RepF H' v d:=by
 intro _ _ hc
 cases hc with
 |nil=>
  exact .nil
 |cons h r=>
  exact .cons (Rep.mono s h) (RepF.mono s r)
end
mutual
theorem Rep.fz{H:Hp}:∀ {v d},Rep H v d->Rep H v d.fz:=by
 intro _ _ hc
 cases hc with
 |non=>
  exact .non
 |bl=>
  exact .bl
 |int=>
  exact .int
 |str=>
  exact .str
 |lst h r=>
  exact .lst h (Reps.fz r)
 |tup h r=>
  exact .tup h (Reps.fz r)
 |dic h r=>
  exact .dic h (RepK.fz r)
 |ins h r=>
  exact .ins h r
 |scr h=>
  exact .scr h
 |slf h r=>
  exact .ins h r
theorem Reps.fz{H:Hp}:∀ {v d},Reps H v d->Reps H v (D.fzs d):=by
 intro _ _ hc
 cases hc with
 |nil=>
  exact .nil
 |cons h r=>
  exact .cons (Rep.fz h) (Reps.fz r)
theorem RepK.fz{H:Hp}:∀ {v d},RepK H v d->RepK H v (D.fzk d):=by
 intro _ _ hc
 cases hc with
 |nil=>
  exact .nil
 |cons h r=>
  exact .cons (Rep.fz h) (RepK.fz r)
end
theorem Reps.length{H:Hp}:∀ {vs ds},Reps H vs ds->vs.length=ds.length:=by
 intro _ _ hc
 cases hc with
 |nil=>
  exact rfl
 |cons _ r=>
  simp[Reps.length r]
theorem Reps.get{H:Hp}:∀ {vs ds} {i:Nat} {d},Reps H vs ds->ds[i]?=some d->∃ v,vs[i]?=some v/\Rep H v d:=by
 intro _ _ ic d hc e
 cases hc with
 |nil=>
  simp at e
 |cons h r=>
  cases ic with
  |zero=>
   simp at e;subst e;exact ⟨_,rfl,h⟩
  |succ i=>
   simpa using Reps.get (i:=i) (d:=d) r (by simpa using e)
theorem Reps.append{H:Hp}:∀ {vs ds us es},Reps H vs ds->Reps H us es->Reps H (vs++us) (ds++es):=by
 intro _ _ _ _ hc q
 cases hc with
 |nil=>
  exact q
 |cons h r=>
  exact .cons h (Reps.append r q)
mutual
inductive RepO (Hf H:Hp):List Addr->V->D->Prop
 |fz {v d}:Rep Hf v d->d.tag=.f->RepO Hf H [] v d
 |lst {a xs fp ds}:H a=some (.lst xs)->RepOs Hf H fp xs ds->RepO Hf H (a::fp) (.ref a) (.lst .o ds)
 |dic {a fp kvs ks}:H a=some (.dT kvs)->RepOk Hf H fp kvs ks->RepO Hf H (a::fp) (.ref a) (.dic .o ks)
 |slf {a C dx fs ks}:H a=some (.ins C dx fs)->H dx=some (.own a)->RepF Hf fs ks->RepO Hf H [a,dx] (.ref a) (.slf a C ks)
inductive RepOs (Hf H:Hp):List Addr->List V->List D->Prop
 |nil:RepOs Hf H [] [] []
 |cons {fp v d fps vs ds}:RepO Hf H fp v d->RepOs Hf H fps vs ds->RepOs Hf H (fp++fps) (v::vs) (d::ds)
inductive RepOk (Hf H:Hp):List Addr->List (List Key × V)->List (List Key × D)->Prop
 |nil:RepOk Hf H [] [] []
 |cons {k fp v d fps vs ds}:RepO Hf H fp v d->RepOk Hf H fps vs ds->RepOk Hf H (fp++fps) ((k,v)::vs) ((k,d)::ds)
end
mutual
inductive RepV (Hf H:Hp):V->D->Prop
 |fz {v d}:Rep Hf v d->d.tag=.f->RepV Hf H v d
 |lst {a xs ds t}:t≠.f->H a=some (.lst xs)->RepVs Hf H xs ds->RepV Hf H (.ref a) (.lst t ds)
 |dic {a kvs ks t}:t≠.f->H a=some (.dT kvs)->RepVk Hf H kvs ks->RepV Hf H (.ref a) (.dic t ks)
 |ins {a C dx fs ks t}:t≠.f->H a=some (.ins C dx fs)->RepF Hf fs ks->RepV Hf H (.ref a) (.ins t C ks)
 |slf {a C dx fs ks}:H a=some (.ins C dx fs)->RepF Hf fs ks->RepV Hf H (.ref a) (.slf a C ks)
inductive RepVs (Hf H:Hp):List V->List D->Prop
 |nil:RepVs Hf H [] []
 |cons {v d vs ds}:RepV Hf H v d->RepVs Hf H vs ds->RepVs Hf H (v::vs) (d::ds)
inductive RepVk (Hf H:Hp):List (List Key × V)->List (List Key × D)->Prop
 |nil:RepVk Hf H [] []
 |cons {k v d vs ds}:RepV Hf H v d->RepVk Hf H vs ds->RepVk Hf H ((k,v)::vs) ((k,d)::ds)
end
mutual
theorem RepO.v{Hf H:Hp}:∀ {fp v d},RepO Hf H fp v d->RepV Hf H v d:=by
 intro _ _ _ hc
 cases hc with
 |fz h e=>
  exact .fz h e
 |lst h r=>
  exact .lst (by decide) h (RepOs.v r)
 |dic h r=>
  exact .dic (by decide) h (RepOk.v r)
 |slf h _ r=>
  exact .slf h r
theorem RepOs.v{Hf H:Hp}:∀ {fp v d},RepOs Hf H fp v d->RepVs Hf H v d:=by
 intro _ _ _ hc
 cases hc with
 |nil=>
  exact .nil
 |cons h r=>
  exact .cons (RepO.v h) (RepOs.v r)
theorem RepOk.v{Hf H:Hp}:∀ {fp v d},RepOk Hf H fp v d->RepVk Hf H v d:=by
 intro _ _ _ hc
 cases hc with
 |nil=>
  exact .nil
 |cons h r=>
  exact .cons (RepO.v h) (RepOk.v r)
end
mutual
theorem RepV.rep{Hf H:Hp}(s:Same Hf H):∀ {v d},RepV Hf H v d->Rep H v d:=by
 intro _ _ hc
 cases hc with
 |fz h _=>
  exact h.mono s
 |lst _ h r=>
  exact .lst h (RepVs.rep s r)
 |dic _ h r=>
  exact .dic h (RepVk.rep s r)
 |ins _ h r=>
  exact .ins h (r.mono s)
 |slf h r=>
  exact .slf h (r.mono s)
theorem RepVs.rep{Hf H:Hp}(s:Same Hf H):∀ {v d},RepVs Hf H v d->Reps H v d:=by
 intro _ _ hc
 cases hc with
 |nil=>
  exact .nil
 |cons h r=>
  exact .cons (RepV.rep s h) (RepVs.rep s r)
theorem RepVk.rep{Hf H:Hp}(s:Same Hf H):∀ {v d},RepVk Hf H v d->RepK H v d:=by
 intro _ _ hc
 cases hc with
 |nil=>
  exact .nil
 |cons h r=>
  exact .cons (RepV.rep s h) (RepVk.rep s r)
end
mutual
theorem RepO.keep{Hf H Hf' H':Hp}(s:Same Hf Hf'):∀ {fp v d},RepO Hf H fp v d->(∀ a o,a∈fp->H a=some o->H' a=some o)->RepO Hf' H' fp v d:=by
 intro _ _ _ hc k
 cases hc with
 |fz h e=>
  exact .fz (h.mono s) e
 |lst h r=>
  exact .lst (k _ _ List.mem_cons_self h) (RepOs.keep s r fun a o m=>k a o (List.mem_cons_of_mem _ m))
 |dic h r=>
  exact .dic (k _ _ List.mem_cons_self h) (RepOk.keep s r fun a o m=>k a o (List.mem_cons_of_mem _ m))
 |slf h q r=>
  exact .slf (k _ _ List.mem_cons_self h) (k _ _ (List.mem_cons_of_mem _ List.mem_cons_self) q) (r.mono s)
theorem RepOs.keep{Hf H Hf' H':Hp}(s:Same Hf Hf'):∀ {fp v d},RepOs Hf H fp v d->(∀ a o,a∈fp->H a=some o->H' a=some o)->RepOs Hf' H' fp v d:=by
 intro _ _ _ hc k
 cases hc with
 |nil=>
  exact .nil
 |cons h r=>
  exact .cons (RepO.keep s h fun a o m=>k a o (List.mem_append_left _ m)) (RepOs.keep s r fun a o m=>k a o (List.mem_append_right _ m))
theorem RepOk.keep{Hf H Hf' H':Hp}(s:Same Hf Hf'):∀ {fp v d},RepOk Hf H fp v d->(∀ a o,a∈fp->H a=some o->H' a=some o)->RepOk Hf' H' fp v d:=by
 intro _ _ _ hc k
 cases hc with
 |nil=>
  exact .nil
 |cons h r=>
  exact .cons (RepO.keep s h fun a o m=>k a o (List.mem_append_left _ m)) (RepOk.keep s r fun a o m=>k a o (List.mem_append_right _ m))
end
mutual
theorem RepV.mono{Hf H Hf' H':Hp}(s:Same Hf Hf')(s':Same H H'):∀ {v d},RepV Hf H v d->RepV Hf' H' v d:=by
 intro _ _ hc
 cases hc with
 |fz h e=>
  exact .fz (h.mono s) e
 |lst t h r=>
  exact .lst t (s' _ _ h) (RepVs.mono s s' r)
 |dic t h r=>
  exact .dic t (s' _ _ h) (RepVk.mono s s' r)
 |ins t h r=>
  exact .ins t (s' _ _ h) (r.mono s)
 |slf h r=>
  exact .slf (s' _ _ h) (r.mono s)
theorem RepVs.mono{Hf H Hf' H':Hp}(s:Same Hf Hf')(s':Same H H'):∀ {v d},RepVs Hf H v d->RepVs Hf' H' v d:=by
 intro _ _ hc
 cases hc with
 |nil=>
  exact .nil
 |cons h r=>
  exact .cons (RepV.mono s s' h) (RepVs.mono s s' r)
theorem RepVk.mono{Hf H Hf' H':Hp}(s:Same Hf Hf')(s':Same H H'):∀ {v d},RepVk Hf H v d->RepVk Hf' H' v d:=by
 intro _ _ hc
 cases hc with
 |nil=>
  exact .nil
 |cons h r=>
  exact .cons (RepV.mono s s' h) (RepVk.mono s s' r)
end
mutual
theorem RepO.there{Hf H:Hp}:∀ {fp v d},RepO Hf H fp v d->∀ a∈fp,∃ o,H a=some o:=by
 intro _ _ _ hc a m
 cases hc with
 |fz _ _=>
  simp at m
 |lst h r=>
  rcases List.mem_cons.mp m with e | m
  ·subst e;exact ⟨_,h⟩
  ·exact RepOs.there r a m
 |dic h r=>
  rcases List.mem_cons.mp m with e | m
  ·subst e;exact ⟨_,h⟩
  ·exact RepOk.there r a m
 |slf h q _=>
  simp at m;rcases m with m | m
  ·subst m;exact ⟨_,h⟩
  ·subst m;exact ⟨_,q⟩
theorem RepOs.there{Hf H:Hp}:∀ {fp v d},RepOs Hf H fp v d->∀ a∈fp,∃ o,H a=some o:=by
 intro _ _ _ hc a m
 cases hc with
 |nil=>
  simp at m
 |cons h r=>
  exact (List.mem_append.mp m).elim (RepO.there h a) (RepOs.there r a)
theorem RepOk.there{Hf H:Hp}:∀ {fp v d},RepOk Hf H fp v d->∀ a∈fp,∃ o,H a=some o:=by
 intro _ _ _ hc a m
 cases hc with
 |nil=>
  simp at m
 |cons h r=>
  exact (List.mem_append.mp m).elim (RepO.there h a) (RepOk.there r a)
end
theorem RepVs.get{Hf H:Hp}:∀ {vs ds} {i:Nat} {d},RepVs Hf H vs ds->ds[i]?=some d->∃ v,vs[i]?=some v/\RepV Hf H v d:=by
 intro _ _ ic d hc e
 cases hc with
 |nil=>
  simp at e
 |cons h r=>
  cases ic with
  |zero=>
   simp at e;subst e;exact ⟨_,rfl,h⟩
  |succ i=>
   simpa using RepVs.get (i:=i) (d:=d) r (by simpa using e)
theorem RepOs.length{Hf H:Hp}:∀ {fp vs ds},RepOs Hf H fp vs ds->vs.length=ds.length:=by
 intro _ _ _ hc
 cases hc with
 |nil=>
  exact rfl
 |cons _ r=>
  simp[RepOs.length r]
theorem RepOs.append{Hf H:Hp}:∀ {fp vs ds fq us es},RepOs Hf H fp vs ds->RepOs Hf H fq us es->RepOs Hf H (fp++fq) (vs++us) (ds++es):=by
 intro _ _ _ _ _ _ hc q
 cases hc with
 |nil=>
  exact q
 |cons h r=>
  rw[List.append_assoc];exact .cons h (RepOs.append r q)
def mix(Hf H:Hp)(fp:List Addr):Hp:=fun a=>if a∈fp then H a else Hf a
theorem my{Hf H:Hp}{fp:List Addr}{a:Addr}(h:a∈fp):mix Hf H fp a=H a:=by unfold mix;rw[if_pos h]
theorem sd{Hf H:Hp}{fp:List Addr}{a:Addr}(h:a∉fp):mix Hf H fp a=Hf a:=by unfold mix;rw[if_neg h]
theorem dL{Hf H:Hp}{fp:List Addr}(s:Same Hf H):Same Hf (mix Hf H fp):=fun a o e=>by
 unfold mix;by_cases h:a∈fp
 ·rw[if_pos h];exact s a o e
 ·rw[if_neg h];exact e
theorem BI{Hf H:Hp}{fp:List Addr}(s:Same Hf H):Same (mix Hf H fp) H:=fun a o e=>by
 unfold mix at e;by_cases h:a∈fp
 ·rw[if_pos h] at e;exact e
 ·rw[if_neg h] at e;exact s a o e
mutual
theorem RepO.froz{Hf H:Hp}(s:Same Hf H):∀ {fp v d} {fq:List Addr},RepO Hf H fp v d->(∀ a∈fp,a∈fq)->Rep (mix Hf H fq) v d.fz:=by
 intro _ _ _ _ hc m
 cases hc with
 |fz h _=>
  exact (h.mono (dL s)).fz
 |lst h r=>
  exact .lst (by rw[my (m _ List.mem_cons_self)];exact h) (RepOs.froz s r fun a q=>m a (List.mem_cons_of_mem _ q))
 |dic h r=>
  exact .dic (by rw[my (m _ List.mem_cons_self)];exact h) (RepOk.froz s r fun a q=>m a (List.mem_cons_of_mem _ q))
 |slf h q r=>
  exact .ins (by rw[my (m _ List.mem_cons_self)];exact h) (r.mono (dL s))
theorem RepOs.froz{Hf H:Hp}(s:Same Hf H):∀ {fp v d} {fq:List Addr},RepOs Hf H fp v d->(∀ a∈fp,a∈fq)->Reps (mix Hf H fq) v (D.fzs d):=by
 intro _ _ _ _ hc m
 cases hc with
 |nil=>
  exact .nil
 |cons h r=>
  exact .cons (RepO.froz s h fun a q=>m a (List.mem_append_left _ q)) (RepOs.froz s r fun a q=>m a (List.mem_append_right _ q))
theorem RepOk.froz{Hf H:Hp}(s:Same Hf H):∀ {fp v d} {fq:List Addr},RepOk Hf H fp v d->(∀ a∈fp,a∈fq)->RepK (mix Hf H fq) v (D.fzk d):=by
 intro _ _ _ _ hc m
 cases hc with
 |nil=>
  exact .nil
 |cons h r=>
  exact .cons (RepO.froz s h fun a q=>m a (List.mem_append_left _ q)) (RepOk.froz s r fun a q=>m a (List.mem_append_right _ q))
end
theorem RepOk.keys{Hf H:Hp}:∀ {kvs:List (List Key × V)} {ks:List (List Key × D)} {fp:List Addr},RepOk Hf H fp kvs ks->kvs.map (·.1)=ks.map (·.1)/\RepOs Hf H fp (kvs.map (·.2)) (ks.map (·.2)):=by
 intro kvs;induction kvs with
 |nil=>intro ks fp r;cases r;exact ⟨rfl,.nil⟩
 |cons p l ih=>
  intro ks fp r
  cases r with
  |cons h t=>
   obtain ⟨e,R⟩:=ih t;exact ⟨by simp only[List.map_cons,e],.cons h R⟩
theorem RepOk.of{Hf H:Hp}:∀ {kvs:List (List Key × V)} {ks:List (List Key × D)} {fp:List Addr},kvs.map (·.1)=ks.map (·.1)->RepOs Hf H fp (kvs.map (·.2)) (ks.map (·.2))->RepOk Hf H fp kvs ks:=by
 intro kvs;induction kvs with
 |nil=>intro ks fp e r;cases ks with | nil=>cases r;exact .nil | cons a b=>simp at e
 |cons p l ih=>
  intro ks fp e r
  cases ks with
  |nil=>simp at e
  |cons q m=>
   obtain ⟨k,v⟩:=p;obtain ⟨k',d⟩:=q;simp only[List.map_cons,List.cons.injEq] at e;obtain ⟨rfl,e⟩:=e;simp only[List.map_cons] at r
   cases r with
   |cons h t=>exact .cons h (ih e t)
inductive Own (Hf H:Hp):List Addr->List (Option V)->List (Option D)->Prop
 |nil:Own Hf H [] [] []
 |skip {fp v vs ds}:Own Hf H fp vs ds->Own Hf H fp (v::vs) (none::ds)
 |cons {fp fq v d vs ds}:RepO Hf H fp v d->Own Hf H fq vs ds->Own Hf H (fp++fq) (some v::vs) (some d::ds)
 |brw {fp v d vs ds}:d.tag=.b->RepV Hf H v d->Own Hf H fp vs ds->Own Hf H fp (some v::vs) (some d::ds)
theorem Own.there{Hf H:Hp}:∀ {fp vs ds},Own Hf H fp vs ds->∀ a∈fp,∃ o,H a=some o:=by
 intro _ _ _ hc a m
 cases hc with
 |nil=>
  simp at m
 |skip r=>
  exact Own.there r a m
 |cons h r=>
  exact (List.mem_append.mp m).elim (h.there a) (Own.there r a)
 |brw _ _ r=>
  exact Own.there r a m
def noB(ds:List (Option D)):Prop:=∀ d,some d∈ds->d.tag≠.b
theorem Own.keep{Hf H Hf' H':Hp}(s:Same Hf Hf'):∀ {fp vs ds},Own Hf H fp vs ds->noB ds->(∀ a o,a∈fp->H a=some o->H' a=some o)->Own Hf' H' fp vs ds:=by
 intro _ _ _ hc n k
 cases hc with
 |nil=>
  exact .nil
 |skip r=>
  exact .skip (Own.keep s r (fun d m=>n d (List.mem_cons_of_mem _ m)) k)
 |cons h r=>
  exact .cons (h.keep s fun a o m=>k a o (List.mem_append_left _ m)) (Own.keep s r (fun d m=>n d (List.mem_cons_of_mem _ m)) fun a o m=>k a o (List.mem_append_right _ m))
 |brw t h r=>
  exact absurd t (n _ List.mem_cons_self)
theorem Own.mono{Hf H Hf' H':Hp}(s:Same Hf Hf')(s':Same H H'):∀ {fp vs ds},Own Hf H fp vs ds->Own Hf' H' fp vs ds:=by
 intro _ _ _ hc
 cases hc with
 |nil=>
  exact .nil
 |skip r=>
  exact .skip (Own.mono s s' r)
 |cons h r=>
  exact .cons (h.keep s fun a o _=>s' a o) (Own.mono s s' r)
 |brw t h r=>
  exact .brw t (h.mono s s') (Own.mono s s' r)
theorem Own.take{Hf H:Hp}:∀ {fp vs ds} {i:Nat} {d},Own Hf H fp vs ds->ds[i]?=some (some d)->d.tag≠.b →
    ∃ v fp1 fp2,vs[i]?=some (some v)/\RepO Hf H fp1 v d/\Own Hf H fp2 vs (ds.set i none)/\fp.Perm (fp1++fp2):=by
 intro _ _ _ ic d hc h n
 cases hc with
 |nil=>
  simp at h
 |skip r=>
  cases ic with
  |zero=>
   simp at h
  |succ i=>
   obtain ⟨v,fp1,fp2,e,q,r',p⟩:=Own.take (i:=i) r (by simpa using h) n;exact ⟨v,fp1,fp2,by simpa using e,q,.skip r',p⟩
 | @cons f1 _ _ _ _ _ q0 r=>
  cases ic with
  |zero=>
   simp at h;subst h;exact ⟨_,_,_,rfl,q0,.skip r,.refl _⟩
  |succ i=>
   obtain ⟨v,fp1,fp2,e,q,r',p⟩:=Own.take (i:=i) r (by simpa using h) n;refine ⟨v,fp1,f1++fp2,by simpa using e,q,.cons q0 r',?_⟩;refine (List.Perm.append_left f1 p).trans ?_;rw[<- List.append_assoc,<- List.append_assoc];exact List.Perm.append_right _ List.perm_append_comm
 |brw t q0 r=>
  cases ic with
  |zero=>
   simp at h;subst h;exact absurd t n
  |succ i=>
   obtain ⟨v,fp1,fp2,e,q,r',p⟩:=Own.take (i:=i) r (by simpa using h) n;exact ⟨v,fp1,fp2,by simpa using e,q,.brw t q0 r',p⟩
theorem Own.getV{Hf H:Hp}:∀ {fp vs ds} {i:Nat} {d},Own Hf H fp vs ds->ds[i]?=some (some d)->∃ v,vs[i]?=some (some v)/\RepV Hf H v d:=by
 intro _ _ _ ic d hc h
 cases hc with
 |nil=>
  simp at h
 |skip r=>
  cases ic with
  |zero=>
   simp at h
  |succ i=>
   simpa using Own.getV (i:=i) r (by simpa using h)
 |cons q r=>
  cases ic with
  |zero=>
   simp at h;subst h;exact ⟨_,rfl,q.v⟩
  |succ i=>
   simpa using Own.getV (i:=i) r (by simpa using h)
 |brw t q r=>
  cases ic with
  |zero=>
   simp at h;subst h;exact ⟨_,rfl,q⟩
  |succ i=>
   simpa using Own.getV (i:=i) r (by simpa using h)
theorem Own.put{Hf H:Hp}{fp1:List Addr}{v:V}{d:D}(q:RepO Hf H fp1 v d):∀ {fp vs ds} {i:Nat},Own Hf H fp vs ds->i<ds.length -> 
    ∃ fp',Own Hf H fp' (vs.set i (some v)) (ds.set i (some d))/\∃ fp2,fp'.Perm (fp1++fp2)/\fp2.Sublist fp:=by
 intro _ _ _ ic hc h
 cases hc with
 |nil=>
  simp at h
 |skip r=>
  cases ic with
  |zero=>
   exact ⟨_,.cons q r,_,.refl _,.refl _⟩
  |succ i=>
   obtain ⟨fp',o,fp2,p,s⟩:=Own.put (i:=i) q r (by simpa using h);exact ⟨fp',.skip o,fp2,p,s⟩
 | @cons f1 _ _ _ _ _ q0 r=>
  cases ic with
  |zero=>
   exact ⟨_,.cons q r,_,.refl _,List.sublist_append_right _ _⟩
  |succ i=>
   obtain ⟨fp',o,fp2,p,s⟩:=Own.put (i:=i) q r (by simpa using h);refine ⟨f1++fp',.cons q0 o,f1++fp2,?_,s.append_left f1⟩;refine (List.Perm.append_left f1 p).trans ?_;rw[<- List.append_assoc,<- List.append_assoc];exact List.Perm.append_right _ List.perm_append_comm
 |brw t q0 r=>
  cases ic with
  |zero=>
   exact ⟨_,.cons q r,_,.refl _,.refl _⟩
  |succ i=>
   obtain ⟨fp',o,fp2,p,s⟩:=Own.put (i:=i) q r (by simpa using h);exact ⟨fp',.brw t q0 o,fp2,p,s⟩
structure Fine (Hs H0 Hf H:Hp) (fp:List Addr):Prop where
 nd:fp.Nodup
 own:∀ a∈fp,Hf a=none/\H0 a=none
 fh:Same Hf H
 zh:Same H0 H
 sf:Same Hs Hf
 new:∀ a o,Hf a=some o->(∃ o',Hs a=some o')\/H0 a=none
def SR(Hs H0 H:Hp)(vs:List (Option V))(ds:List (Option D)):Prop:=∃ Hf fp,Own Hf H fp vs ds/\Fine Hs H0 Hf H fp
theorem Fine.sub{Hs H0 Hf H:Hp}{fp fq:List Addr}(F:Fine Hs H0 Hf H fp)(nd:fq.Nodup)(s:∀ a∈fq,a∈fp):Fine Hs H0 Hf H fq:=
 ⟨nd,fun a m=>F.own a (s a m),F.fh,F.zh,F.sf,F.new⟩
theorem Fine.subl{Hs H0 Hf H:Hp}{fp fq:List Addr}(F:Fine Hs H0 Hf H fp)(s:fq.Sublist fp):Fine Hs H0 Hf H fq:=F.sub (F.nd.sublist s) fun _ m=>s.subset m
theorem Fine.perm{Hs H0 Hf H:Hp}{fp fq:List Addr}(F:Fine Hs H0 Hf H fp)(p:fq.Perm fp):Fine Hs H0 Hf H fq:=F.sub (p.nodup_iff.mpr F.nd) fun _ m=>p.mem_iff.mp m
theorem Fine.froz{Hs H0 Hf H:Hp}{fp fq:List Addr}(F:Fine Hs H0 Hf H (fp++fq)):Fine Hs H0 (mix Hf H fp) H fq:=
 ⟨(List.nodup_append.mp F.nd).2.1,fun a m=>⟨by
  have hn:a∉fp:=fun z=>(List.nodup_append.mp F.nd).2.2 a z a m rfl
  rw[sd hn];exact (F.own a (List.mem_append_right _ m)).1,(F.own a (List.mem_append_right _ m)).2⟩,BI F.fh,F.zh,F.sf.trans (dL F.fh),fun a o e=>by
  by_cases h:a∈fp
  ·exact .inr (F.own a (List.mem_append_left _ h)).2
  ·rw[sd h] at e;exact F.new a o e⟩
section
variable {Hs H0 H:Hp}{vs:List (Option V)}{ds:List (Option D)}{v:V}{d:D}
theorem SR.same(S:SR Hs H0 H vs ds):Same H0 H:=let ⟨_,_,_,F⟩:=S;F.zh
theorem SR.drop{v:Option V}{d:Option D}(S:SR Hs H0 H (v::vs) (d::ds)):SR Hs H0 H vs ds:=by
 obtain ⟨Hf,fp,O,F⟩:=S
 cases O with
 |skip r=>exact ⟨Hf,_,r,F⟩
 |cons h r=>exact ⟨Hf,_,r,F.subl (List.sublist_append_right _ _)⟩
 |brw t h r=>exact ⟨Hf,_,r,F⟩
theorem SR.head(S:SR Hs H0 H (some v::vs) (some d::ds)):Rep H v d:=by
 obtain ⟨Hf,fp,O,F⟩:=S
 cases O with
 |cons h r=>exact h.v.rep F.fh
 |brw t h r=>exact h.rep F.fh
theorem SR.atom(S:SR Hs H0 H vs ds)(h:∀ H,Rep H v d)(t:d.tag=.f):SR Hs H0 H (some v::vs) (some d::ds):=by
 obtain ⟨Hf,fp,O,F⟩:=S;exact ⟨Hf,_,.cons (.fz (h Hf) t) O,F⟩
theorem SR.int(S:SR Hs H0 H vs ds){i:Int}:SR Hs H0 H (some (.int i)::vs) (some (.int i)::ds):=S.atom (fun _=>.int) rfl
theorem SR.bl(S:SR Hs H0 H vs ds){i:Bool}:SR Hs H0 H (some (.bl i)::vs) (some (.bl i)::ds):=S.atom (fun _=>.bl) rfl
theorem SR.str(S:SR Hs H0 H vs ds){i:Str}:SR Hs H0 H (some (.str i)::vs) (some (.str i)::ds):=S.atom (fun _=>.str) rfl
theorem SR.non(S:SR Hs H0 H vs ds):SR Hs H0 H (some .non::vs) (some .non::ds):=S.atom (fun _=>.non) rfl
theorem SR.grow{H':Hp}(S:SR Hs H0 H vs ds)(s:Same H H'):SR Hs H0 H' vs ds:=by
 obtain ⟨Hf,fp,O,F⟩:=S;exact ⟨Hf,fp,O.mono (Same.refl _) s,F.nd,F.own,F.fh.trans s,F.zh.trans s,F.sf,F.new⟩
theorem SR.frz(S:SR Hs H0 H (some v::vs) (some d::ds))(t:d.tag≠.b):SR Hs H0 H (some v::vs) (some d.fz::ds):=by
 obtain ⟨Hf,fp,O,F⟩:=S
 cases O with
 |cons h r=>
  refine ⟨mix Hf H _,_,.cons (.fz (h.froz F.fh fun a m=>m) ?_) (r.mono (dL F.fh) (Same.refl _)),F.froz⟩
  cases d<;>rfl
 |brw z h r=>exact absurd z t
theorem SR.get(S:SR Hs H0 H vs ds){i:Nat}(e:ds[i]?=some (some d)):∃ v,vs[i]?=some (some v)/\SR Hs H0 H (some v::vs) (some d.rd::ds):=by
 obtain ⟨Hf,fp,O,F⟩:=S;obtain ⟨v,e',h⟩:=O.getV e;refine ⟨v,e',Hf,fp,?_,F⟩
 cases h with
 |fz h t=>
  have:d.rd=d:=by cases d<;>first | rfl | (cases t;rfl) | cases t
  rw[this];exact Own.cons (fp:=[]) (.fz h t) O
 |lst t h r=>
  rename_i tt;refine .brw ?_ (?_:RepV Hf H _ (D.rd (.lst tt _))) O
  ·cases tt<;>first | rfl | exact absurd rfl t
  ·cases tt<;>first | exact absurd rfl t | exact .lst (by decide) h r
 |dic t h r=>
  rename_i tt;refine .brw ?_ (?_:RepV Hf H _ (D.rd (.dic tt _))) O
  ·cases tt<;>first | rfl | exact absurd rfl t
  ·cases tt<;>first | exact absurd rfl t | exact .dic (by decide) h r
 |ins t h r=>
  rename_i tt;refine .brw ?_ (?_:RepV Hf H _ (D.rd (.ins tt _ _))) O
  ·cases tt<;>first | rfl | exact absurd rfl t
  ·cases tt<;>first | exact absurd rfl t | exact .ins (by decide) h r
 |slf h r=>exact .brw rfl (.ins (by decide) h r) O
end
end Mi
namespace Mi
open PySem L2
def D.asF:D->D
 | .lst _ xs=>.lst .f xs
 | .dic _ xs=>.dic .f xs
 | .ins _ C fs=>.ins .f C fs
 | .slf _ C fs=>.ins .f C fs
 |d=>d
theorem D.asF_tag(d:D):d.asF.tag=.f:=by cases d<;>rfl
theorem D.fz_tag(d:D):d.fz.tag=.f:=by cases d<;>rfl
theorem Rep.asF{H:Hp}{v:V}{d:D}(h:Rep H v d):Rep H v d.asF:=by
 cases h with
 |lst h r=>exact .lst h r
 |dic h r=>exact .dic h r
 |non=>exact .non
 |bl=>exact .bl
 |int=>exact .int
 |str=>exact .str
 |tup h r=>exact .tup h r
 |ins h r=>exact .ins h r
 |scr h=>exact .scr h
 |slf h r=>exact .ins h r
theorem RepOs.ofReps{Hf H:Hp}:∀ {us es},Reps Hf us es->(∀ e∈es,e.tag=.f)->RepOs Hf H [] us es:=by
 intro _ _ hc t
 cases hc with
 |nil=>
  exact .nil
 |cons h r=>
  exact RepOs.cons (fp:=[]) (.fz h (t _ List.mem_cons_self)) (RepOs.ofReps r fun e m=>t e (List.mem_cons_of_mem _ m))
theorem iz(es:List D):∀ e∈D.fzs es,e.tag=.f:=by
 rw[D.fzs_map];intro e m;obtain ⟨x,_,rfl⟩:=List.mem_map.mp m;exact x.fz_tag
section
variable {Hs H0 H Hf:Hp}{vs:List (Option V)}{ds:List (Option D)}{v:V}{d:D}{fp:List Addr}
theorem SR.set(S:SR Hs H0 H (some v::vs) (some d::ds))(t:d.tag≠.b){i:Nat}(hi:i<ds.length):SR Hs H0 H (vs.set i (some v)) (ds.set i (some d)):=by
 obtain ⟨Hf,fp,O,F⟩:=S
 cases O with
 |cons h r=>
  obtain ⟨fp',O',fp2,p,s⟩:=Own.put h r hi;exact ⟨Hf,fp',O',(F.subl (List.Sublist.append_left s _)).perm p⟩
 |brw z h r=>exact absurd z t
theorem SR.only{vs':List (Option V)}{ds':List (Option D)}(S:SR Hs H0 H (some v::vs) (some d::ds)):SR Hs H0 H [some v] [some d]:=by
 obtain ⟨Hf,fp,O,F⟩:=S
 cases O with
 |cons h r=>
  rename_i fp1 fp2;have:=Own.cons h (Own.nil (Hf:=Hf) (H:=H));exact ⟨Hf,_,this,F.subl (by simp)⟩
 |brw z h r=>exact ⟨Hf,[],.brw z h .nil,F.subl (List.nil_sublist _)⟩
theorem SR.move(S:SR Hs H0 H vs ds){i:Nat}(e:ds[i]?=some (some d))(t:d.tag≠.b):∃ v,vs[i]?=some (some v)/\SR Hs H0 H (some v::vs) (some d::ds.set i none):=by
 obtain ⟨Hf,fp,O,F⟩:=S;obtain ⟨v,fp1,fp2,e',h,O',p⟩:=O.take e t;exact ⟨v,e',Hf,_,.cons h O',F.perm p.symm⟩
def hv(us:List V):List (Option V):=us.reverse.map some
def hd(es:List D):List (Option D):=es.reverse.map some
theorem nM(us:List V)(u:V)(vs:List (Option V)):hv (us++[u])++vs=some u::(hv us++vs):=by simp[hv]
theorem nN(us:List D)(u:D)(vs:List (Option D)):hd (us++[u])++vs=some u::(hd us++vs):=by simp[hd]
theorem Own.takeAll{us:List V}{es:List D}(hl:us.length=es.length)(hb:∀ e∈es,e.tag≠.b)(O:Own Hf H fp (hv us++vs) (hd es++ds)) :
    ∃ fp1 fp2,RepOs Hf H fp1 us es/\Own Hf H fp2 vs ds/\fp.Perm (fp1++fp2):=by
 induction us using List.reverseRecOn' generalizing es fp with
 |nil=>
  have:es=[]:=by cases es with | nil=>rfl | cons x y=>simp at hl
  subst this;exact ⟨[],fp,.nil,by simpa [hv,hd] using O,.refl _⟩
 |snoc us u ih=>
  obtain ⟨es',e,rfl⟩:∃ es' e,es=es'++[e]:=by
   cases es using List.reverseRecOn' with
   |nil=>simp at hl
   |snoc es' e=>exact ⟨es',e,rfl⟩
  rw[nM,nN] at O;have hl':us.length=es'.length:=by simpa using hl
  cases O with
  |cons h r=>
   rename_i f1 f2;obtain ⟨fp1,fp2,R,O',p⟩:=ih hl' (fun x m=>hb x (List.mem_append_left _ m)) r;have R1:RepOs Hf H (f1++[]) [u] [e]:=.cons h .nil;refine ⟨fp1++f1,fp2,by simpa using R.append R1,O',?_⟩;refine (List.Perm.append_left _ p).trans ?_;rw[<- List.append_assoc];exact List.Perm.append_right _ List.perm_append_comm
  |brw z h r=>exact absurd z (hb e (by simp))
theorem SR.mkList{us:List V}{es:List D}(S:SR Hs H0 H (hv us++vs) (hd es++ds))(hl:us.length=es.length)(hb:∀ e∈es,e.tag≠.b){p:Addr}(hp:H p=none) :
    SR Hs H0 (upd H p (.lst us)) (some (.ref p)::vs) (some (.lst .o es)::ds):=by
 obtain ⟨Hf,fp,O,F⟩:=S;obtain ⟨fp1,fp2,R,O',pm⟩:=O.takeAll hl hb;have F':=F.perm pm.symm;have s:Same H (upd H p (.lst us)):=fun b o e=>by rw[aR (bC e hp)];exact e
 have hnp:p∉fp1++fp2:=fun m=>by
  rcases List.mem_append.mp m with m | m
  ·obtain ⟨o,e⟩:=R.there p m;rw[hp] at e;cases e
  ·obtain ⟨o,e⟩:=O'.there p m;rw[hp] at e;cases e
 have hf0:∀ {H1:Hp},Same H1 H->H1 p=none:=fun {H1} q=>by
  cases e:H1 p with
  |none=>rfl
  |some o=>have:=q p o e;rw[hp] at this;cases this
 refine ⟨Hf,(p::fp1)++fp2,.cons (.lst bP (R.keep (Same.refl _) fun a o _ e=>s a o e)) (O'.mono (Same.refl _) s),?_,?_,F'.fh.trans s,F'.zh.trans s,F'.sf,F'.new⟩
 ·rw[List.cons_append];exact List.nodup_cons.mpr ⟨hnp,F'.nd⟩
 ·intro a m
  rw[List.cons_append] at m;rcases List.mem_cons.mp m with e | m
  ·subst e;exact ⟨hf0 F'.fh,hf0 F'.zh⟩
  ·exact F'.own a m
theorem SR.frozen{us:List V}{es:List D}(S:SR Hs H0 H (hv us++vs) (hd es++ds))(hl:us.length=es.length)(hb:∀ e∈es,e.tag≠.b) :
    ∃ Hf fp,Own Hf H fp vs ds/\Fine Hs H0 Hf H fp/\Reps Hf us (D.fzs es):=by
 obtain ⟨Hf,fp,O,F⟩:=S;obtain ⟨fp1,fp2,R,O',pm⟩:=O.takeAll hl hb;have F':=F.perm pm.symm;exact ⟨mix Hf H fp1,fp2,O'.mono (dL F'.fh) (Same.refl _),F'.froz,R.froz F'.fh fun a m=>m⟩
theorem Fine.fresh(F:Fine Hs H0 Hf H fp){p:Addr}(hp:H p=none):Hf p=none/\H0 p=none:=by
 constructor
 ·cases e:Hf p with
  |none=>rfl
  |some o=>have:=F.fh p o e;rw[hp] at this;cases this
 ·cases e:H0 p with
  |none=>rfl
  |some o=>have:=F.zh p o e;rw[hp] at this;cases this
theorem SR.laidF{o:HO}(O:Own Hf H fp vs ds)(F:Fine Hs H0 Hf H fp){p:Addr}(hp:H p=none)(r:Rep (upd Hf p o) v d)(t:d.tag=.f) :
    SR Hs H0 (upd H p o) (some v::vs) (some d::ds):=by
 obtain ⟨hf,h0⟩:=F.fresh hp;have s:Same H (upd H p o):=fun b o e=>by rw[aR (bC e hp)];exact e
 have sf:Same Hf (upd Hf p o):=fun b o e=>by rw[aR (bC e hf)];exact e
 refine ⟨upd Hf p o,[]++fp,.cons (.fz r t) (O.mono sf s),F.nd,fun a m=>?_,fun b u e=>?_,F.zh.trans s,F.sf.trans sf,fun a u e=>?_⟩
 ·have hne:a≠p:=fun z=>by subst z;obtain ⟨o,e⟩:=O.there a m;rw[hp] at e;cases e
  rw[aR hne];exact F.own a m
 ·by_cases hb:b=p
  ·subst hb;rw[bP] at e ⊢;exact e
  ·rw[aR hb] at e ⊢;exact F.fh b u e
 ·by_cases hb:a=p
  ·subst hb;exact .inr h0
  ·rw[aR hb] at e;exact F.new a u e
theorem SR.mkTup{us:List V}{es:List D}(S:SR Hs H0 H (hv us++vs) (hd es++ds))(hl:us.length=es.length)(hb:∀ e∈es,e.tag≠.b){p:Addr}(hp:H p=none) :
    SR Hs H0 (upd H p (.tup us)) (some (.ref p)::vs) (some (.tup (D.fzs es))::ds):=by
 obtain ⟨Hf,fp,O,F,R⟩:=S.frozen hl hb;have sf:Same Hf (upd Hf p (.tup us)):=fun b o e=>by rw[aR (bC e (F.fresh hp).1)];exact e
 exact SR.laidF O F hp (.tup bP (R.mono sf)) rfl
def D.its:D->Option (List D)
 | .lst .b xs=>if xs.all (fun x=>x.tag == .f) then some xs else none
 | .lst .f xs=>some (xs.map D.asF)
 | .lst .o xs=>some (D.fzs xs)
 | .tup xs=>some (xs.map D.asF)
 |_=>none
theorem Reps.asF{H:Hp}:∀ {us es},Reps H us es->Reps H us (es.map D.asF):=by
 intro _ _ hc
 cases hc with
 |nil=>
  exact .nil
 |cons h r=>
  exact .cons h.asF (Reps.asF r)
theorem RepVs.frozen{Hf H:Hp}:∀ {us es},RepVs Hf H us es->(∀ e∈es,e.tag=.f)->Reps Hf us es:=by
 intro _ _ hc t
 cases hc with
 |nil=>
  exact .nil
 |cons h r=>
  exact .cons (by
        cases h with
        |fz h _=>exact h
        |lst z _ _=>exact absurd (t _ List.mem_cons_self) z
        |dic z _ _=>exact absurd (t _ List.mem_cons_self) z
        |ins z _ _=>exact absurd (t _ List.mem_cons_self) z
        |slf _ _=>exact absurd (t _ List.mem_cons_self) (fun z=>nomatch z)) (RepVs.frozen r fun e m=>t e (List.mem_cons_of_mem _ m))
theorem D.its_tag{d:D}{ys:List D}(h:d.its=some ys):∀ e∈ys,e.tag=.f:=by
 cases d with
 |lst t xs=>
  cases t with
  |f=>simp[D.its] at h;subst h;intro e m;obtain ⟨x,_,rfl⟩:=List.mem_map.mp m;exact x.asF_tag
  |o=>simp[D.its] at h;subst h;exact iz xs
  |b=>
   simp only[D.its] at h;split at h
   ·cases h
    rename_i hall;intro e m;simpa using List.all_eq_true.mp hall e m
   ·cases h
 |tup xs=>simp[D.its] at h;subst h;intro e m;obtain ⟨x,_,rfl⟩:=List.mem_map.mp m;exact x.asF_tag
 |_=>simp[D.its] at h
def D.isL:D->Bool
 | .lst _ _=>true
 |_=>false
theorem Own.items(O:Own Hf H fp (some v::vs) (some d::ds))(F:Fine Hs H0 Hf H fp){ys:List D}(hy:d.its=some ys) :
    ∃ a us,v=.ref a/\(H a=some (if d.isL then .lst us else .tup us))/\∃ Hg fq,Own Hg H fq vs ds/\Fine Hs H0 Hg H fq/\Same Hf Hg/\Reps Hg us ys:=by
 cases d with
 |lst t xs=>
  cases t with
  |f=>
   simp[D.its] at hy;subst hy
   cases O with
   |cons h r=>
    cases h with
    |fz h _=>cases h with | lst h q=>exact ⟨_,_,rfl,F.fh _ _ h,Hf,_,r,F.subl (List.sublist_append_right _ _),Same.refl _,q.asF⟩
   |brw z h r=>cases z
  |o=>
   simp[D.its] at hy;subst hy
   cases O with
   |cons h r=>
    cases h with
    |fz h z=>cases z
    |lst h q=>
     rename_i a xs' fp1;refine ⟨_,_,rfl,h,mix Hf H (a::fp1),_,r.mono (dL F.fh) (Same.refl _),F.froz,dL F.fh,q.froz F.fh fun b m=>List.mem_cons_of_mem _ m⟩
   |brw z h r=>cases z
  |b=>
   simp only[D.its] at hy;split at hy
   ·cases hy
    rename_i hall
    cases O with
    |cons h r=>
     cases h with
     |fz h z=>cases z
    |brw z h r=>
     cases h with
     |fz h z=>cases z
     |lst z h q=>exact ⟨_,_,rfl,h,Hf,_,r,F,Same.refl _,q.frozen fun e m=>by simpa using List.all_eq_true.mp hall e m⟩
   ·cases hy
 |tup xs=>
  simp[D.its] at hy;subst hy
  cases O with
  |cons h r=>
   cases h with
   |fz h _=>cases h with | tup h q=>exact ⟨_,_,rfl,F.fh _ _ h,Hf,_,r,F.subl (List.sublist_append_right _ _),Same.refl _,q.asF⟩
  |brw z h r=>cases z
 |_=>simp[D.its] at hy
theorem SR.items(S:SR Hs H0 H (some v::vs) (some d::ds)){ys:List D}(hy:d.its=some ys) :
    ∃ a us,v=.ref a/\(H a=some (if d.isL then .lst us else .tup us))/\∃ Hf fp,Own Hf H fp vs ds/\Fine Hs H0 Hf H fp/\Reps Hf us ys:=by
 obtain ⟨Hf,fp,O,F⟩:=S;obtain ⟨a,us,e1,e2,Hg,fq,O',F',_,R⟩:=O.items F hy;exact ⟨a,us,e1,e2,Hg,fq,O',F',R⟩
theorem Own.itemsC(O:Own Hf H fp (some v::vs) (some d::ds))(F:Fine Hs H0 Hf H fp){ys:List D}(hy:d.its=some ys)(tb:d.tag≠.b) :
    ∃ a us,v=.ref a/\∃ Hg fq,Own Hg H fq vs ds/\Fine Hs H0 Hg H fq/\Same Hf Hg/\Hg a=some (if d.isL then .lst us else .tup us)/\Reps Hg us ys:=by
 cases d with
 |lst t xs=>
  cases t with
  |f=>
   simp[D.its] at hy;subst hy
   cases O with
   |cons h r=>
    cases h with
    |fz h _=>cases h with | lst h q=>exact ⟨_,_,rfl,Hf,_,r,F.subl (List.sublist_append_right _ _),Same.refl _,h,q.asF⟩
   |brw z h r=>cases z
  |o=>
   simp[D.its] at hy;subst hy
   cases O with
   |cons h r=>
    cases h with
    |fz h z=>cases z
    |lst h q=>
     rename_i a xs' fp1;exact ⟨_,_,rfl,mix Hf H (a::fp1),_,r.mono (dL F.fh) (Same.refl _),F.froz,dL F.fh,by rw[my List.mem_cons_self];exact h,q.froz F.fh fun b m=>List.mem_cons_of_mem _ m⟩
   |brw z h r=>cases z
  |b=>exact absurd rfl tb
 |tup xs=>
  simp[D.its] at hy;subst hy
  cases O with
  |cons h r=>
   cases h with
   |fz h _=>cases h with | tup h q=>exact ⟨_,_,rfl,Hf,_,r,F.subl (List.sublist_append_right _ _),Same.refl _,h,q.asF⟩
  |brw z h r=>cases z
 |_=>simp[D.its] at hy
def D.el:D->Nat->Option D
 | .lst .f xs,i=>xs[i]?.map D.asF
 | .lst .o xs,i=>xs[i]?
 | .lst .b xs,i=>xs[i]?.map D.rd
 | .tup xs,i=>xs[i]?.map D.asF
 |_,_=>none
theorem RepOs.item{Hf H:Hp}:∀ {fp us es} {i:Nat} {e},RepOs Hf H fp us es->es[i]?=some e->∃ u fp1,us[i]?=some u/\RepO Hf H fp1 u e/\fp1.Sublist fp:=by
 intro _ _ _ ic e hc q
 cases hc with
 |nil=>
  simp at q
 |cons h r=>
  cases ic with
  |zero=>
   simp at q;subst q;exact ⟨_,_,rfl,h,List.sublist_append_left _ _⟩
  |succ i=>
   obtain ⟨u,fp1,a,b,c⟩:=RepOs.item (i:=i) r (by simpa using q);exact ⟨u,fp1,by simpa using a,b,c.trans (List.sublist_append_right _ _)⟩
theorem SR.elem(S:SR Hs H0 H (some v::vs) (some d::ds)){i:Nat}{e:D}(he:d.el i=some e) :
    ∃ a us u,v=.ref a/\(H a=some (if d.isL then .lst us else .tup us))/\us[i]?=some u/\SR Hs H0 H (some u::vs) (some e::ds):=by
 obtain ⟨Hf,fp,O,F⟩:=S
 cases d with
 |lst t xs=>
  cases t with
  |f=>
   simp[D.el] at he;obtain ⟨x,hx,rfl⟩:=he
   cases O with
   |cons h r=>
    cases h with
    |fz h _=>
     cases h with
     |lst h q=>
      obtain ⟨u,hu,ru⟩:=q.get hx;exact ⟨_,_,u,rfl,F.fh _ _ h,hu,Hf,_,.cons (.fz ru.asF x.asF_tag) r,F.subl (by simp)⟩
   |brw z h r=>cases z
  |o=>
   simp[D.el] at he
   cases O with
   |cons h r=>
    cases h with
    |fz h z=>cases z
    |lst h q=>
     obtain ⟨u,fp1,hu,ru,sl⟩:=q.item he;exact ⟨_,_,u,rfl,h,hu,Hf,_,.cons ru r,F.subl (List.Sublist.append_right (sl.trans (List.sublist_cons_self _ _)) _)⟩
   |brw z h r=>cases z
  |b=>
   simp[D.el] at he;obtain ⟨x,hx,rfl⟩:=he
   cases O with
   |cons h r=>
    cases h with
    |fz h z=>cases z
   |brw z h r=>
    cases h with
    |fz h z=>cases z
    |lst z h q=>
     obtain ⟨u,hu,ru⟩:=q.get hx;refine ⟨_,_,u,rfl,h,hu,Hf,?_⟩
     cases ru with
     |fz ru t=>
      have:x.rd=x:=by cases x<;>first | rfl | (cases t;rfl) | cases t
      rw[this];exact ⟨_,.cons (.fz ru t) r,F⟩
     |lst t h' r'=>
      rename_i tt;refine ⟨_,.brw ?_ ?_ r,F⟩
      ·cases tt<;>first | rfl | exact absurd rfl t
      ·cases tt<;>first | exact absurd rfl t | exact .lst (by decide) h' r'
     |dic t h' r'=>
      rename_i tt;refine ⟨_,.brw ?_ ?_ r,F⟩
      ·cases tt<;>first | rfl | exact absurd rfl t
      ·cases tt<;>first | exact absurd rfl t | exact .dic (by decide) h' r'
     |ins t h' r'=>
      rename_i tt;refine ⟨_,.brw ?_ ?_ r,F⟩
      ·cases tt<;>first | rfl | exact absurd rfl t
      ·cases tt<;>first | exact absurd rfl t | exact .ins (by decide) h' r'
     |slf h' r'=>exact ⟨_,.brw rfl (.ins (by decide) h' r') r,F⟩
 |tup xs=>
  simp[D.el] at he;obtain ⟨x,hx,rfl⟩:=he
  cases O with
  |cons h r=>
   cases h with
   |fz h _=>
    cases h with
    |tup h q=>
     obtain ⟨u,hu,ru⟩:=q.get hx;exact ⟨_,_,u,rfl,F.fh _ _ h,hu,Hf,_,.cons (.fz ru.asF x.asF_tag) r,F.subl (by simp)⟩
  |brw z h r=>cases z
 |_=>simp[D.el] at he
theorem SR.told{H':Hp}(O:Own Hf H fp vs ds)(F:Fine Hs H0 Hf H fp)(R:SR Hf H H' [some v] [some d])(t:d.tag≠.b):SR Hs H0 H' (some v::vs) (some d::ds):=by
 obtain ⟨Hg,fq,O',G⟩:=R
 cases O' with
 |cons h r=>
  cases r
  rename_i fq;rw[List.append_nil] at G;have sH:=G.zh;refine ⟨Hg,fq++fp,.cons h (O.mono G.sf sH),?_,fun a m=>?_,G.fh,F.zh.trans sH,F.sf.trans G.sf,fun a o e=>?_⟩
  ·refine List.nodup_append.mpr ⟨G.nd,F.nd,fun a m b n z=>?_⟩
   subst z;obtain ⟨o,e⟩:=O.there a n;rw[(G.own a m).2] at e;cases e
  ·rcases List.mem_append.mp m with m | m
   ·refine ⟨(G.own a m).1,?_⟩
    cases e:H0 a with
    |none=>rfl
    |some o=>have:=F.zh a o e;rw[(G.own a m).2] at this;cases this
   ·refine ⟨?_,(F.own a m).2⟩
    cases e:Hg a with
    |none=>rfl
    |some o=>
     rcases G.new a o e with ⟨o',z⟩ | z
     ·rw[(F.own a m).1] at z;cases z
     ·obtain ⟨o',y⟩:=O.there a m;rw[z] at y;cases y
  ·rcases G.new a o e with ⟨o',z⟩ | z
   ·exact F.new a o' z
   ·refine .inr ?_
    cases q:H0 a with
    |none=>rfl
    |some u=>have:=F.zh a u q;rw[z] at this;cases this
 |brw z h r=>exact absurd z t
end
theorem RepOs.pick{Hf H:Hp}:∀ {fp us es} {k:Nat} {e},RepOs Hf H fp us es->es[k]?=some e →
    ∃ u f1 f2,us[k]?=some u/\RepO Hf H f1 u e/\RepOs Hf H f2 (us.eraseIdx k) (es.eraseIdx k)/\fp.Perm (f1++f2):=by
 intro _ _ _ ic e hc q
 cases hc with
 |nil=>
  simp at q
 | @cons f0 _ _ _ _ _ h r=>
  cases ic with
  |zero=>
   simp at q;subst q;exact ⟨_,_,_,rfl,h,r,.refl _⟩
  |succ k=>
   obtain ⟨u,f1,f2,a,b,c,p⟩:=RepOs.pick (k:=k) r (by simpa using q);refine ⟨u,f1,f0++f2,by simpa using a,b,.cons h c,(List.Perm.append_left f0 p).trans ?_⟩;rw[<- List.append_assoc,<- List.append_assoc];exact List.Perm.append_right _ List.perm_append_comm
theorem Own.fill{Hf H:Hp}{fp1:List Addr}{v:V}{d:D}(q:RepO Hf H fp1 v d):∀ {fp vs ds} {i:Nat},Own Hf H fp vs ds->ds[i]?=some none →
    ∃ fp',Own Hf H fp' (vs.set i (some v)) (ds.set i (some d))/\fp'.Perm (fp1++fp):=by
 intro _ _ _ ic hc h
 cases hc with
 |nil=>
  simp at h
 |skip r=>
  cases ic with
  |zero=>
   exact ⟨_,.cons q r,.refl _⟩
  |succ i=>
   obtain ⟨fp',o,p⟩:=Own.fill (i:=i) q r (by simpa using h);exact ⟨fp',.skip o,p⟩
 | @cons f1 _ _ _ _ _ q0 r=>
  cases ic with
  |zero=>
   simp at h
  |succ i=>
   obtain ⟨fp',o,p⟩:=Own.fill (i:=i) q r (by simpa using h);refine ⟨f1++fp',.cons q0 o,?_⟩;refine (List.Perm.append_left f1 p).trans ?_;rw[<- List.append_assoc,<- List.append_assoc];exact List.Perm.append_right _ List.perm_append_comm
 |brw t q0 r=>
  cases ic with
  |zero=>
   simp at h
  |succ i=>
   obtain ⟨fp',o,p⟩:=Own.fill (i:=i) q r (by simpa using h);exact ⟨fp',.brw t q0 o,p⟩
section
variable {Hs H0 H Hf:Hp}{vs:List (Option V)}{ds:List (Option D)}{v:V}{d:D}{fp:List Addr}
theorem noB.set(n:noB ds){i:Nat}{x:Option D}(h:∀ d,x=some d->d.tag≠.b):noB (ds.set i x):=fun d m=>by
 rcases List.mem_or_eq_of_mem_set m with m | e
 ·exact n d m
 ·exact h d e.symm
theorem Own.write(O:Own Hf H fp vs ds)(n:noB ds)(nd:fp.Nodup){i:Nat}(e:ds[i]?=some (some d))(t:d.tag=.o) :
    ∃ p fpx fpr,vs[i]?=some (some (.ref p))/\RepO Hf H (p::fpx) (.ref p) d/\fp.Perm (p::fpx++fpr) ∧
     ∀ H' d' fq,(∀ a o,a∈fpr->H a=some o->H' a=some o)->RepO Hf H' fq (.ref p) d'->∃ fp',Own Hf H' fp' vs (ds.set i (some d'))/\fp'.Perm (fq++fpr):=by
 obtain ⟨v,fp1,fp2,e',h,O',pm⟩:=O.take e (by rw[t];decide);have hi:i<ds.length:=(List.getElem?_eq_some_iff.mp e).1;have hvi:vs.set i (some v)=vs:=by
  obtain ⟨a,b⟩:=List.getElem?_eq_some_iff.mp e';rw[<- b];exact List.set_getElem_self a
 have fin:∀ H' d' fq,(∀ a o,a∈fp2->H a=some o->H' a=some o)->RepO Hf H' fq v d'->∃ fp',Own Hf H' fp' vs (ds.set i (some d'))/\fp'.Perm (fq++fp2):=fun H' d' fq kp h'=>by
  have O1:Own Hf H' fp2 vs (ds.set i none):=O'.keep (Same.refl _) (n.set fun _ z=>nomatch z) kp;obtain ⟨fp',O2,p2⟩:=O1.fill h' (i:=i) (by simp[hi]);rw[hvi,List.set_set] at O2;exact ⟨fp',O2,p2⟩
 cases h with
 |fz h z=>rw[t] at z;cases z
 |lst h r=>exact ⟨_,_,_,e',.lst h r,pm,fin⟩
 |dic h r=>exact ⟨_,_,_,e',.dic h r,pm,fin⟩
 |slf h q r=>exact ⟨_,[_],_,e',.slf h q r,pm,fin⟩
theorem gA{H:Hp}{p:Addr}{o:HO}{a:Addr}{u:HO}(h:a≠p)(e:H a=some u):upd H p o a=some u:=by rw[aR h];exact e
theorem Fine.wrote(F:Fine Hs H0 Hf H fp){p:Addr}(hp:p∈fp){o:HO}{fq:List Addr}(nd:fq.Nodup)(own:∀ a∈fq,Hf a=none/\H0 a=none):Fine Hs H0 Hf (upd H p o) fq:=by
 have ne:∀ {H1:Hp},H1 p=none->Same H1 H->Same H1 (upd H p o):=fun {H1} hn s a u e=>by
  refine gA (fun z=>?_) (s a u e);subst z;rw[hn] at e;cases e
 exact ⟨nd,own,ne (F.own p hp).1 F.fh,ne (F.own p hp).2 F.zh,F.sf,F.new⟩
theorem SR.append(S:SR Hs H0 H (some v::vs) (some d::ds))(t:d.tag≠.b)(n:noB ds){i:Nat}{xs:List D}(e:ds[i]?=some (some (.lst .o xs))) :
    ∃ p us,vs[i]?=some (some (.ref p))/\H p=some (.lst us)/\us.length=xs.length/\SR Hs H0 (upd H p (.lst (us++[v]))) vs (ds.set i (some (.lst .o (xs++[d])))):=by
 obtain ⟨Hf,fp,O,F⟩:=S
 cases O with
 |brw z h r=>exact absurd z t
 |cons h r=>
  rename_i f0 f1;obtain ⟨p,fpx,fpr,e',q,pm,w⟩:=r.write n (List.nodup_append.mp F.nd).2.1 e rfl
  cases q with
  |lst q R=>
   rename_i us;have pm':(f0++f1).Perm (p::(fpx++f0)++fpr):=by
    refine (List.Perm.append_left f0 pm).trans ?_;rw[List.cons_append,List.cons_append];refine List.perm_middle.trans (List.Perm.cons p ?_);rw[<- List.append_assoc];exact List.Perm.append_right _ List.perm_append_comm
   have F':=F.perm pm'.symm;have hpn:p∉(fpx++f0)++fpr:=by
    have:=F'.nd;rw[List.cons_append] at this;exact (List.nodup_cons.mp this).1
   have hp:p∈f0++f1:=pm'.symm.subset (by simp);have kp:∀ (l:List Addr),(∀ a∈l,a∈(fpx++f0)++fpr)->∀ a o,a∈l->H a=some o->upd H p (.lst (us++[v])) a=some o:=fun l hl a o m z=>
    gA (fun y=>by subst y;exact hpn (hl a m)) z
   have R':RepOs Hf (upd H p (.lst (us++[v]))) (fpx++f0) (us++[v]) (xs++[d]):=by
    have r1:RepOs Hf (upd H p (.lst (us++[v]))) (f0++[]) [v] [d]:=.cons (h.keep (Same.refl _) (kp f0 fun a m=>by simp[m])) .nil;rw[List.append_nil] at r1;exact (R.keep (Same.refl _) (kp fpx fun a m=>by simp[m])).append r1
   obtain ⟨fp',O',p'⟩:=w (upd H p (.lst (us++[v]))) (.lst .o (xs++[d])) (p::(fpx++f0)) (kp fpr fun a m=>by simp[m]) (.lst bP R');refine ⟨p,us,e',q,R.length,Hf,fp',O',F.wrote hp ?_ ?_⟩
   ·exact (p'.nodup_iff).mpr F'.nd
   ·intro a m
    exact F'.own a (p'.subset m)
theorem SR.popAt(S:SR Hs H0 H vs ds)(n:noB ds){i k:Nat}{xs:List D}{x:D}(e:ds[i]?=some (some (.lst .o xs)))(ex:xs[k]?=some x)(tx:x.tag≠.b) :
    ∃ p us u,vs[i]?=some (some (.ref p))/\H p=some (.lst us)/\us.length=xs.length/\us[k]?=some u ∧
     SR Hs H0 (upd H p (.lst (us.eraseIdx k))) (some u::vs) (some x::ds.set i (some (.lst .o (xs.eraseIdx k)))):=by
 obtain ⟨Hf,fp,O,F⟩:=S;obtain ⟨p,fpx,fpr,e',q,pm,w⟩:=O.write n F.nd e rfl
 cases q with
 |lst q R=>
  rename_i us;obtain ⟨u,f1,f2,eu,hu,R2,p2⟩:=R.pick ex;have pm':fp.Perm (f1++(p::f2++fpr)):=by
   refine pm.trans ?_;rw[List.cons_append,List.cons_append];refine List.Perm.trans (List.Perm.cons p ((List.Perm.append_right fpr p2).trans (by rw[List.append_assoc]))) List.perm_middle.symm
  have F':=F.perm pm'.symm;have hp:p∈fp:=pm'.symm.subset (by simp);have nd':=F'.nd;have hpn:p∉f1++(f2++fpr):=by
   have:(p::(f1++(f2++fpr))).Nodup:=(List.perm_middle.nodup_iff).mp (by simpa using nd');exact (List.nodup_cons.mp this).1
  have kp:∀ (l:List Addr),(∀ a∈l,a∈f1++(f2++fpr))->∀ a o,a∈l->H a=some o->upd H p (.lst (us.eraseIdx k)) a=some o:=fun l hl a o m z=>
   gA (fun y=>by subst y;exact hpn (hl a m)) z
  obtain ⟨fp',O',p'⟩:=w (upd H p (.lst (us.eraseIdx k))) (.lst .o (xs.eraseIdx k)) (p::f2) (kp fpr fun a m=>by simp[m]) (.lst bP (R2.keep (Same.refl _) (kp f2 fun a m=>by simp[m])));refine ⟨p,us,u,e',q,R.length,eu,Hf,f1++fp',.cons (hu.keep (Same.refl _) (kp f1 fun a m=>by simp[m])) O',F.wrote hp ?_ ?_⟩
  ·exact ((List.Perm.append_left f1 p').nodup_iff).mpr nd'
  ·intro a m
   exact F'.own a ((List.Perm.append_left f1 p').subset m)
end
end Mi
namespace Mi
open PySem PySem.Spec L2
open PyProof.Rows hiding St
inductive Res (α:Type) where
 |ok (a:α) | exc (C:Value) | bad
abbrev ae:=List (Option D)
namespace Res
def bind{α β:Type}:Res α->(α->Res β)->Res β
 | .ok a,f=>f a
 | .exc C,_=>.exc C
 | .bad,_=>.bad
instance:Monad Res where
 pure:=.ok
 bind:=Res.bind
end Res
def Post{α:Type}(Ex:Value->Prop)(r:Res α)(k:α->Prop):Prop:=
 match r with
 | .ok a=>k a
 | .exc C=>Ex C
 | .bad=>False
theorem Post.bind{α β:Type}{Ex:Value->Prop}{r:Res α}{f:α->Res β}{k:β->Prop}(h:Post Ex (r >>= f) k):Post Ex r fun a=>Post Ex (f a) k:=by
 cases r with
 |ok a=>exact h
 |exc C=>exact h
 |bad=>exact h
theorem Post.imp{α:Type}{Ex:Value->Prop}{r:Res α}{k k':α->Prop}(h:Post Ex r k)(f:∀ a,r=.ok a->k a->k' a):Post Ex r k':=by
 cases r with
 |ok a=>exact f a rfl h
 |exc C=>exact h
 |bad=>exact h
def tvs(ts:List (V × D)):List (Option V):=ts.map fun t=>some t.1
def tds(ts:List (V × D)):List (Option D):=ts.map fun t=>some t.2
theorem ld(ts:List (V × D)):(tvs ts).length=ts.length:=by simp[tvs]
theorem lf(ts:List (V × D)):(tds ts).length=ts.length:=by simp[tds]
def SX(Hs H0 H:Hp)(ts:List (V × D))(σ:St)(ρ:ae):Prop:=SR Hs H0 H (tvs ts++σ) (tds ts++ρ)
def TEF(H0:Hp)(Ex:Value->Prop)(f:ae->Res D):TE:=fun σ H Q=>∃ Hs ρ ts,SX Hs H0 H ts σ ρ ∧
 Post Ex (f ρ) fun d=>∀ v H',SX Hs H0 H' ((v,d)::ts) σ ρ->Q v H'
def TTF(H0:Hp)(Ex:Value->Prop)(f:ae->Res Bool):TT:=fun σ H Q=>∃ Hs ρ ts,SX Hs H0 H ts σ ρ ∧
 Post Ex (f ρ) fun b=>∀ H',SX Hs H0 H' ts σ ρ->Q b H'
def held(us:List V)(es:List D)(ts:List (V × D)):List (V × D):=(us.zip es).reverse++ts
def TAF(H0:Hp)(Ex:Value->Prop)(f:ae->Res (List D)):TA:=fun σ H Q=>∃ Hs ρ ts,SX Hs H0 H ts σ ρ ∧
 Post Ex (f ρ) fun es=>∀ us H',us.length=es.length->SX Hs H0 H' (held us es ts) σ ρ->Q us H'
structure FE (X:Cx) (H0:Hp) (Ex:Value->Prop) (e:Expr) (f:ae->Res D):Prop where
 go:PE X e (TEF H0 Ex f)
structure FT (X:Cx) (H0:Hp) (Ex:Value->Prop) (e:Expr) (f:ae->Res Bool):Prop where
 go:PT X e (TTF H0 Ex f)
structure FA (X:Cx) (H0:Hp) (Ex:Value->Prop) (es:List Expr) (f:ae->Res (List D)):Prop where
 go:PA X es (TAF H0 Ex f)
structure PV (X:Cx) (e:Expr) (i:Nat):Prop where
 go:PE X e (AW i)
theorem mv{X:Cx}(i:Nat){x:Str}{pos:Pos}(hN:X.N[i]?=some x:=by rfl)(hv:Vis X.env.scope x:=by first | exact Or.inl rfl | exact Or.inr (Or.inl rfl) | exact Or.inr (Or.inr rfl))(hd:(x == ("__debug__" : Str))=false:=by decide)
    (hcd:(x == ("__classdict__" : Str))=false:=by decide):PV X (.Name x pos) i:=⟨AX hN hv hd hcd⟩
theorem PE.pre{X:Cx}{e:Expr}{t t':TE}(h:PE X e t)(i:∀ σ H Q,t' σ H Q->t σ H Q):PE X e t':=fun pins s σ H Q I q=>h pins s σ H Q I (i σ H Q q)
theorem PT.pre{X:Cx}{e:Expr}{t t':TT}(h:PT X e t)(i:∀ σ H Q,t' σ H Q->t σ H Q):PT X e t':=fun pins s σ H Q I q=>h pins s σ H Q I (i σ H Q q)
theorem PA.pre{X:Cx}{e:List Expr}{t t':TA}(h:PA X e t)(i:∀ σ H Q,t' σ H Q->t σ H Q):PA X e t':=fun pos pins s σ H Q I q=>h pos pins s σ H Q I (i σ H Q q)
theorem PS.pre{X:Cx}{e:Stmt}{t t':TS}(h:PS X e t)(i:∀ D σ H,t' D σ H->t D σ H):PS X e t':=fun pins s σ H D I q=>h pins s σ H D I (i D σ H q)
theorem PSs.pre{X:Cx}{e:List Stmt}{t t':TS}(h:PSs X e t)(i:∀ D σ H,t' D σ H->t D σ H):PSs X e t':=fun pins s σ H D I q=>h pins s σ H D I (i D σ H q)
section
variable {X:Cx}{Ex:Value->Prop}{H0:Hp}{a b c e:Expr}{f g:ae->Res D}{pos:Pos}
def ad(i:Nat):ae->Res D:=fun ρ=>match ρ[i]? with
 |some (some d)=>.ok d.rd
 |_=>.bad
theorem lZ{α:Type}(l r:List α)(i:Nat):(l++r)[l.length+i]?=r[i]?:=by
 rw[List.getElem?_append_right (by omega)];congr 1;omega
theorem af(i:Nat){x:Str}(h:PV X (.Name x pos) i):FE X H0 Ex (.Name x pos) (ad i):=by
 refine ⟨PE.pre h.go ?_⟩;rintro σ H Q ⟨Hs,ρ,ts,S,p⟩;unfold ad at p;split at p
 ·rename_i d hd
  have e:(tds ts++ρ)[(tds ts).length+i]?=some (some d):=by rw[lZ];exact hd
  obtain ⟨v,hv,S'⟩:=SR.get S e;rw[lf,<- ld,lZ] at hv;exact ⟨v,hv,p v H S'⟩
 ·exact p.elim
def fC(d:D):ae->Res D:=fun _=>.ok d
theorem aj{i j}:FE X H0 Ex (.Constant (.int i) j pos) (fC (.int i)):=by
 refine ⟨PE.pre AY ?_⟩;rintro σ H Q ⟨Hs,ρ,ts,S,p⟩;exact p _ H S.int
theorem jG{i j}:FE X H0 Ex (.Constant (.bool i) j pos) (fC (.bl i)):=by
 refine ⟨PE.pre yK ?_⟩;rintro σ H Q ⟨Hs,ρ,ts,S,p⟩;exact p _ H S.bl
theorem jp{j}:FE X H0 Ex (.Constant .none j pos) (fC .non):=by
 refine ⟨PE.pre AZ ?_⟩;rintro σ H Q ⟨Hs,ρ,ts,S,p⟩;exact p _ H S.non
theorem fE{x j}:FE X H0 Ex (.Constant (.str x) j pos) (fC (.str x)):=by
 refine ⟨PE.pre uV ?_⟩;rintro σ H Q ⟨Hs,ρ,ts,S,p⟩;exact p _ H S.str
theorem nO{x:Str}{i:Int}{u:Value}(hg:Gl X x)(hm:X.mg x=some u)(r:RelV (.int i) u)(hd:(x == ("__debug__" : Str))=false:=by decide):FE X H0 Ex (.Name x pos) (fC (.int i)):=by
 refine ⟨PE.pre (zk hg hm r hd) ?_⟩;rintro σ H Q ⟨Hs,ρ,ts,S,p⟩;exact p _ H S.int
structure FOp (X:Cx) (f:Value->Value->Sem Value) (g:D->D->Res D):Prop where
 go:OpR X f fun x y H Q=>∃ Hs H0 vs ds d1 d2 d,
 SR Hs H0 H (some y::some x::vs) (some d2::some d1::ds)/\g d1 d2=.ok d/\∀ v H',SR Hs H0 H' (some v::vs) (some d::ds)->Q v H'
theorem OpR.pre{f:Value->Value->Sem Value}{r r':R2}(h:OpR X f r)(i:∀ x y H Q,r' x y H Q->r x y H Q):OpR X f r':=fun pins s σ H x y v u Q I a b q=>h pins s σ H x y v u Q I a b (i x y H Q q)
def noX{α:Type}:Res α->Bool
 | .exc _=>false
 |_=>true
def f2(g:D->D->Res D)(fa fb:ae->Res D):ae->Res D:=fun ρ=>fa ρ >>= fun x=>fb ρ >>= fun y=>g x y
theorem pH{H0:Hp}{g:D->D->Res D}(hg:∀ x y,noX (g x y)=true){op:Value->Value->Sem Value}{σ:St}{H:Hp}{Q:VK}{fa fb:ae->Res D}(h:TEF H0 Ex (f2 g fa fb) σ H Q) :
    tOp (fun x y H Q=>∃ Hs H0 vs ds d1 d2 d,SR Hs H0 H (some y::some x::vs) (some d2::some d1::ds)/\g d1 d2=.ok d/\∀ v H',SR Hs H0 H' (some v::vs) (some d::ds)->Q v H') (TEF H0 Ex fa) (TEF H0 Ex fb) σ H Q:=by
 obtain ⟨Hs,ρ,ts,S,p⟩:=h;refine ⟨Hs,ρ,ts,S,(Post.bind p).imp fun d1 _ p1 v1 H1 S1=>⟨Hs,ρ,(v1,d1)::ts,S1,(Post.bind p1).imp fun d2 _ p2 v2 H2 S2=>?_⟩⟩;have hn:=hg d1 d2
 cases e:g d1 d2 with
 |ok d=>rw[e] at p2;exact ⟨Hs,H0,_,_,d1,d2,d,S2,e,p2⟩
 |exc C=>rw[e] at hn;cases hn
 |bad=>rw[e] at p2;exact p2.elim
theorem aI{op:Operator}{g:D->D->Res D}{fa fb:ae->Res D}(ho:FOp X (binaryOp op) g)(hg:∀ x y,noX (g x y)=true)(ha:FE X H0 Ex a fa)(hb:FE X H0 Ex b fb):FE X H0 Ex (.BinOp a op b pos) (f2 g fa fb):=
 ⟨PE.pre (Db ho.go ha.go hb.go) fun _ _ _ h=>pH hg (op:=binaryOp op) h⟩
theorem jq{op:CmpOp}{g:D->D->Res D}{fa fb:ae->Res D}(ho:FOp X (compareOp op) g)(hg:∀ x y,noX (g x y)=true)(ha:FE X H0 Ex a fa)(hb:FE X H0 Ex b fb)(hm:behindInMarks op b=false):FE X H0 Ex (.Compare a [op] [b] pos) (f2 g fa fb):=
 ⟨PE.pre (zv ho.go ha.go hb.go hm) fun _ _ _ h=>pH hg (op:=compareOp op) h⟩
theorem SR.isInt{Hs H0 H:Hp}{vs:List (Option V)}{ds:List (Option D)}{v:V}{i:Int}(S:SR Hs H0 H (some v::vs) (some (.int i)::ds)):v=.int i:=by
 cases S.head;rfl
theorem SR.isBl{Hs H0 H:Hp}{vs:List (Option V)}{ds:List (Option D)}{v:V}{i:Bool}(S:SR Hs H0 H (some v::vs) (some (.bl i)::ds)):v=.bl i:=by
 cases S.head;rfl
theorem SR.isStr{Hs H0 H:Hp}{vs:List (Option V)}{ds:List (Option D)}{v:V}{i:Str}(S:SR Hs H0 H (some v::vs) (some (.str i)::ds)):v=.str i:=by
 cases S.head;rfl
def gI(C:Int->Int->Bool)(g:Int->Int->D):D->D->Res D:=fun x y=>match x,y with
 | .int i,.int j=>if C i j then .ok (g i j) else .bad
 |_,_=>.bad
theorem aJ(C:Int->Int->Bool)(g:Int->Int->D):∀ x y,noX (gI C g x y)=true:=by
 intro x y;unfold gI;split
 ·split<;>rfl
 ·rfl
theorem jr{f:Value->Value->Sem Value}{C:Int->Int->Prop}{C':Int->Int->Bool}{g:Int->Int->Int}(h:OpR X f (rI C fun i j=>.int (g i j)))(hc:∀ i j,C' i j=true->C i j):FOp X f (gI C' fun i j=>.int (g i j)):=by
 refine ⟨OpR.pre h ?_⟩;rintro x y H Q ⟨Hs,H0,vs,ds,d1,d2,d,S,e,k⟩;unfold gI at e;split at e
 ·rename_i i j
  split at e
  ·rename_i hcc
   cases e
   cases SR.isInt S
   cases SR.isInt S.drop
   exact ⟨i,j,rfl,rfl,hc i j hcc,k _ H S.drop.drop.int⟩
  ·cases e
 ·cases e
theorem xE{f:Value->Value->Sem Value}{g:Int->Int->Int}(h:OpR X f (rI0 fun i j=>.int (g i j))):FOp X f (gI (fun _ _=>true) fun i j=>.int (g i j)):=by
 refine ⟨OpR.pre h ?_⟩;rintro x y H Q ⟨Hs,H0,vs,ds,d1,d2,d,S,e,k⟩;unfold gI at e;split at e
 ·rename_i i j
  cases e
  cases SR.isInt S
  cases SR.isInt S.drop
  exact ⟨i,j,rfl,rfl,k _ H S.drop.drop.int⟩
 ·cases e
theorem jH{f:Value->Value->Sem Value}{g:Int->Int->Bool}(h:OpR X f (rI0 fun i j=>.bl (g i j))):FOp X f (gI (fun _ _=>true) fun i j=>.bl (g i j)):=by
 refine ⟨OpR.pre h ?_⟩;rintro x y H Q ⟨Hs,H0,vs,ds,d1,d2,d,S,e,k⟩;unfold gI at e;split at e
 ·rename_i i j
  cases e
  cases SR.isInt S
  cases SR.isInt S.drop
  exact ⟨i,j,rfl,rfl,k _ H S.drop.drop.bl⟩
 ·cases e
def cR:=gI (fun _ _=>true) fun i j=>.int (i - j)
def bB:=gI (fun i j=>(decide (-(2 ^ 64)<i)&&decide (i<2 ^ 64))||(decide (-(2 ^ 64)<j)&&decide (j<2 ^ 64))) fun i j=>.int (i*j)
def mz:=gI (fun _ j=>decide (0<j)&&decide (j<1073741824)) fun i j=>.int (i / j)
def cS:=gI (fun _ j=>decide (0<j)) fun i j=>.int (i % j)
def dLt:=gI (fun _ _=>true) fun i j=>.bl (decide (i<j))
def dLe:=gI (fun _ _=>true) fun i j=>.bl (decide (i<=j))
def dGt:=gI (fun _ _=>true) fun i j=>.bl (decide (j<i))
def dGe:=gI (fun _ _=>true) fun i j=>.bl (decide (j<=i))
theorem eP:FOp X (binaryOp .Sub) cR:=xE Bg
theorem df:FOp X (binaryOp .Mult) bB:=jr Bh fun i j h=>by
 simp at h;exact h
theorem se:FOp X (binaryOp .FloorDiv) mz:=jr zu fun i j h=>by
 simp at h;exact h
theorem eQ:FOp X (binaryOp .Mod) cS:=jr Bk fun i j h=>by
 simp at h;exact h
theorem t8:FOp X (compareOp .Lt) dLt:=jH pD
theorem t9:FOp X (compareOp .LtE) dLe:=jH gO
theorem mB:FOp X (compareOp .Gt) dGt:=jH Dh
theorem Dq:FOp X (compareOp .GtE) dGe:=jH Di
theorem SR.laidL{Hs H0 H Hf:Hp}{fp:List Addr}{vs:List (Option V)}{ds:List (Option D)}(O:Own Hf H fp vs ds)(F:Fine Hs H0 Hf H fp){us:List V}{es:List D}(R:Reps Hf us es)(ht:∀ e∈es,e.tag=.f){p:Addr}(hp:H p=none) :
    SR Hs H0 (upd H p (.lst us)) (some (.ref p)::vs) (some (.lst .o es)::ds):=by
 obtain ⟨hf,h0⟩:=F.fresh hp;have s:Same H (upd H p (.lst us)):=fun b o e=>by rw[aR (bC e hp)];exact e
 refine ⟨Hf,[p]++fp,.cons (.lst bP (RepOs.ofReps R ht)) (O.mono (Same.refl _) s),?_,?_,F.fh.trans s,F.zh.trans s,F.sf,F.new⟩
 ·refine List.nodup_cons.mpr ⟨fun m=>?_,F.nd⟩
  obtain ⟨o,e⟩:=O.there p m;rw[hp] at e;cases e
 ·intro a m
  rcases List.mem_cons.mp m with e | m
  ·subst e;exact ⟨hf,h0⟩
  ·exact F.own a m
def aL:D->D->Res D:=fun x y=>match x,y with
 | .int i,.int j=>.ok (.int (i+j))
 | .str i,.str j=>if i.length+j.length<=sizeLine then .ok (.str (i++j)) else .bad
 | .lst t xs,.lst u ys=>match D.its (.lst t xs),D.its (.lst u ys) with
  |some xs',some ys'=>if xs'.length+ys'.length<=sizeLine then .ok (.lst .o (xs'++ys')) else .bad
  |_,_=>.bad
 |_,_=>.bad
theorem aS:∀ x y,noX (aL x y)=true:=by
 intro x y;unfold aL;split
 ·rfl
 ·split<;>rfl
 ·split
  ·split<;>rfl
  ·rfl
 ·rfl
theorem bu:FOp X (binaryOp .Add) aL:=by
 refine ⟨OpR.pre (OpR.or Bf (OpR.or tV BB)) ?_⟩;rintro x y H Q ⟨Hs,H0,vs,ds,d1,d2,d,S,e,k⟩;unfold aL at e;split at e
 ·rename_i i j
  cases e
  cases SR.isInt S
  cases SR.isInt S.drop
  exact .inl ⟨i,j,rfl,rfl,k _ H S.drop.drop.int⟩
 ·rename_i i j
  split at e
  ·rename_i hl
   cases e
   cases SR.isStr S
   cases SR.isStr S.drop
   exact .inr (.inl ⟨i,j,rfl,rfl,hl,k _ H S.drop.drop.str⟩)
  ·cases e
 ·rename_i t xs u ys
  split at e
  ·rename_i xs' ys' hx hy
   split at e
   ·rename_i hl
    cases e
    obtain ⟨Hf,fp,O,F⟩:=S;obtain ⟨a2,us2,rfl,e2,Hg,fq,O1,F1,s1,R2⟩:=O.items F hy;obtain ⟨a1,us1,rfl,e1,Hk,fr,O2,F2,s2,R1⟩:=O1.items F1 hx;refine .inr (.inr ⟨a1,a2,us1,us2,rfl,rfl,e1,e2,by rw[R1.length,R2.length];exact hl,fun p hp=>k _ _ ?_⟩);exact SR.laidL O2 F2 (R1.append (R2.mono s2)) (fun z m=>(List.mem_append.mp m).elim (D.its_tag hx z) (D.its_tag hy z)) hp
   ·cases e
  ·cases e
 ·cases e
structure FIx (X:Cx) (g:D->D->Res D):Prop where
 go:IxR X fun x y H Q=>∃ Hs H0 vs ds d1 d2 d,
 SR Hs H0 H (some y::some x::vs) (some d2::some d1::ds)/\g d1 d2=.ok d/\∀ v H',SR Hs H0 H' (some v::vs) (some d::ds)->Q v H'
theorem zD{g:D->D->Res D}{fa fb:ae->Res D}(ho:FIx X g)(hg:∀ x y,noX (g x y)=true)(ha:FE X H0 Ex a fa)(hb:FE X H0 Ex b fb)(hs:nL b):FE X H0 Ex (.Subscript a b pos) (f2 g fa fb):=
 ⟨PE.pre (Dn ho.go ha.go hb.go hs) fun _ _ _ h=>pH hg (op:=fun _ _=>pure .none) h⟩
theorem IxR.pre{r r':R2}(h:IxR X r)(i:∀ x y H Q,r' x y H Q->r x y H Q):IxR X r':=fun v sl pins s σ H x y a u Q I p q w z=>h v sl pins s σ H x y a u Q I p q (i x y H Q w) z
def bT{α:Type}:Option α->Res α
 |some a=>.ok a
 |none=>.bad
def dIx:D->D->Res D:=fun x y=>match x,y with
 | .lst t xs,.int i=>match ixN xs.length i with
  |some j=>bT (D.el (.lst t xs) j)
  |none=>.bad
 | .tup xs,.int i=>match ixN xs.length i with
  |some j=>bT (D.el (.tup xs) j)
  |none=>.bad
 | .str z,.int i=>match atI z.cps.toList i with
  |some c=>if z.length<=sizeLine then .ok (.str ⟨#[c]⟩) else .bad
  |none=>.bad
 | .scr ns,.int i=>match atI ns i with
  |some c=>.ok (.int c)
  |none=>.bad
 |_,_=>.bad
theorem oK{α:Type}(o:Option α):noX (bT o)=true:=by cases o<;>rfl
theorem qa{α:Type}{o:Option α}{a:α}(h:bT o=.ok a):o=some a:=by
 cases o with
 |some b=>cases h;rfl
 |none=>cases h
theorem zE:∀ x y,noX (dIx x y)=true:=by
 intro x y;unfold dIx;split
 ·split
  ·exact oK _
  ·rfl
 ·split
  ·exact oK _
  ·rfl
 ·split
  ·split<;>rfl
  ·rfl
 ·split<;>rfl
 ·rfl
theorem vq{α:Type}{xs:List α}{i:Int}{j:Nat}{v:α}(h:ixN xs.length i=some j)(e:xs[j]?=some v):atI xs i=some v:=by
 unfold atI;rw[h];exact e
theorem BJ:FIx X dIx:=by
 refine ⟨IxR.pre By ?_⟩;rintro x y H Q ⟨Hs,H0,vs,ds,d1,d2,d,S,e,k⟩;unfold dIx at e;split at e
 ·rename_i t xs i
  cases SR.isInt S
  split at e
  ·rename_i j hj
   have he:=qa e;obtain ⟨a,us,u,rfl,h1,h2,S'⟩:=S.drop.elem he;have hl:us.length=xs.length:=by
    have:=S.drop.head
    cases this with
    |lst q R=>
     have h1':H a=some (.lst us):=h1;rw[h1'] at q;cases q;exact R.length
   exact .inl ⟨a,us,i,u,rfl,rfl,SqL.of h1,vq (by rw[hl];exact hj) h2,k _ H S'⟩
  ·cases e
 ·rename_i xs i
  cases SR.isInt S
  split at e
  ·rename_i j hj
   have he:=qa e;obtain ⟨a,us,u,rfl,h1,h2,S'⟩:=S.drop.elem he;have hl:us.length=xs.length:=by
    have:=S.drop.head
    cases this with
    |tup q R=>
     have h1':H a=some (.tup us):=h1;rw[h1'] at q;cases q;exact R.length
   exact .inr (.inl ⟨a,us,i,u,rfl,rfl,SqT.of h1,vq (by rw[hl];exact hj) h2,k _ H S'⟩)
  ·cases e
 ·rename_i z i
  cases SR.isInt S
  split at e
  ·rename_i c hc
   split at e
   ·rename_i hz
    cases e
    cases SR.isStr S.drop
    exact .inr (.inr ⟨z,i,c,rfl,rfl,hz,hc,k _ H S.drop.drop.str⟩)
   ·cases e
  ·cases e
 ·rename_i ns i
  cases SR.isInt S
  split at e
  ·rename_i c hc
   cases e
   have:=S.drop.head
   cases this with
   |scr q=>
    refine .inl ⟨_,_,i,.int c,rfl,rfl,.inl (.inr ⟨_,q⟩),?_,k _ H S.drop.drop.int⟩;obtain ⟨j,h1,h2,_⟩:=kZ hc;unfold atI at hc ⊢;rw[List.length_map]
    cases hj:ixN ns.length i with
    |none=>rw[hj] at hc;cases hc
    |some j=>
     rw[hj] at hc;have hc:ns[j]?=some c:=hc;show (ns.map V.int)[j]?=some (V.int c);rw[List.getElem?_map,hc];rfl
  ·cases e
 ·cases e
theorem aG{fa fb:ae->Res D}(ha:FE X H0 Ex a fa)(hb:FE X H0 Ex b fb)(hs:nL b:=by intro _ _;rfl):FE X H0 Ex (.Subscript a b pos) (f2 dIx fa fb):=zD BJ zE ha hb hs
theorem xF{us:List V}{es:List D}{ts:List (V × D)}(h:us.length=es.length):tvs (held us es ts)=hv us++tvs ts:=by
 have:(us.zip es).map (fun t=>some t.1)=us.map some:=by
  induction us generalizing es with
  |nil=>rfl
  |cons u us ih=>
   cases es with
   |nil=>simp at h
   |cons e es=>simp[ih (es:=es) (by simpa using h)]
 simp[tvs,held,hv,<- this]
theorem xG{us:List V}{es:List D}{ts:List (V × D)}(h:us.length=es.length):tds (held us es ts)=hd es++tds ts:=by
 have:(us.zip es).map (fun t=>some t.2)=es.map some:=by
  induction us generalizing es with
  |nil=>
   cases es with
   |nil=>rfl
   |cons e es=>simp at h
  |cons u us ih=>
   cases es with
   |nil=>simp at h
   |cons e es=>simp[ih (es:=es) (by simpa using h)]
 simp[tds,held,hd,<- this]
theorem SX.held{Hs H0 H:Hp}{us:List V}{es:List D}{ts:List (V × D)}{σ:St}{ρ:ae}(h:us.length=es.length)(S:SX Hs H0 H (held us es ts) σ ρ):SR Hs H0 H (hv us++(tvs ts++σ)) (hd es++(tds ts++ρ)):=by
 unfold SX at S;rw[xF h,xG h,List.append_assoc,List.append_assoc] at S;exact S
def ah:ae->Res (List D):=fun _=>.ok []
def ac(f:ae->Res D)(g:ae->Res (List D)):ae->Res (List D):=fun ρ=>f ρ >>= fun d=>g ρ >>= fun ds=>.ok (d::ds)
theorem ak:FA X H0 Ex [] ah:=by
 refine ⟨PA.pre fW ?_⟩;rintro σ H Q ⟨Hs,ρ,ts,S,p⟩;exact p [] H rfl S
theorem ag{es:List Expr}{fe:ae->Res D}{fs:ae->Res (List D)}(he:FE X H0 Ex e fe)(hr:FA X H0 Ex es fs)(hs:starEach (e::es) X.env=(false,eval e X.env)::starEach es X.env:=by rfl):FA X H0 Ex (e::es) (ac fe fs):=by
 refine ⟨PA.pre (eG he.go hr.go hs) ?_⟩;rintro σ H Q ⟨Hs,ρ,ts,S,p⟩;refine ⟨Hs,ρ,ts,S,(Post.bind p).imp fun d _ p1 v H1 S1=>⟨Hs,ρ,(v,d)::ts,S1,(Post.bind p1).imp fun ds _ p2 us H2 hl S2=>?_⟩⟩;refine p2 (v::us) H2 (by simp[hl]) ?_;have:held (v::us) (d::ds) ts=held us ds ((v,d)::ts):=by simp[held]
 rw[this];exact S2
def nb(es:List D):Bool:=es.all fun e=>!(e.tag == .b)
theorem mC{es:List D}(h:nb es=true):∀ e∈es,e.tag≠.b:=fun e m=>by
 have:=List.all_eq_true.mp h e m;simpa using this
def bv(fa:ae->Res (List D)):ae->Res D:=fun ρ=>fa ρ >>= fun es=>if nb es&&decide (es.length<=sizeLine) then .ok (.lst .o es) else .bad
def bY(fa:ae->Res (List D)):ae->Res D:=fun ρ=>fa ρ >>= fun es=>if nb es&&decide (es.length<=sizeLine) then .ok (.tup (D.fzs es)) else .bad
theorem cr{es:List Expr}{fa:ae->Res (List D)}(h:FA X H0 Ex es fa):FE X H0 Ex (.List es pos) (bv fa):=by
 refine ⟨PE.pre (Bs h.go) ?_⟩;rintro σ H Q ⟨Hs,ρ,ts,S,p⟩;refine ⟨Hs,ρ,ts,S,(Post.bind p).imp fun ds _ p1 us H1 hl S1=>?_⟩;split at p1
 ·rename_i hc
  simp at hc;exact ⟨by rw[hl];exact hc.2,fun q hq=>p1 _ _ ((SX.held hl S1).mkList hl (mC hc.1) hq)⟩
 ·exact p1.elim
theorem dh{es:List Expr}{fa:ae->Res (List D)}{x1}(h:FA X H0 Ex es fa):FE X H0 Ex (.Tuple es x1 pos) (bY fa):=by
 refine ⟨PE.pre (Br h.go) ?_⟩;rintro σ H Q ⟨Hs,ρ,ts,S,p⟩;refine ⟨Hs,ρ,ts,S,(Post.bind p).imp fun ds _ p1 us H1 hl S1=>?_⟩;split at p1
 ·rename_i hc
  simp at hc;exact ⟨by rw[hl];exact hc.2,fun q hq=>p1 _ _ ((SX.held hl S1).mkTup hl (mC hc.1) hq)⟩
 ·exact p1.elim
structure FCall (X:Cx) (f:Value) (g:List D->Res D):Prop where
 go:CallR X f fun us H Q=>∃ Hs H0 vs ds es d,us.length=es.length ∧
 SR Hs H0 H (hv us++vs) (hd es++ds)/\g es=.ok d/\∀ v H',SR Hs H0 H' (some v::vs) (some d::ds)->Q v H'
theorem CallR.pre{f:Value}{r r':List V->Hp->VK->Prop}(h:CallR X f r)(i:∀ x H Q,r' x H Q->r x H Q):CallR X f r':=fun pins s σ H x y Q I a q=>h pins s σ H x y Q I a (i x H Q q)
def fCB(g:List D->Res D)(fa:ae->Res (List D)):ae->Res D:=fun ρ=>fa ρ >>= g
theorem vt{H0:Hp}{g:List D->Res D}{fa:ae->Res (List D)}(hg:∀ es,noX (g es)=true){σ:St}{H:Hp}{Q:VK}(h:TEF H0 Ex (fCB g fa) σ H Q) :
    tCB (fun us H Q=>∃ Hs H0 vs ds es d,us.length=es.length/\SR Hs H0 H (hv us++vs) (hd es++ds)/\g es=.ok d/\∀ v H',SR Hs H0 H' (some v::vs) (some d::ds)->Q v H') (TAF H0 Ex fa) σ H Q:=by
 obtain ⟨Hs,ρ,ts,S,p⟩:=h;refine ⟨Hs,ρ,ts,S,(Post.bind p).imp fun es _ p1 us H1 hl S1=>?_⟩;have hn:=hg es
 cases e:g es with
 |ok d=>rw[e] at p1;exact ⟨Hs,H0,_,_,es,d,hl,SX.held hl S1,e,p1⟩
 |exc C=>rw[e] at hn;cases hn
 |bad=>rw[e] at p1;exact p1.elim
theorem aV{id:String}{x:Str}{p:Pos}{es:List Expr}{g:List D->Res D}{fa:ae->Res (List D)}(hc:FCall X (.builtin id) g)(hn:∀ es,noX (g es)=true)(hg:Gl X x)(hm:X.mg x=none)(hv:bootBuiltins x=some (.builtin id))(ha:FA X H0 Ex (e::es) fa)
    (hn':x ≠ "__name__" := by decide) (hdb:(x == ("__debug__" : Str))=false:=by decide) (h1:starEach (e::es) X.env=(false,eval e X.env)::starEach es X.env:=by rfl) (h2:(backTo pos (starEach es X.env)).any (·.1)=false:=by rfl):FE X H0 Ex (.Call (.Name x p) (e::es) [] pos) (fCB g fa):=
 ⟨PE.pre (pW hc.go hg hm hv ha.go hn' hdb h1 h2) fun _ _ _ h=>vt hn h⟩
end
end Mi
namespace Mi
open PySem PySem.Spec L2
open PyProof.Rows hiding St
inductive FOut where
 |nx (ρ:ae) | rt (d:D) | bk (ρ:ae) | ct (ρ:ae) | exc (C:Value) | bad
def SS(Hs H0 H:Hp)(σ:St)(ρ:ae):Prop:=SR Hs H0 H σ ρ/\noB ρ
def PostS(Hs H0:Hp)(Ex:Value->Prop)(D:Ends)(r:FOut):Prop:=
 match r with
 | .nx ρ=>∀ σ H,SS Hs H0 H σ ρ->D.nx σ H
 | .rt d=>∀ v H,SR Hs H0 H [some v] [some d]->D.rt v H
 | .bk ρ=>∀ σ H,SS Hs H0 H σ ρ->D.bk σ H
 | .ct ρ=>∀ σ H,SS Hs H0 H σ ρ->D.ct σ H
 | .exc C=>Ex C
 | .bad=>False
def TSF(H0:Hp)(Ex:Value->Prop)(g:ae->FOut):TS:=fun D σ H=>∃ Hs ρ,SS Hs H0 H σ ρ/\PostS Hs H0 Ex D (g ρ)
structure FS (X:Cx) (H0:Hp) (Ex:Value->Prop) (st:Stmt) (g:ae->FOut):Prop where
 go:PS X st (TSF H0 Ex g)
structure FSs (X:Cx) (H0:Hp) (Ex:Value->Prop) (st:List Stmt) (g:ae->FOut):Prop where
 go:PSs X st (TSF H0 Ex g)
def aft{α:Type}(r:Res α)(k:α->FOut):FOut:=
 match r with
 | .ok a=>k a
 | .exc C=>.exc C
 | .bad=>.bad
theorem PostS.aft{α:Type}{Hs H0:Hp}{Ex:Value->Prop}{D:Ends}{r:Res α}{k:α->FOut}(h:PostS Hs H0 Ex D (aft r k)):Post Ex r fun a=>PostS Hs H0 Ex D (k a):=by
 cases r with
 |ok a=>exact h
 |exc C=>exact h
 |bad=>exact h
section
variable {X:Cx}{Ex:Value->Prop}{H0:Hp}{e:Expr}{f:ae->Res D}{g g1 g2:ae->FOut}{pos:Pos}{st:Stmt}{sts:List Stmt}
def aP:ae->FOut:=fun ρ=>.nx ρ
def ar(g1 g2:ae->FOut):ae->FOut:=fun ρ=>match g1 ρ with
 | .nx ρ'=>g2 ρ'
 |r=>r
theorem bn:FSs X H0 Ex [] aP:=⟨PSs.pre zn fun D σ H ⟨Hs,ρ,S,p⟩=>p σ H S⟩
theorem zF{H0:Hp}{D:Ends}{σ:St}{H:Hp}(h:TSF H0 Ex (ar g1 g2) D σ H):A7 (TSF H0 Ex g1) (TSF H0 Ex g2) D σ H:=by
 obtain ⟨Hs,ρ,S,p⟩:=h;refine ⟨Hs,ρ,S,?_⟩;unfold ar at p
 cases e:g1 ρ with
 |nx ρ'=>rw[e] at p;exact fun σ' H' S'=>⟨Hs,ρ',S',p⟩
 |rt d=>rw[e] at p;exact p
 |bk ρ'=>rw[e] at p;exact p
 |ct ρ'=>rw[e] at p;exact p
 |exc C=>rw[e] at p;exact p
 |bad=>rw[e] at p;exact p
theorem am(h1:FS X H0 Ex st g1)(h2:FSs X H0 Ex sts g2):FSs X H0 Ex (st::sts) (ar g1 g2):=⟨PSs.pre (xn h1.go h2.go) fun _ _ _ h=>zF h⟩
theorem av(h1:FS X H0 Ex st g1):FSs X H0 Ex [st] g1:=⟨zo h1.go⟩
def dY(f:ae->Res D):ae->FOut:=fun ρ=>aft (f ρ) fun _=>.nx ρ
theorem iA(he:FE X H0 Ex e f)(hs:swapsWith e none pos.line X.env=pure false:=by rfl):FS X H0 Ex (.Expr e pos) (dY f):=by
 refine ⟨PS.pre (kY he.go hs) ?_⟩;rintro D σ H ⟨Hs,ρ,⟨S,n⟩,p⟩;exact ⟨Hs,ρ,[],S,(PostS.aft p).imp fun d _ p1 v H1 S1=>p1 σ H1 ⟨S1.drop,n⟩⟩
def bc(f:ae->Res D):ae->FOut:=fun ρ=>aft (f ρ) fun d=>if d.tag=.b then .bad else .rt d
theorem a7(he:FE X H0 Ex e f):FS X H0 Ex (.Return (some e) pos) (bc f):=by
 refine ⟨PS.pre (uW he.go) ?_⟩;rintro D σ H ⟨Hs,ρ,⟨S,n⟩,p⟩;refine ⟨Hs,ρ,[],S,(PostS.aft p).imp fun d _ p1 v H1 S1=>?_⟩;split at p1
 ·exact p1.elim
 ·exact p1 v H1 (SR.only (vs':=[]) (ds':=[]) S1)
def pI(i:Nat):ae->FOut:=fun ρ=>match ρ[i]? with
 |some (some d)=>.rt d
 |_=>.bad
theorem sk(i:Nat){x:Str}{p':Pos}(h:PV X (.Name x p') i):FS X H0 Ex (.Return (some (.Name x p')) pos) (pI i):=by
 refine ⟨PS.pre (uW h.go) ?_⟩;rintro D σ H ⟨Hs,ρ,⟨S,n⟩,p⟩;unfold pI at p;split at p
 ·rename_i d hd
  obtain ⟨v,hv,S'⟩:=S.move hd (n d (List.mem_of_getElem? hd));exact ⟨v,hv,p v H (SR.only (vs':=[]) (ds':=[]) S')⟩
 ·exact p.elim
def gIf(t:ae->Res Bool)(g1 g2:ae->FOut):ae->FOut:=fun ρ=>aft (t ρ) fun b=>if b=true then g1 ρ else g2 ρ
theorem bX{c:Expr}{a b:List Stmt}{t:ae->Res Bool}(hc:FT X H0 Ex c t)(ha:FSs X H0 Ex a g1)(hb:FSs X H0 Ex b g2):FS X H0 Ex (.If c a b pos) (gIf t g1 g2):=by
 refine ⟨PS.pre (C6 hc.go ha.go hb.go) ?_⟩;rintro D σ H ⟨Hs,ρ,⟨S,n⟩,p⟩;refine ⟨Hs,ρ,[],S,(PostS.aft p).imp fun b _ p1 H1 S1=>?_⟩
 cases b with
 |true=>rw[if_pos rfl] at p1 ⊢;exact ⟨Hs,ρ,⟨S1,n⟩,p1⟩
 |false=>rw[if_neg Bool.false_ne_true] at p1 ⊢;exact ⟨Hs,ρ,⟨S1,n⟩,p1⟩
def aw(i:Nat)(f:ae->Res D):ae->FOut:=fun ρ=>aft (f ρ) fun d=>if d.tag=.b\/ρ.length<=i then .bad else .nx (ρ.set i (some d))
theorem SR.set0{Hs H0 H:Hp}{v:V}{d:D}{σ:St}{ρ:ae}(S:SX Hs H0 H [(v,d)] σ ρ)(t:d.tag≠.b)(n:noB ρ){i:Nat}(hi:i<ρ.length):SS Hs H0 H (σ.set i (some v)) (ρ.set i (some d)):=
 ⟨SR.set S t hi,n.set fun d' e=>by cases e;exact t⟩
theorem zG{H0:Hp}{i:Nat}{D:Ends}{σ:St}{H:Hp}(h:TSF H0 Ex (aw i f) D σ H):xq (TEF H0 Ex f) (pB i) D σ H:=by
 obtain ⟨Hs,ρ,⟨S,n⟩,p⟩:=h;refine ⟨Hs,ρ,[],S,(PostS.aft p).imp fun d _ p1 v H1 S1=>?_⟩;split at p1
 ·exact p1.elim
 ·rename_i hc
  exact p1 _ H1 (SR.set0 S1 (fun z=>hc (.inl z)) n (by omega))
theorem aF{i:Nat}{x:Str}{pos':Pos}(hN:X.N.Nodup)(hi:X.N[i]?=some x)(hx:Loc X.env.scope x)(he:FE X H0 Ex e f)(hs:swapsWith e (some (.Name x pos')) pos.line X.env=pure false:=by rfl)(hf:X.fn x=true\/X.env.scope.names.lookup x=some .local:=by first | exact .inl rfl | exact .inr rfl | assumption) :
    FS X H0 Ex (.Assign [.Name x pos'] e pos) (aw i f):=⟨PS.pre (uZ hN hi hx he.go hs hf) fun _ _ _ h=>zG h⟩
def fFz(f:ae->Res D):ae->Res D:=fun ρ=>f ρ >>= fun d=>if d.tag=.b then .bad else .ok d.fz
theorem aQ(he:FE X H0 Ex e f):FE X H0 Ex e (fFz f):=by
 refine ⟨PE.pre he.go ?_⟩;rintro σ H Q ⟨Hs,ρ,ts,S,p⟩;refine ⟨Hs,ρ,ts,S,(Post.bind p).imp fun d _ p1 v H1 S1=>?_⟩;split at p1
 ·exact p1.elim
 ·rename_i hc
  exact p1 v H1 (SR.frz S1 hc)
def frzAt(i:Nat)(ρ:ae):ae:=match ρ[i]? with
 |some (some d)=>ρ.set i (some d.fz)
 |_=>ρ
theorem SR.frzAt{Hs H0 H:Hp}{σ:St}{ρ:ae}(S:SR Hs H0 H σ ρ)(n:noB ρ)(i:Nat):SS Hs H0 H σ (frzAt i ρ):=by
 unfold Mi.frzAt;split
 ·rename_i d hd
  obtain ⟨v,hv,S'⟩:=S.move hd (n d (List.mem_of_getElem? hd));have S1:=S'.frz (n d (List.mem_of_getElem? hd));have hi:i<ρ.length:=(List.getElem?_eq_some_iff.mp hd).1;have S2:=SR.set S1 (by rw[d.fz_tag];decide) (i:=i) (by simpa using hi);rw[List.set_set] at S2;have hvi:σ.set i (some v)=σ:=by
   obtain ⟨a,b⟩:=List.getElem?_eq_some_iff.mp hv;rw[<- b];exact List.set_getElem_self a
  rw[hvi] at S2;exact ⟨S2,n.set fun d' e=>by cases e;rw[d.fz_tag];decide⟩
 ·exact ⟨S,n⟩
theorem ka(i:Nat)(h:FS X H0 Ex st g):FS X H0 Ex st (fun ρ=>g (frzAt i ρ)):=by
 refine ⟨PS.pre h.go ?_⟩;rintro D σ H ⟨Hs,ρ,⟨S,n⟩,p⟩;exact ⟨Hs,frzAt i ρ,S.frzAt n i,p⟩
end
end Mi
namespace L2
open PySem PySem.Spec PyProof.Rows
def gB(cells:List (Str × Addr)):List (Str × NameKind)->List (Str × Addr)->List (Str × Addr)
 | [],acc=>acc
 | (n,k)::r,acc=>if k == .free then gB cells r ((n,(cells.lookup n).getD 0)::acc) else gB cells r acc
theorem i4{scope:Scope}{env:Env}(h:∀ x∈scope.names,x.2=.free->∃ c,env.cells.lookup x.1=some c):closureFor scope env=pure (gB env.cells scope.names []):=by
 unfold closureFor;have go:∀ (names:List (Str × NameKind)) (acc:List (Str × Addr)),(∀ x∈names,x.2=.free->∃ c,env.cells.lookup x.1=some c) →
     (forIn names acc (fun (x:Str × NameKind) (r:List (Str × Addr))=>(if (x.2 == NameKind.free)=true then (do let y <- cellOf env x.1;pure (ForInStep.yield ((x.1,y)::r))) else pure (ForInStep.yield r):Sem (ForInStep (List (Str × Addr))))):Sem (List (Str × Addr)))=pure (gB env.cells names acc):=by
  intro names;induction names with
  |nil=>intro acc _;rfl
  |cons x r ih=>
   intro acc hx;obtain ⟨n,k⟩:=x;rw[List.forIn_cons];unfold gB
   cases hk:(k == NameKind.free) with
   |false=>
    simp only[hk,Bool.false_eq_true,if_false];exact ih acc fun y hy=>hx y (List.mem_cons_of_mem _ hy)
   |true=>
    obtain ⟨c,hc⟩:=hx (n,k) List.mem_cons_self (by simpa using hk);simp only[hk,if_true,cellOf,hc,Option.getD_some];exact ih _ fun y hy=>hx y (List.mem_cons_of_mem _ hy)
 have:=go scope.names [] h;simpa using this
theorem dz:∀ (names:List (Str × NameKind)) (n:Nat) (acc:List (Str × Addr)),cellsFrom n names acc=cellsFrom n names []++acc
 | [],_,_=>rfl
 | (x,k)::r,n,acc=>by
  unfold cellsFrom;split
  ·rw[dz r (n+1) ((x,n)::acc),dz r (n+1) [(x,n)]]
   simp
  ·exact dz r n acc
theorem gC:∀ (names:List (Str × NameKind)) (n:Nat) {x:Str} {c:Addr},(x,c)∈cellsFrom n names []->(x,NameKind.cell)∈names
 | [],_,_,_,h=>by simp[cellsFrom] at h
 | (y,k)::r,n,x,c,h=>by
  unfold cellsFrom at h;split at h
  ·rename_i hk
   rw[dz] at h;rcases List.mem_append.mp h with h | h
   ·exact List.mem_cons_of_mem _ (gC r (n+1) h)
   ·simp at h
    rw[h.1];have:k=.cell:=by simpa using hk
    rw[this];exact List.mem_cons_self
  ·exact List.mem_cons_of_mem _ (gC r n h)
theorem l4(cells:List (Str × Addr)):∀ (names:List (Str × NameKind)) (acc:List (Str × Addr)) {x:Str} {c:Addr},(x,c)∈gB cells names acc->((x,NameKind.free)∈names/\c=(cells.lookup x).getD 0)\/(x,c)∈acc
 | [],acc,x,c,h=>.inr h
 | (n,k)::r,acc,x,c,h=>by
  unfold gB at h;split at h
  ·rename_i hk
   rcases l4 cells r _ h with ⟨a,b⟩ | h
   ·exact .inl ⟨List.mem_cons_of_mem _ a,b⟩
   ·rcases List.mem_cons.mp h with h | h
    ·cases h
     have:k=.free:=by simpa using hk
     rw[this];exact .inl ⟨List.mem_cons_self,rfl⟩
    ·exact .inr h
  ·rcases l4 cells r _ h with ⟨a,b⟩ | h
   ·exact .inl ⟨List.mem_cons_of_mem _ a,b⟩
   ·exact .inr h
theorem l5(cells:List (Str × Addr)):∀ (names:List (Str × NameKind)) (acc:List (Str × Addr)) {x:Str},((x,NameKind.free)∈names\/∃ c,(x,c)∈acc)->∃ c,(x,c)∈gB cells names acc
 | [],acc,x,h=>by
  rcases h with h | h
  ·simp at h
  ·exact h
 | (n,k)::r,acc,x,h=>by
  unfold gB;split
  ·refine l5 cells r _ ?_
   rcases h with h | ⟨c,h⟩
   ·rcases List.mem_cons.mp h with h | h
    ·cases h;exact .inr ⟨_,List.mem_cons_self⟩
    ·exact .inl h
   ·exact .inr ⟨c,List.mem_cons_of_mem _ h⟩
  ·rename_i hk
   refine l5 cells r _ ?_;rcases h with h | ⟨c,h⟩
   ·rcases List.mem_cons.mp h with h | h
    ·cases h;exact absurd rfl hk
    ·exact .inl h
   ·exact .inr ⟨c,h⟩
theorem i5{α:Type}:∀ {l:List (Str × α)} {x:Str} {c:α},(x,c)∈l->∃ c',l.lookup x=some c'
 | (k,v)::r,x,c,h=>by
  rw[List.lookup_cons]
  cases hb:x == k with
  |true=>exact ⟨v,rfl⟩
  |false=>
   rcases List.mem_cons.mp h with h | h
   ·cases h;simp at hb
   ·exact i5 h
theorem eR{α:Type}:∀ {l:List (Str × α)} {x:Str} {c:α},(l.map (·.1)).Nodup->(x,c)∈l->l.lookup x=some c
 | (k,v)::r,x,c,nd,h=>by
  rw[List.lookup_cons];rw[List.map_cons] at nd;obtain ⟨n1,n2⟩:=List.nodup_cons.mp nd;rcases List.mem_cons.mp h with h1 | h1
  ·cases h1;simp
  ·have:(x == k)=false:=by
      simp only[beq_eq_false_iff_ne];intro e;exact n1 (e ▸ List.mem_map.mpr ⟨_,h1,rfl⟩)
   rw[this];exact eR n2 h1
theorem mD{α:Type}:∀ (l r:List (Str × α)) (x:Str),(l++r).lookup x=(l.lookup x).or (r.lookup x)
 | [],r,x=>by simp
 | (k,v)::l,r,x=>by
  rw[List.cons_append,List.lookup_cons,List.lookup_cons]
  cases hb:x == k with
  |true=>rfl
  |false=>exact mD l r x
def BK(X:Cx)(scope:Scope)(C:Addr)(cells:List (Str × Addr)):Env:=
 { scope:=relabel scope X.env,locals:=C,globals:=X.env.globals,cells:=cells,qual:=X.env.qual,func:=none,code:=X.env.code,frame:=X.env.frame,builtins:=X.env.builtins }
def et(X:Cx)(scope:Scope)(N:List Str)(C:Addr)(cells:List (Str × Addr))(s0:Shared)(H0:Hp)(ex:List Addr)(pn:List (Addr × Obj)):Cx where
 prog:=X.prog
 w:=X.w
 K:=X.K
 mg:=X.mg
 base:=X.base
 A:=X.A
 N:=N
 s₀:=s0
 H₀:=H0
 env:=BK X scope C cells
 outer:=X.stack
 stack:=X.stack
 ex:=ex
 fn:=fun x=>decide (scope.names.lookup x=some .cell)
 calm:=X.calm
 pn:=pn
 xe:=fun _ _=>False
structure CompScope (X:Cx) (scope:Scope) (own:List Str) (cap:List (Str × Nat)):Prop where
 kind:scope.kind=.function
 nd:(scope.names.map (·.1)).Nodup
 free:∀ x∈scope.names,x.2=.free->X.env.kindOf x.1=some .cell\/X.env.kindOf x.1=some .free
 capN:∀ p∈cap,X.N[p.2]?=some p.1/\scope.names.lookup p.1=some .free
 ndN:(own++cap.map (·.1)).Nodup
theorem js{scope:Scope}{env:Env}(x:Str):(relabel scope env).names.lookup x=match scope.names.lookup x with
    |some .free=>if env.scope.kind == ScopeKind.function&&env.kindOf x == some NameKind.cell then some .cell else some .free
    |k=>k:=by
 unfold relabel;show List.lookup x (scope.names.map _)=_;induction scope.names with
 |nil=>rfl
 |cons p r ih=>
  obtain ⟨n,k⟩:=p;rw[List.map_cons,List.lookup_cons,List.lookup_cons];have hfst:(if (k == NameKind.free&&env.scope.kind == ScopeKind.function&&env.kindOf n == some NameKind.cell)=true then (n,NameKind.cell) else (n,k)).1=n:=by split<;>rfl
  show (match x == (if (k == NameKind.free&&env.scope.kind == ScopeKind.function&&env.kindOf n == some NameKind.cell)=true then (n,NameKind.cell) else (n,k)).1 with | true=>some (if (k == NameKind.free&&env.scope.kind == ScopeKind.function&&env.kindOf n == some NameKind.cell)=true then (n,NameKind.cell) else (n,k)).2 | false=>_)=_;rw[hfst]
  cases hx:x == n with
  |false=>exact ih
  |true=>
   have e:x=n:=by simpa using hx
   subst e
   cases k with
   |free=>
    cases hc:(env.scope.kind == ScopeKind.function&&env.kindOf x == some NameKind.cell) with
    |true=>simp only[beq_self_eq_true,Bool.true_and,hc,if_true]
    |false=>simp only[beq_self_eq_true,Bool.true_and,hc,Bool.false_eq_true,if_false]
   |_=>rfl
theorem rN{M:Model}{A:Around}{E:Value->Shared->Prop}{s:Shared}{scope:Scope}{g:Addr}{cl:List (Str × Addr)}{qual:Str}{env:Env}{Q:Env->Shared->Prop}
    (h:∀ h':Heap,h'.Ns s.heap.objs.size (fun _=>none)->(∀ b o,s.heap.get? b=some o->h'.get? b=some o) →
     (∀ x c,(x,c)∈cellsFrom (s.heap.objs.size+1) scope.names []->h'.IsCell c none/\s.heap.objs.size+1<=c)->((cellsFrom (s.heap.objs.size+1) scope.names []).Pairwise fun x y=>x.2≠y.2) →
     Q { scope,locals:=s.heap.objs.size,globals:=g,cells:=cellsFrom (s.heap.objs.size+1) scope.names cl,qual,func:=none,code:=env.code,frame:=env.frame,builtins:=env.builtins } { s with heap:=h' }) :
    wpAny M A (newFunctionEnv scope g cl [] qual none .none (some env)) Q E s:=by
 simp only[newFunctionEnv,Option.isSome_some,if_true];refine wpAny_bind (wpAny_alloc ?_);refine wpAny_bind (wpAny_layCells _ (fun name kind cells=>by cases hkc:kind == NameKind.cell<;>simp[hkc]) _ _ _ _ ?_)
 have ok:=cellsFrom_ok scope.names (s.heap.push { cls:=.type "dict", data:=.dict #[] }) (s.heap.objs.size+1) [] ⟨fun _ _ hm=>(nomatch hm),List.Pairwise.nil⟩ (by rw[Heap.size_push];exact Nat.le_refl _);rw[Heap.size_push] at ok;rw[show ({ s with heap:=s.heap.push { cls:=.type "dict", data:=.dict #[] } }:Shared).heap.objs.size=s.heap.objs.size+1 from Heap.size_push ..]
 refine wpAny_bind (wpAny_pure (wpAny_pure ?_));exact h _ ((Heap.Ns.new s.heap (.type "dict")).keeps (pushCells_keeps _ _)) (fun b o e=>pushCells_keeps _ _ b o (Heap.get?_push_of_some _ e)) (fun x c m=>ok.empty x c m) ok.apart
section
variable {X:Cx}{pins:List (Addr × Obj)}{σ:St}{H:Hp}{s:Shared}{scope:Scope}{own:List Str}{cap:List (Str × Nat)}
abbrev fF(X:Cx)(scope:Scope)(n:Nat):List (Str × Addr):=cellsFrom (n+1) scope.names (gB X.env.cells scope.names [])
theorem cM(I:Inv X pins σ H s)(S:CompScope X scope own cap){n:Nat}{x:Str}{c:Addr}(h:(fF X scope n).lookup x=some c) :
    ((x,c)∈cellsFrom (n+1) scope.names []/\scope.names.lookup x=some .cell)\/(scope.names.lookup x=some .free/\X.env.cells.lookup x=some c):=by
 unfold fF at h;rw[dz,mD] at h
 cases e:(cellsFrom (n+1) scope.names []).lookup x with
 |some c'=>
  rw[e] at h
  cases h
  have m:=PySem.mem_of_lookup e;exact .inl ⟨m,eR S.nd (gC _ _ m)⟩
 |none=>
  rw[e] at h;have h:(gB X.env.cells scope.names []).lookup x=some c:=h;rcases l4 _ _ _ (PySem.mem_of_lookup h) with ⟨a,b⟩ | a
  ·have hk:=eR S.nd a
   obtain ⟨c',hc'⟩:=I.ok.has x (S.free _ a rfl);rw[hc'] at b;exact .inr ⟨hk,by rw[hc',b];rfl⟩
  ·simp at a
theorem lK(I:Inv X pins σ H s)(S:CompScope X scope own cap){n:Nat}{x:Str}(h:scope.names.lookup x=some .free):∃ c,(fF X scope n).lookup x=some c/\X.env.cells.lookup x=some c:=by
 have m:=PySem.mem_of_lookup h;obtain ⟨c,hc⟩:=l5 X.env.cells scope.names [] (.inl m);obtain ⟨c',hc'⟩:=i5 (l:=fF X scope n) (x:=x) (c:=c) (by unfold fF;rw[dz];exact List.mem_append_right _ hc);rcases cM I S hc' with ⟨_,k⟩ | ⟨_,k⟩
 ·rw[h] at k;cases k
 ·exact ⟨c',hc',k⟩
theorem xH{H3:Hp}{h3:Heap}(I:Inv X pins σ H s)(I3:Inv X pins σ H3 { s with heap:=h3 })(kp3:∀ b o,s.heap.get? b=some o->h3.get? b=some o)(S:CompScope X scope own cap){fp:List Addr}(u3:Un (frs X.stack) fp H H3 s.heap h3)
    (hf:∀ b∈fp,gw X pins H b) (he:∀ b∈fp,∃ o,s.heap.get? b=some o) {h':Heap}
    (ns:h'.Ns h3.objs.size (fun _=>none)) (kp:∀ b o,h3.get? b=some o->h'.get? b=some o)
    (cl:∀ x c,(x,c)∈cellsFrom (h3.objs.size+1) scope.names []->h'.IsCell c none/\h3.objs.size+1<=c) (ap:(cellsFrom (h3.objs.size+1) scope.names []).Pairwise fun x y=>x.2≠y.2) (hle:s.heap.objs.size<=h3.objs.size) :
    Inv (et X scope (own++cap.map (·.1)) h3.objs.size (fF X scope h3.objs.size) s H fp (X.pn++pins)) [] (List.replicate own.length none++cap.map fun p=>(σ[p.2]?).join) H3 { s with heap:=h' }:=by
 have low:∀ x c,X.env.cells.lookup x=some c->c<s.heap.objs.size:=fun x c e=>let ⟨v,q⟩:=I.cell x c e;q.lt;have fresh:∀ a,h3.objs.size<=a->H3 a=none:=fun a h=>I3.hok.fresh h;have notStk:∀ b,b≠X.env.locals->b∉X.fs->b∉frs X.stack:=fun b h1 h2 m=>by
  rcases List.mem_cons.mp (I.stkSub b m) with e | e
  ·exact h1 e
  ·exact h2 e
 refine ⟨⟨I.ok.mod,S.kind,I.ok.glob,I.ok.blt,hle,fun x y c h1 h2=>?_,fun x hx=>?_,fun x c hx h1=>?_,I.ok.hd,I.ok.frames,.inl rfl,fun b hb=>⟨?_,fun x c h1 z=>?_⟩,fun b o e=>I.bs b o e,Nat.le_trans I.ok.bsz I.sz,fun b o e hb=>?_,fun b hb=>?_,I.stack,fun b hb=>I.stkFree b hb⟩,
  rfl,I.bare,u3.trans (Un.kept kp),⟨_,ns,fun i x v h1 h2 hv3=>?_⟩,fun x c h1=>?_,fresh _ (Nat.le_refl _),fun x c h1=>?_,fun p hp=>?_,I3.hok.kept kp,?_⟩
 ·
  rcases cM I S h1 with ⟨m1,k1⟩ | ⟨k1,c1⟩ <;> rcases cM I S h2 with ⟨m2,k2⟩ | ⟨k2,c2⟩
  ·exact name_of_addr ap m1 m2
  ·exact absurd (Nat.lt_of_lt_of_le (low y c c2) hle) (Nat.not_lt.mpr (Nat.le_of_succ_le (cl x c m1).2))
  ·exact absurd (Nat.lt_of_lt_of_le (low x c c1) hle) (Nat.not_lt.mpr (Nat.le_of_succ_le (cl y c m2).2))
  ·exact I.ok.inj x y c c1 c2
 ·have hx:(relabel scope X.env).names.lookup x=some .cell\/(relabel scope X.env).names.lookup x=some .free:=hx
  rw[js] at hx
  cases e:scope.names.lookup x with
  |none=>rw[e] at hx;simp at hx
  |some k=>
   cases k with
   |free=>obtain ⟨c,a,_⟩:=lK (n:=h3.objs.size) I S e;exact ⟨c,a⟩
   |cell=>
    have q:=PySem.W.cellsFrom_some scope.names (h3.objs.size+1) (gB X.env.cells scope.names []) (.inl e);exact Option.isSome_iff_exists.mp q
   |_=>rw[e] at hx;simp at hx
 ·have hx:scope.names.lookup x=some .cell:=of_decide_eq_true hx
  rcases cM I S h1 with ⟨m1,k1⟩ | ⟨k1,c1⟩
  ·show s.heap.objs.size<=c
   have:=(cl x c m1).2;omega
  ·rw[hx] at k1;cases k1
 ·obtain ⟨o,e⟩:=he b hb
  exact Nat.ne_of_lt (Nat.lt_of_lt_of_le (Heap.lt_size e) hle)
 ·subst z
  rcases cM I S h1 with ⟨m1,k1⟩ | ⟨k1,c1⟩
  ·obtain ⟨o,e⟩:=he c hb
   exact absurd (Nat.lt_of_lt_of_le (Heap.lt_size e) hle) (Nat.not_lt.mpr (Nat.le_of_succ_le (cl x c m1).2))
  ·exact (hf c hb).2.2.2.2.1 x c c1 rfl
 ·rcases (hf b hb).2.2.2.1 with z | z
  ·exact I.ok.noex b o e z
  ·exact absurd (Nat.lt_of_lt_of_le (Heap.lt_size e) (Nat.le_trans I.ok.bsz z)) (Nat.lt_irrefl _)
 ·exact notStk b (hf b hb).2.1 (hf b hb).2.2.1
 ·
  by_cases hi:i<own.length
  ·rw[List.getElem?_append_left (by simpa using hi),List.getElem?_replicate] at h2
   split at h2<;>cases h2
  ·rw[List.getElem?_append_right (by simpa using hi)] at h2
   have h1:(own++cap.map (·.1))[i]?=some x:=h1;rw[List.getElem?_append_right (by omega)] at h1;rw[List.length_replicate] at h2;rw[List.getElem?_map] at h1 h2
   cases e:cap[i - own.length]? with
   |none=>rw[e] at h1;cases h1
   |some p=>
    rw[e] at h1 h2;have e1:p.1=x:=Option.some.inj h1;subst e1;have e2:(σ[p.2]?).join=some v:=Option.some.inj h2;obtain ⟨hN,hk⟩:=S.capN p (List.mem_of_getElem? e);have e3:σ[p.2]?=some (some v):=by
     cases q:σ[p.2]? with
     |none=>rw[q] at e2;cases e2
     |some o=>rw[q] at e2;rw[show o=some v from e2]
    obtain ⟨c,a1,a2⟩:=lK (n:=h3.objs.size) I S hk;have hvis:X.env.kindOf p.1=some .cell\/X.env.kindOf p.1=some .free:=S.free _ (PySem.mem_of_lookup hk) rfl;obtain ⟨m,hn,hl⟩:=I.loc;obtain ⟨u,r,l⟩:=hl p.2 p.1 v hN e3 (by rcases hvis with z | z;exact .inr (.inl z);exact .inr (.inr z));refine ⟨u,r,.inr ⟨?_,c,a1,?_⟩⟩
    ·show (relabel scope X.env).names.lookup p.1=some .cell\/(relabel scope X.env).names.lookup p.1=some .free
     rw[js,hk]
     cases hb:(X.env.scope.kind == ScopeKind.function&&X.env.kindOf p.1 == some NameKind.cell) with
     |true=>exact .inl (by simp[hb])
     |false=>exact .inr (by simp[hb])
    ·rcases l with ⟨z,_⟩ | ⟨_,c',b1,b2⟩
     ·rcases hvis with y | y<;>rw[y] at z<;>cases z
     ·rw[a2] at b1
      cases b1
      exact (b2.keeps kp3).keeps kp
 ·rcases cM I S h1 with ⟨m1,k1⟩ | ⟨k1,c1⟩
  ·exact ⟨none,(cl x c m1).1⟩
  ·obtain ⟨v,q⟩:=I.cell x c c1
   exact ⟨v,(q.keeps kp3).keeps kp⟩
 ·rcases cM I S h1 with ⟨m1,k1⟩ | ⟨k1,c1⟩
  ·exact fresh c (by have:=(cl x c m1).2;omega)
  ·exact I3.freeC x c c1
 ·have hp:p∈(X.pn++pins)++[]:=hp
  rw[List.append_nil] at hp;obtain ⟨a,b,c,d,e⟩:=I3.pin p hp;exact ⟨kp _ _ a,b,Nat.ne_of_lt (Heap.lt_size a),notStk _ c d,e⟩
 ·show _=(own++cap.map (·.1)).length
  simp
end
section
variable {prog:Program}{w:World}{A:Around}{R:Result->Shared->Prop}{s:Shared}
theorem vu{elt target iter:Expr}{ifs:List Expr}{scope:Scope}{pos:Pos}{it acc:Value}{env:Env}(I:Nat->Shared->Prop)
    (turn:∀ n s,I n s->wpAny (model prog w) A (pyNext it) (fun r s₁=>match r with
     |none=>R (.ok .next) s₁
     |some v=>wpAny (model prog w) A (letOwnedTupleGo target it v) (fun _ s₁'=>wpAny (model prog w) A (assign target env v) (fun _ s₂=>
         wpAny (model prog w) A (forIn ifs true fun c r=>if r=true then do let ok <- isTrue c env (eval c env);pure (ForInStep.yield ok) else pure (ForInStep.yield r)) (fun ok s₃=>
          if ok=true then wpAny (model prog w) A (eval elt env) (fun x s₄=>
           wpAny (model prog w) A (call (.builtin "list.append") [acc,x]) (fun _ s₅=>∃ m,m<n/\I m s₅) (fun _ _=>False) s₄) (fun _ _=>False) s₃
          else ∃ m,m<n/\I m s₃) (fun _ _=>False) s₂) (fun _ _=>False) s₁') (fun _ _=>False) s₁) (fun _ _=>False) s)
    (n:Nat) (h:I n s):codeAny (model prog w) A (.compLoop (.ListComp elt [⟨target,iter,ifs,0⟩] scope pos) 0 it acc env) R s:=by
 refine codeAny_loop rfl I (fun n s hI=>?_) n h;show wpAny _ A ((compTurn (.ListComp elt [⟨target,iter,ifs,0⟩] scope pos) 0 it acc env).onRaise (fun x=>do noteFrame x env;theTreesLotGoes x)) _ _ s;refine wpAny_noted ?_;rw[compTurn_list];refine wpAny_bind (wpAny_standAt (wpAny_bind (wpAny_mono (turn n s hI) (fun r s₁ h₁=>?_) fun _ _ h'=>h'.elim)))
 cases r with
 |none=>exact wpAny_pure h₁
 |some v=>
  refine wpAny_bind (wpAny_mono h₁ (fun _ s₁' h₁'=>?_) fun _ _ h'=>h'.elim);refine wpAny_bind (wpAny_mono h₁' (fun _ s₂ h₂=>wpAny_bind (wpAny_mono h₂ (fun ok s₃ h₃=>?_) fun _ _ h'=>h'.elim)) fun _ _ h'=>h'.elim)
  cases ok with
  |false=>exact wpAny_pure ⟨rfl,h₃⟩
  |true=>
   exact wpAny_bind (wpAny_bind (wpAny_mono h₃ (fun x s₄ h₄=>wpAny_bind (wpAny_mono h₄ (fun _ s₅ h₅=>wpAny_pure (wpAny_pure ⟨rfl,h₅⟩)) fun _ _ h'=>h'.elim)) fun _ _ h'=>h'.elim))
end
end L2
namespace Mi
open PySem PySem.Spec L2
open PyProof.Rows hiding St
def Yl(B H:Hp)(x:V)(H':Hp)(d:D):Prop:=d.tag=.f/\((H'=H/\Rep B x d)\/∃ p us ds,H p=none/\H'=upd H p (.tup us)/\x=.ref p/\d=.tup ds/\Reps B us ds)
def gD(J:It)(B:Hp)(items:List D):Prop:=∀ H,Same B H->∀ i,(∀ d,items[i]?=some d->J.go i H/\∀ x H',J.yld i H x H'->Yl B H x H' d)/\(i=items.length->J.stop i H)
def TIF(H0:Hp)(Ex:Value->Prop)(fi:ae->Res (List D)):TI:=fun σ H R=>∃ Hs ρ ts,SX Hs H0 H ts σ ρ ∧
 Post Ex (fi ρ) fun items=>∀ J H' Hf fp,gD J Hf items->Own Hf H' fp (tvs ts++σ) (tds ts++ρ)->Fine Hs H0 Hf H' fp->R J H'
structure FI (X:Cx) (H0:Hp) (Ex:Value->Prop) (tg iter:Expr) (fi:ae->Res (List D)):Prop where
 go:PI X tg iter (TIF H0 Ex fi)
theorem PI.pre{X:Cx}{tg e:Expr}{t t':TI}(h:PI X tg e t)(i:∀ σ H Q,t' σ H Q->t σ H Q):PI X tg e t':=fun pins s σ H Q I q=>h pins s σ H Q I (i σ H Q q)
def TGF(H0:Hp)(gt:D->ae->Res ae):TG:=fun v σ H Q=>∃ Hs ρ d ts,SX Hs H0 H ((v,d)::ts) σ ρ/\d.tag≠.b/\noB ρ/\Post (fun _=>False) (gt d ρ) fun ρ'=>∀ σ',SX Hs H0 H ts σ' ρ'->noB ρ'->Q σ' H
structure FG (X:Cx) (H0:Hp) (tg:Expr) (gt:D->ae->Res ae):Prop where
 go:PG X tg (TGF H0 gt)
structure MG (X:Cx) (tg:Expr) (i:Nat):Prop where
 go:PG X tg (pB i)
structure Po (X:Cx):Prop where
 go:PassesOwn (model X.prog X.w) X.A X.env X.xe
theorem PG.pre{X:Cx}{tg:Expr}{t t':TG}(h:PG X tg t)(i:∀ v σ H Q,t' v σ H Q->t v σ H Q):PG X tg t':=fun pins s σ H v u Q I r q=>h pins s σ H v u Q I r (i v σ H Q q)
theorem gX{α:Type}:∀ (l r:List α) (i:Nat) (x:α),(l++r).set (l.length+i) x=l++r.set i x
 | [],r,i,x=>by simp
 |a::l,r,i,x=>by
  have e:(a::l).length+i=(l.length+i)+1:=by simp;omega
  rw[e,List.cons_append,List.set_cons_succ,gX l r i x];rfl
theorem SX.set{Hs H0 H:Hp}{v:V}{d:D}{ts:List (V × D)}{σ:St}{ρ:ae}(S:SX Hs H0 H ((v,d)::ts) σ ρ)(t:d.tag≠.b){i:Nat}(hi:i<ρ.length):SX Hs H0 H ts (σ.set i (some v)) (ρ.set i (some d)):=by
 have S':SR Hs H0 H (some v::(tvs ts++σ)) (some d::(tds ts++ρ)):=S;have:=SR.set S' t (i:=(tds ts).length+i) (by rw[List.length_append];omega);rw[gX,lf,<- ld ts,gX] at this;exact this
section
variable {X:Cx}{Ex:Value->Prop}{H0:Hp}{e iter tg:Expr}{f:ae->Res D}{pos:Pos}
def au(i:Nat):D->ae->Res ae:=fun d ρ=>if ρ.length<=i then .bad else .ok (ρ.set i (some d))
theorem aO{i:Nat}{x:Str}(hN:X.N.Nodup)(hi:X.N[i]?=some x)(hx:Loc X.env.scope x)(hf:X.fn x=true\/X.env.scope.names.lookup x=some .local:=by first | exact .inl rfl | exact .inr rfl | assumption):FG X H0 (.Name x pos) (au i):=by
 refine ⟨PG.pre (rV hN hi hx hf) ?_⟩;rintro v σ H Q ⟨Hs,ρ,d,ts,S,t,n,p⟩;unfold au at p;split at p
 ·exact p.elim
 ·exact p _ (SX.set S t (by omega)) (n.set fun d' e=>by cases e;exact t)
def iB:List Nat->List D->ae->Res ae
 | [],[],ρ=>.ok ρ
 |i::is,d::ds,ρ=>if ρ.length<=i then .bad else iB is ds (ρ.set i (some d.asF))
 |_,_,_=>.bad
def bG(is:List Nat):D->ae->Res ae:=fun d ρ=>match d with
 | .tup ds=>iB is ds ρ
 |_=>.bad
def Ej(H0:Hp)(is:List Nat):TGs:=fun vs σ H Q=>∃ Hs Hf fp ρ ds ts,Own Hf H fp (tvs ts++σ) (tds ts++ρ)/\Fine Hs H0 Hf H fp/\Reps Hf vs ds/\noB ρ/\Post (fun _=>False) (iB is ds ρ) fun ρ'=>∀ σ',SX Hs H0 H ts σ' ρ'->noB ρ'->Q σ' H
structure FGs (X:Cx) (H0:Hp) (es:List Expr) (is:List Nat):Prop where
 go:PGs X es (Ej H0 is)
theorem cL{i:Nat}{x:Str}(hN:X.N.Nodup)(hi:X.N[i]?=some x)(hx:Loc X.env.scope x)(hf:X.fn x=true\/X.env.scope.names.lookup x=some .local:=by first | exact .inl rfl | exact .inr rfl | assumption):MG X (.Name x pos) i:=⟨rV hN hi hx hf⟩
theorem fQ:FGs X H0 [] []:=by
 refine ⟨?_⟩;intro pins s σ H vs us Q I r h;refine zq pins s σ H vs us Q I r ?_;obtain ⟨Hs,Hf,fp,ρ,ds,ts,O,F,R,n,p⟩:=h
 cases R with
 |nil=>exact ⟨rfl,p σ ⟨Hf,fp,O,F⟩ n⟩
 |cons a b=>exact p.elim
theorem cg{i:Nat}{is:List Nat}{x:Str}{p:Pos}{es:List Expr}(h1:MG X (.Name x p) i)(h2:FGs X H0 es is)
    (hs:(assignEach (.Name x p::es) X.env).map (·.2)=assign (.Name x p) X.env::(assignEach es X.env).map (·.2):=by rfl):FGs X H0 (.Name x p::es) (i::is):=by
 refine ⟨?_⟩;intro pins s σ H vs us Q I r h;refine xp h1.go h2.go hs pins s σ H vs us Q I r ?_;obtain ⟨Hs,Hf,fp,ρ,ds,ts,O,F,R,n,p⟩:=h
 cases R with
 |nil=>exact p.elim
 |cons a b=>
  rename_i v d vs ds;unfold iB at p;split at p
  ·exact p.elim
  ·rename_i hi
   refine ⟨v,vs,rfl,?_⟩;obtain ⟨fp',O',fp2,pm,sl⟩:=Own.put (.fz a.asF d.asF_tag) O (i:=(tds ts).length+i) (by rw[List.length_append];omega);rw[gX,lf,<- ld ts,gX] at O';exact ⟨Hs,Hf,fp',_,ds,ts,O',(F.subl sl).perm (by simpa using pm),b,n.set fun d' e=>by cases e;rw[d.asF_tag];decide,p⟩
theorem gY{es:List Expr}{k:Nat}{is:List Nat}(hc:X.calm=true)(h:FGs X H0 es is)(hn:(assignEach es X.env).length=is.length:=by rfl)(hst:(assignEach es X.env).findIdx? (·.1)=none:=by rfl):FG X H0 (.Tuple es k pos) (bG is):=by
 refine ⟨PG.pre (A9 hc h.go hn hst) ?_⟩;rintro v σ H Q ⟨Hs,ρ,d,ts,S,t,n,p⟩;unfold bG at p;split at p
 ·rename_i ds
  obtain ⟨Hf,fp,O,F⟩:=S
  cases O with
  |brw z h r=>exact absurd z t
  |cons h r=>
   cases h with
   |fz h z=>
    cases h with
    |tup h q=>
     refine ⟨_,_,rfl,SqT.of (F.fh _ _ h),?_,Hs,Hf,_,ρ,ds,ts,r,F.subl (List.sublist_append_right _ _),q,n,p⟩;rw[q.length];have:∀ (is:List Nat) (ds:List D) (ρ:ae) {Ex:Value->Prop} {k:ae->Prop},Post Ex (iB is ds ρ) k->ds.length=is.length:=by
      intro is;induction is with
      |nil=>intro ds ρ Ex k h;cases ds with | nil=>rfl | cons a b=>exact h.elim
      |cons i is ih=>
       intro ds ρ Ex k h
       cases ds with
       |nil=>exact h.elim
       |cons a b=>
        unfold iB at h;split at h
        ·exact h.elim
        ·simp[ih b _ h]
     exact this is ds ρ p
 ·exact p.elim
theorem BL{K:PySem.W.Frag}{B:Hp}{a:Addr}{us:List V}{ds:List D}(h:B a=some (.lst us))(R:Reps B us ds)(t:∀ e∈ds,e.tag=.f):gD (Itl K a) B ds:=by
 intro H s i;have hl:=R.length;refine ⟨fun d hd=>?_,fun hi=>⟨us,SqL.of (s _ _ h),by omega⟩⟩;obtain ⟨u,hu,ru⟩:=R.get hd;refine ⟨⟨us,u,SqL.of (s _ _ h),hu⟩,fun x H' ⟨e,y⟩=>⟨t d (List.mem_of_getElem? hd),.inl ⟨e,?_⟩⟩⟩;have:=y us (SqL.of (s _ _ h));rw[hu] at this
 cases this
 exact ru
def aD(lo:Int)(n:Nat):List D:=(List.range n).map fun (i:Nat)=>D.int (lo+(i:Int))
theorem vv{lo:Int}{n:Nat}{B:Hp}:gD (Itr lo n) B (aD lo n):=by
 intro H s i;refine ⟨fun d hd=>?_,fun hi=>(show n<=i from Nat.le_of_eq (by simpa [aD] using hi.symm))⟩;simp only[aD,List.getElem?_map] at hd
 cases e:(List.range n)[i]? with
 |none=>rw[e] at hd;cases hd
 |some j=>
  rw[e] at hd;obtain ⟨h1,h2⟩:=List.getElem?_eq_some_iff.mp e;simp at h1 h2;subst h2;have hd:D.int (lo+(i:Int))=d:=Option.some.inj hd;subst hd;exact ⟨h1,fun x H' ⟨e1,e2⟩=>⟨rfl,.inl ⟨e1,by rw[e2];exact .int⟩⟩⟩
def b7(fa:ae->Res (List D)):ae->Res (List D):=fun ρ=>fa ρ >>= fun es=>match es with
 | [.int j]=>if decide (-(2 ^ 62)<=j)&&decide (j<2 ^ 62) then .ok (aD 0 j.toNat) else .bad
 |_=>.bad
def iK(fa:ae->Res (List D)):ae->Res (List D):=fun ρ=>fa ρ >>= fun es=>match es with
 | [.int i,.int j]=>if decide (-(2 ^ 62)<=i)&&decide (i<2 ^ 62)&&decide (-(2 ^ 62)<=j)&&decide (j<2 ^ 62) then .ok (aD i (j - i).toNat) else .bad
 |_=>.bad
theorem cW{a:Expr}{p:Pos}{fa:ae->Res (List D)}(hg:Gl X "range")(hm:X.mg "range" = none)(ha:FA X H0 Ex [a] fa)(hs:starEach [a] X.env=[(false,eval a X.env)]:=by rfl):FI X H0 Ex tg (.Call (.Name "range" p) [a] [] pos) (b7 fa):=by
 refine ⟨PI.pre (u7 hg hm ha.go hs) ?_⟩;rintro σ H R ⟨Hs,ρ,ts,S,p⟩;refine ⟨Hs,ρ,ts,S,(Post.bind p).imp fun es _ p1 us H1 hl S1=>?_⟩;split at p1
 ·rename_i j _
  split at p1
  ·rename_i hc
   simp at hc;obtain ⟨u,rfl⟩:∃ u,us=[u]:=by
    cases us with
    |nil=>simp at hl
    |cons u r=>cases r with | nil=>exact ⟨u,rfl⟩ | cons _ _=>simp at hl
   have S2:=SX.held hl S1;simp[hv,hd] at S2
   cases SR.isInt S2
   obtain ⟨Hf,fp,O,F⟩:=S2.drop;exact ⟨j,rfl,by omega,by omega,p1 _ H1 Hf fp vv O F⟩
  ·exact p1.elim
 ·exact p1.elim
theorem i6{a b:Expr}{p:Pos}{fa:ae->Res (List D)}(hg:Gl X "range")(hm:X.mg "range" = none)(ha:FA X H0 Ex [a,b] fa)(hs:starEach [a,b] X.env=[(false,eval a X.env),(false,eval b X.env)]:=by rfl)(hs2:starEach [b] X.env=[(false,eval b X.env)]:=by rfl):FI X H0 Ex tg (.Call (.Name "range" p) [a,b] [] pos) (iK fa):=by
 refine ⟨PI.pre (u8 hg hm ha.go hs hs2) ?_⟩;rintro σ H R ⟨Hs,ρ,ts,S,p⟩;refine ⟨Hs,ρ,ts,S,(Post.bind p).imp fun es _ p1 us H1 hl S1=>?_⟩;split at p1
 ·rename_i i j _
  split at p1
  ·rename_i hc
   simp at hc;obtain ⟨u,w,rfl⟩:∃ u w,us=[u,w]:=by
    cases us with
    |nil=>simp at hl
    |cons u r=>cases r with | nil=>simp at hl | cons w r=>cases r with | nil=>exact ⟨u,w,rfl⟩ | cons _ _=>simp at hl
   have S2:=SX.held hl S1;simp[hv,hd] at S2
   cases SR.isInt S2
   cases SR.isInt S2.drop
   obtain ⟨Hf,fp,O,F⟩:=S2.drop.drop;exact ⟨i,j,rfl,by omega,p1 _ H1 Hf fp vv O F⟩
  ·exact p1.elim
 ·exact p1.elim
def bo(gt:D->ae->Res ae)(gb:ae->FOut):List D->ae->FOut
 | [],ρ=>.nx ρ
 |x::xs,ρ=>match gt x ρ with
  | .ok ρ1=>match gb ρ1 with
   | .nx ρ2=>bo gt gb xs ρ2
   | .ct ρ2=>bo gt gb xs ρ2
   | .bk ρ2=>.nx ρ2
   |r=>r
  |_=>.bad
def bA(fi:ae->Res (List D))(gt:D->ae->Res ae)(gb:ae->FOut):ae->FOut:=fun ρ=>aft (fi ρ) fun items=>bo gt gb items ρ
theorem SR.base{Hs H0 Hf H1 H:Hp}{fp:List Addr}{vs:List (Option V)}{ds:List (Option D)}(F:Fine Hs H0 Hf H1 fp)(S:SR Hf H0 H vs ds):SR Hs H0 H vs ds:=by
 obtain ⟨Hg,fq,O,G⟩:=S;refine ⟨Hg,fq,O,G.nd,G.own,G.fh,G.zh,F.sf.trans G.sf,fun a o e=>?_⟩;rcases G.new a o e with ⟨o',z⟩ | z
 ·exact F.new a o' z
 ·exact .inr z
theorem PostS.base{Hs H0 Hf H1:Hp}{fp:List Addr}(F:Fine Hs H0 Hf H1 fp){D:Ends}{r:FOut}(p:PostS Hs H0 Ex D r):PostS Hf H0 Ex D r:=by
 cases r with
 |nx ρ=>exact fun σ H S=>p σ H ⟨SR.base F S.1,S.2⟩
 |rt d=>exact fun v H S=>p v H (SR.base F S)
 |bk ρ=>exact fun σ H S=>p σ H ⟨SR.base F S.1,S.2⟩
 |ct ρ=>exact fun σ H S=>p σ H ⟨SR.base F S.1,S.2⟩
 |exc C=>exact p
 |bad=>exact p
theorem SR.re{Hs H0 Hf H:Hp}{fp:List Addr}{vs:List (Option V)}{ds:List (Option D)}(O:Own Hf H fp vs ds)(F:Fine Hs H0 Hf H fp):SR Hf H0 H vs ds:=
 ⟨Hf,fp,O,F.nd,F.own,F.fh,F.zh,Same.refl _,fun a o e=>.inl ⟨o,e⟩⟩
theorem SR.yl{B H0 H H':Hp}{vs:List (Option V)}{ds:List (Option D)}{x:V}{d:D}(S:SR B H0 H vs ds)(y:Yl B H x H' d):SR B H0 H' (some x::vs) (some d::ds):=by
 obtain ⟨t,y⟩:=y;obtain ⟨Hf,fp,O,F⟩:=S;rcases y with ⟨rfl,r⟩ | ⟨p,us,es,hp,rfl,rfl,rfl,R⟩
 ·exact ⟨Hf,[]++fp,.cons (.fz (r.mono F.sf) t) O,F⟩
 ·have sf:Same Hf (upd Hf p (.tup us)):=fun b o e=>by rw[aR (bC e (F.fresh hp).1)];exact e
  exact SR.laidF O F hp (.tup bP ((R.mono F.sf).mono sf)) rfl
theorem bZ{body:List Stmt}{fi:ae->Res (List D)}{gt:D->ae->Res ae}{gb:ae->FOut}(hp:Po X)(hc:X.calm=true)(hi:FI X H0 Ex tg iter fi)(hg:FG X H0 tg gt)(hb:FSs X H0 Ex body gb)
    (hs:∀ x,foldedSetIterable iter X.env x=pure x:=by intro _;rfl):FS X H0 Ex (.For tg iter body [] pos) (bA fi gt gb):=by
 refine ⟨PS.pre (Bc hp.go hc hi.go hg.go hb.go hs) ?_⟩;rintro D σ H ⟨Hs,ρ,⟨S,n⟩,p⟩;refine ⟨Hs,ρ,[],S,(PostS.aft p).imp fun items _ p1 J H1 Hf fp ok O F=>?_⟩;have p2:=PostS.base F p1;refine ⟨fun i m σ H=>m=items.length - i/\i<=items.length/\∃ ρ',SS Hf H0 H σ ρ'/\PostS Hf H0 Ex D (bo gt gb (items.drop i) ρ'),⟨items.length,by simp,Nat.zero_le _,ρ,⟨SR.re O F,n⟩,by simpa using p2⟩,?_⟩
 rintro i m σ H ⟨rfl,hi,ρ',⟨S,n⟩,p⟩;have sH:Same Hf H:=let ⟨_,_,_,G⟩:=S;G.sf.trans G.fh;obtain ⟨h1,h2⟩:=ok H sH i;by_cases hlt:i<items.length
 ·have hd:items[i]?=some items[i]:=by simp[hlt]
  obtain ⟨go,yl⟩:=h1 _ hd;have hdrop:items.drop i=items[i]::items.drop (i+1):=List.drop_eq_getElem_cons hlt;rw[hdrop] at p;unfold bo at p;refine .inr ⟨go,fun σ' H'=>∃ ρ2,SS Hf H0 H' σ' ρ2/\PostS Hf H0 Ex D (bo gt gb (items.drop (i+1)) ρ2),fun σ' H' ⟨ρ2,S2,q2⟩=>⟨items.length - (i+1),by omega,rfl,hlt,ρ2,S2,q2⟩,fun x H' y=>?_⟩;have S':=SR.yl S (yl x H' y)
  have t:items[i].tag≠.b:=by rw[(yl x H' y).1];decide
  refine ⟨Hf,ρ',items[i],[],S',t,n,?_⟩
  cases e:gt items[i] ρ' with
  |exc C=>rw[e] at p;exact p.elim
  |bad=>rw[e] at p;exact p.elim
  |ok ρ1=>
   rw[e] at p;intro σ1 S1 n1;refine ⟨Hf,ρ1,⟨S1,n1⟩,?_⟩;dsimp only at p
   cases e2:gb ρ1 with
   |nx ρ2=>rw[e2] at p;exact fun σ2 H2 S2=>⟨ρ2,S2,p⟩
   |ct ρ2=>rw[e2] at p;exact fun σ2 H2 S2=>⟨ρ2,S2,p⟩
   |bk ρ2=>rw[e2] at p;exact p
   |rt d=>rw[e2] at p;exact p
   |exc C=>rw[e2] at p;exact p
   |bad=>rw[e2] at p;exact p
 ·have e:i=items.length:=by omega
  subst e;rw[List.drop_length] at p;exact .inl ⟨h2 rfl,p σ H ⟨S,n⟩⟩
end
structure FTs (X:Cx) (H0:Hp) (ifs:List Expr) (ft:ae->Res Bool):Prop where
 go:∀ (pins:List (Addr × Obj)) (s:Shared) (σ:St) (H:Hp) (Q:Bool->Hp->Prop),Inv X pins σ H s->TTF H0 (fun _=>False) ft σ H Q →
 wpAny (model X.prog X.w) X.A (forIn ifs true fun c r=>if r=true then do let ok <- isTrue c X.env (eval c X.env);pure (ForInStep.yield ok) else pure (ForInStep.yield r)) (TP X pins σ Q) X.xe s
def aM:ae->Res Bool:=fun _=>.ok true
theorem bW{X:Cx}:FTs X H0 [] aM:=by
 refine ⟨?_⟩;intro pins s σ H Q I h;obtain ⟨Hs,ρ,ts,S,p⟩:=h;exact wpAny_tests_nil ⟨H,I,p H S⟩
theorem zH{X:Cx}{c:Expr}{ft:ae->Res Bool}(h:FT X H0 (fun _=>False) c ft):FTs X H0 [c] ft:=⟨fun pins s σ H Q I q=>wpAny_tests_one (h.go pins s σ H Q I q)⟩
def bH(gt:D->ae->Res ae)(ft:ae->Res Bool)(fe:ae->Res D):List D->ae->List D->Res (List D)
 | [],_,acc=>.ok acc
 |x::xs,ρ,acc=>gt x ρ >>= fun ρ1=>ft ρ1 >>= fun b=>if b=true then fe ρ1 >>= fun d=>if d.tag=.b\/sizeLine<=acc.length then .bad else bH gt ft fe xs ρ1 (acc++[d]) else bH gt ft fe xs ρ1 acc
def bw(ρ:ae)(j:Nat):Option D:=match ρ[j]? with
 |some (some d)=>if d.tag=.f then some d else none
 |_=>none
def aK(own:Nat)(cap:List Nat)(fi:ae->Res (List D))(gt:D->ae->Res ae)(ft:ae->Res Bool)(fe:ae->Res D):ae->Res D:=fun ρ=>
 fi ρ >>= fun items=>match bH gt ft fe items (List.replicate own none++cap.map (bw ρ)) [] with
  | .ok ds=>.ok (.lst .o ds)
  |_=>.bad
theorem kb{Hf H:Hp}{vs:List (Option V)}{ds:List (Option D)}{fp:List Addr}(O:Own Hf H fp vs ds):∀ (n:Nat) (cap:List Nat) (k:Nat),(∀ j∈cap,True) →
    Own Hf H [] (List.replicate n none++cap.map fun j=>(vs[k+j]?).join) (List.replicate n none++cap.map fun j=>bw (ds.drop k) j)
 | 0,[],_,_=>.nil
 | 0,j::cap,k,h=>by
  have ih:=kb O 0 cap k fun _ _=>trivial;simp only[List.replicate_zero,List.nil_append,List.map_cons] at ih ⊢;unfold bw;rw[List.getElem?_drop];split
  ·rename_i d hd
   split
   ·rename_i t
    obtain ⟨v,hv,r⟩:=O.getV hd;rw[hv]
    cases r with
    |fz r _=>exact Own.cons (fp:=[]) (.fz r t) ih
    |lst z _ _=>exact absurd t z
    |dic z _ _=>exact absurd t z
    |ins z _ _=>exact absurd t z
    |slf _ _=>cases t
   ·exact .skip ih
  ·exact .skip ih
 |n+1,cap,k,h=>by
  rw[List.replicate_succ,List.replicate_succ];exact .skip (kb O n cap k h)
section
variable {elt target iter:Expr}{ifs:List Expr}{scope:Scope}{pos:Pos}{gt:D->ae->Res ae}{ft:ae->Res Bool}{fe:ae->Res D}
theorem vz{Xc:Cx}(hc:Xc.calm=true)(hx:Xc.xe=fun _ _=>False)(iG:FG Xc Xc.H₀ target gt)(iT:FTs Xc Xc.H₀ ifs ft)(iE:FE Xc Xc.H₀ (fun _=>False) elt fe){J:It}{fpi:List Addr}{it:Addr}{tn:Nat->Heap->Prop}
    (T:Turn Xc.prog Xc.w Xc.K target J fpi it tn) (stat:∀ {H':Hp},(∀ b∈fpi,H' b=none)->∀ b∈fpi,gw Xc [] H' b) {items:List D} {B:Hp} (ok:gD J B items) {out:List D} {Da:Addr} {R:Result->Shared->Prop}
    {σ0:St} {H1:Hp} {s1:Shared} {ρ0:ae} (I0:Inv Xc [] σ0 H1 s1) (st:tn 0 s1.heap) (fr:∀ b∈fpi,H1 b=none) (S0:SR B Xc.H₀ H1 (some (.ref Da)::σ0) (some (.lst .o [])::ρ0)) (n0:noB ρ0) (ho:bH gt ft fe items ρ0 []=.ok out)
    (hR:∀ σ' H' s',Inv Xc [] σ' H' s'->SR B Xc.H₀ H' [some (.ref Da)] [some (.lst .o out)]->R (.ok .next) s') :
    codeAny (model Xc.prog Xc.w) Xc.A (.compLoop (.ListComp elt [⟨target,iter,ifs,0⟩] scope pos) 0 (.ref it) (.ref Da) Xc.env) R s1:=by
 refine vu (fun n s'=>∃ i σ' H' ρ' acc,n=items.length - i/\i<=items.length/\Inv Xc [] σ' H' s'/\tn i s'.heap/\(∀ b∈fpi,H' b=none)/\SR B Xc.H₀ H' (some (.ref Da)::σ') (some (.lst .o acc)::ρ')/\noB ρ'/\bH gt ft fe (items.drop i) ρ' acc=.ok out)
  ?_ items.length ⟨0,σ0,H1,ρ0,[],by simp,Nat.zero_le _,I0,st,fr,S0,n0,by simpa using ho⟩
 rintro n s2 ⟨i,σ2,H2,ρ2,acc,rfl,hi,I2,st2,fr2,S2,n2,e2⟩;have sB:Same B H2:=let ⟨_,_,_,G⟩:=S2;G.sf.trans G.fh;obtain ⟨h1,h2⟩:=ok H2 sB i;by_cases hlt:i<items.length
 ·have hd:items[i]?=some items[i]:=by simp[hlt]
  obtain ⟨go,yl⟩:=h1 _ hd;have hdrop:items.drop i=items[i]::items.drop (i+1):=List.drop_eq_getElem_cons hlt;rw[hdrop] at e2;unfold bH at e2;refine thn (T.item Xc rfl rfl rfl hc i [] s2 σ2 H2 (fun _ _=>False) I2 (stat fr2) st2 go) fun r s3 ⟨u,hr,h3⟩=>?_;subst hr;refine thn h3 fun _ s4 ⟨x,H4,I4,r4,y4,st4,fr4⟩=>?_;have Y:=yl x H4 y4
  have S4:SX B Xc.H₀ H4 [(x,items[i]),(.ref Da,.lst .o acc)] σ2 ρ2:=SR.yl S2 Y;have t4:items[i].tag≠.b:=by rw[Y.1];decide
  have I4':=I4.pinned (stat fr4) (T.obj _ _ st4)
  cases eg:gt items[i] ρ2 with
  |exc C=>rw[eg] at e2;cases e2
  |bad=>rw[eg] at e2;cases e2
  |ok ρ3=>
   rw[eg] at e2;have e2:(ft ρ3 >>= fun b=>if b=true then fe ρ3 >>= fun d=>if d.tag=.b\/sizeLine<=acc.length then .bad else bH gt ft fe (items.drop (i+1)) ρ3 (acc++[d]) else bH gt ft fe (items.drop (i+1)) ρ3 acc)=.ok out:=e2
   have again:∀ {σ7:St} {H7:Hp} {s7:Shared} {ρ7:ae} {acc':List D},Inv Xc ([]++j5 fpi s4.heap) σ7 H7 s7->SR B Xc.H₀ H7 (some (.ref Da)::σ7) (some (.lst .o acc')::ρ7)->noB ρ7->bH gt ft fe (items.drop (i+1)) ρ7 acc'=.ok out →
       ∃ m,m<items.length - i/\∃ i σ' H' ρ' acc,m=items.length - i/\i<=items.length/\Inv Xc [] σ' H' s7/\tn i s7.heap/\(∀ b∈fpi,H' b=none)/\SR B Xc.H₀ H' (some (.ref Da)::σ') (some (.lst .o acc)::ρ')/\noB ρ'/\bH gt ft fe (items.drop i) ρ' acc=.ok out:=fun {σ7 H7 s7 ρ7 acc'} I7 S7 n7 e7=>by
    refine ⟨items.length - (i+1),by omega,i+1,σ7,H7,ρ7,acc',rfl,hlt,I7.unpinned,T.keep _ _ _ st4 fun b hb o e=>(I7.pin (b,o) (List.mem_append_right _ (List.mem_append_right _ (ip hb e)))).1,fun b hb=>?_,S7,n7,e7⟩;obtain ⟨o,e,d⟩:=T.obj _ _ st4 b hb;exact (I7.pin (b,o) (List.mem_append_right _ (List.mem_append_right _ (ip hb e)))).2.1
   refine wpAny_mono (iG.go _ s4 σ2 H4 x u (fun σ' H'=>SX B Xc.H₀ H' [(.ref Da,.lst .o acc)] σ' ρ3/\noB ρ3) I4' r4 ⟨B,ρ2,items[i],[(.ref Da,.lst .o acc)],S4,t4,n2,by rw[eg];exact fun σ' S' n'=>⟨S',n'⟩⟩) (fun _ s5 ⟨σ5,H5,I5,S5,n5⟩=>?_) (fun _ _ z=>by rw[hx] at z;exact z)
   cases eb:ft ρ3 with
   |exc C=>rw[eb] at e2;cases e2
   |bad=>rw[eb] at e2;cases e2
   |ok b=>
    rw[eb] at e2;refine wpAny_mono (iT.go _ s5 σ5 H5 (fun b' H'=>b'=b/\SX B Xc.H₀ H' [(.ref Da,.lst .o acc)] σ5 ρ3) I5 ⟨B,ρ3,[(.ref Da,.lst .o acc)],S5,by rw[eb];exact fun H' S'=>⟨rfl,S'⟩⟩) (fun b' s6 ⟨H6,I6,hb,S6⟩=>?_) (fun _ _ z=>by rw[hx] at z;exact z);subst hb
    cases b' with
    |false=>
     have e2:bH gt ft fe (items.drop (i+1)) ρ3 acc=.ok out:=e2;rw[if_neg Bool.false_ne_true];exact again I6 S6 n5 e2
    |true=>
     have e2:(fe ρ3 >>= fun d=>if d.tag=.b\/sizeLine<=acc.length then .bad else bH gt ft fe (items.drop (i+1)) ρ3 (acc++[d]))=.ok out:=e2;rw[if_pos rfl]
     cases ed:fe ρ3 with
     |exc C=>rw[ed] at e2;cases e2
     |bad=>rw[ed] at e2;cases e2
     |ok d=>
      rw[ed] at e2;have e2:(if d.tag=.b\/sizeLine<=acc.length then .bad else bH gt ft fe (items.drop (i+1)) ρ3 (acc++[d]))=Res.ok out:=e2;split at e2
      ·cases e2
      ·rename_i hcd
       refine wpAny_mono (iE.go _ s6 σ5 H6 (fun v H'=>SX B Xc.H₀ H' [(v,d),(.ref Da,.lst .o acc)] σ5 ρ3) I6 ⟨B,ρ3,[(.ref Da,.lst .o acc)],S6,by rw[ed];exact fun v H' S'=>S'⟩) (fun uv s7 ⟨v,H7,I7,r7,S7⟩=>?_) (fun _ _ z=>by rw[hx] at z;exact z);have nn:noB (some (.lst .o acc)::ρ3):=fun d' m=>by
        rcases List.mem_cons.mp m with e | m
        ·cases e;exact fun z=>nomatch z
        ·exact n5 d' m
       obtain ⟨p,us,hp,hH,hl,S8⟩:=SR.append (vs:=some (.ref Da)::σ5) (ds:=some (.lst .o acc)::ρ3) S7 (fun z=>hcd (.inl z)) nn (i:=0) (xs:=acc) rfl;have hp:p=Da:=by simpa using hp.symm
       subst hp;refine wpAny_mono (j8 (X:=Xc) _ s7 σ5 H7 (.ref p) [v] (.ref p) [uv] (fun _ H'=>H'=upd H7 p (.lst (us++[v]))) I7 rfl (.cons r7 .nil) ⟨p,us,v,rfl,rfl,hH,by rw[hl];omega,rfl⟩) (fun _ s8 ⟨_,H8,I8,_,e8⟩=>?_) (fun _ _ z=>by rw[hx] at z;exact z);subst e8;exact again I8 S8 n5 e2
 ·have e:i=items.length:=by omega
  subst e;rw[List.drop_length] at e2;have e2:Res.ok acc=.ok out:=e2
  cases e2
  refine thn (T.done Xc rfl rfl rfl hc _ [] s2 σ2 H2 (fun _ _=>False) I2 (stat fr2) st2 (h2 rfl)) fun r s3 ⟨hr,I3⟩=>?_;subst hr;exact hR σ2 H2 s3 I3 (SR.only (vs':=[]) (ds':=[]) S2)
end
section
variable {X:Cx}{Ex:Value->Prop}{H0:Hp}{elt target iter:Expr}{ifs:List Expr}{scope:Scope}{pos:Pos}{own:List Str}{cap:List (Str × Nat)}
theorem mE{pins:List (Addr × Obj)}{σ:St}{H Hf Hs:Hp}{s:Shared}{fp:List Addr}{ρ:ae}{ts:List (V × D)}{items:List D}{gt:D->ae->Res ae}{ft:ae->Res Bool}{fe:ae->Res D}{it:Addr}{fpi:List Addr}{tn:Nat->Heap->Prop}{J:It}
    (hc:X.calm=true) (CS:CompScope X scope own cap)
    (inner:∀ C cells s0 H0 ex pn,(own++cap.map (·.1)).Nodup->FG (et X scope (own++cap.map (·.1)) C cells s0 H0 ex pn) H0 target gt/\FTs (et X scope (own++cap.map (·.1)) C cells s0 H0 ex pn) H0 ifs ft/\FE (et X scope (own++cap.map (·.1)) C cells s0 H0 ex pn) H0 (fun _=>False) elt fe)
    (I:Inv X pins σ H s) (T:Turn X.prog X.w X.K target J fpi it tn) (st:tn 0 s.heap) (hf:∀ b∈fpi,gw X pins H b) (ok:gD J Hf items)
    (O:Own Hf H fp (tvs ts++σ) (tds ts++ρ)) (F:Fine Hs H0 Hf H fp) {out:List D} (ho:bH gt ft fe items (List.replicate own.length none++cap.map fun p=>bw ρ p.2) []=.ok out)
    {RR:Value->Addr->Result->Shared->Prop}
    (hRR:∀ D C s' H' m,s'.heap.Ns C m->s.heap.objs.size<=C->(∀ h'',Heap.SameBut C s'.heap h''->Inv X pins σ H' { s' with heap:=h'' }/\H' C=none)->SR Hf H H' [some (.ref D)] [some (.lst .o out)]->RR (.ref D) C (.ok .next) s') :
    wpAny (model X.prog X.w) X.A (newList []) (fun acc s₃=>wpAny (model X.prog X.w) X.A (newFunctionEnv scope X.env.globals (gB X.env.cells scope.names []) [] X.env.qual none .none (some X.env)) (fun cenv s₄=>
     codeAny (model X.prog X.w) X.A (.compStart (.ListComp elt [⟨target,iter,ifs,0⟩] scope pos) 0 (.ref it) acc { cenv with scope:=relabel scope X.env }) (RR acc cenv.locals) s₄) X.xe s₃) X.xe s:=by
 have hfr:H s.heap.objs.size=none:=I.hok.fresh (Nat.le_refl _);refine wpAny_newObj_type ?_ (by show ([]:List Value).toArray.size<=sizeLine;simp);have I3:Inv X pins σ (upd H s.heap.objs.size (.lst [])) { s with heap:=s.heap.push { cls:=.type "list", dict:=none,data:=.seq ([]:List Value).toArray } }:=
  I.laid (t':=s.toks) (fun b u e=>Heap.get?_push_of_some _ e) (Nat.le_refl _) ⟨Nat.zero_le _,[],0,.nil,Heap.get?_push_size _ rfl⟩
 have kp3:∀ b o,s.heap.get? b=some o->(s.heap.push { cls:=.type "list", dict:=none,data:=.seq ([]:List Value).toArray }).get? b=some o:=fun b o e=>Heap.get?_push_of_some _ e;have hsz3:(s.heap.push { cls:=.type "list", dict:=none,data:=.seq ([]:List Value).toArray }).objs.size=s.heap.objs.size+1:=Heap.size_push ..
 generalize s.heap.push { cls:=.type "list", dict:=none,data:=.seq ([]:List Value).toArray }=h3 at I3 kp3 hsz3 ⊢;have hle:s.heap.objs.size<=h3.objs.size:=by rw[hsz3];exact Nat.le_succ _
 refine rN (s:={ s with heap:=h3 }) fun h' ns kp cl ap=>?_;have he:∀ b∈fpi,∃ o,s.heap.get? b=some o:=fun b hb=>let ⟨o,e,_⟩:=T.obj 0 _ st b hb;⟨o,e⟩;have u3:Un (frs X.stack) fpi H (upd H s.heap.objs.size (.lst [])) s.heap h3:=Un.laid kp3 (Nat.le_refl _) hfr;have IC:=xH I I3 kp3 CS u3 hf he ns kp cl ap (by omega)
 obtain ⟨iG,iT,iE⟩:=inner h3.objs.size (fF X scope h3.objs.size) s H fpi (X.pn++pins) CS.ndN;have fpC:∀ {H':Hp},(∀ b∈fpi,H' b=none)->∀ b∈fpi,gw (et X scope (own++cap.map (·.1)) h3.objs.size (fF X scope h3.objs.size) s H fpi (X.pn++pins)) [] H' b:=fun {H'} hn b hb=>by
  obtain ⟨o,e⟩:=he b hb;refine ⟨hn b hb,?_,?_,.inl hb,fun x c hx z=>?_,fun p hp z=>?_⟩
  ·exact Nat.ne_of_lt (Nat.lt_of_lt_of_le (Heap.lt_size e) hle)
  ·show b∉frs X.stack
   intro m;rcases List.mem_cons.mp (I.stkSub b m) with z | z
   ·exact (hf b hb).2.1 z
   ·exact (hf b hb).2.2.1 z
  ·have hx:(fF X scope h3.objs.size).lookup x=some c:=hx
   subst z;rcases cM I CS hx with ⟨m1,k1⟩ | ⟨k1,c1⟩
   ·exact absurd (Nat.lt_of_lt_of_le (Heap.lt_size e) hle) (Nat.not_lt.mpr (Nat.le_of_succ_le (cl x c m1).2))
   ·exact (hf c hb).2.2.2.2.1 x c c1 rfl
  ·have hp:p∈(X.pn++pins)++[]:=hp
   rw[List.append_nil] at hp;exact (hf b hb).2.2.2.2.2 p hp z
 have st':tn 0 h':=T.keep _ _ _ (T.keep _ _ _ st fun b _ o e=>kp3 b o e) fun b _ o e=>kp b o e;have fr':∀ b∈fpi,upd H s.heap.objs.size (.lst []) b=none:=fun b hb=>by
  obtain ⟨o,e⟩:=he b hb;rw[aR (Nat.ne_of_lt (Heap.lt_size e))];exact (hf b hb).1
 have O0:=kb O own.length (cap.map (·.2)) (tds ts).length fun _ _=>trivial;have F0:Fine Hf H Hf H []:=⟨List.nodup_nil,fun _ m=>by simp at m,F.fh,Same.refl _,Same.refl _,fun a o e=>.inl ⟨o,e⟩⟩
 have S0:SR Hf H (upd H s.heap.objs.size (.lst [])) (some (.ref s.heap.objs.size)::(List.replicate own.length none++cap.map fun p=>(σ[p.2]?).join)) (some (.lst .o [])::(List.replicate own.length none++cap.map fun p=>bw ρ p.2)):=by
  refine SR.laidL (us:=[]) (es:=[]) ?_ F0 .nil (fun _ m=>by simp at m) hfr;rw[List.map_map,List.map_map] at O0;have e1:(fun j=>((tvs ts++σ)[(tds ts).length+j]?).join) ∘ (fun (p:Str × Nat)=>p.2)=fun p=>(σ[p.2]?).join:=by
   funext p;show ((tvs ts++σ)[(tds ts).length+p.2]?).join=_;rw[lf,<- ld ts,lZ]
  have e2:(fun j=>bw ((tds ts++ρ).drop (tds ts).length) j) ∘ (fun (p:Str × Nat)=>p.2)=fun p=>bw ρ p.2:=by
   funext p;show bw ((tds ts++ρ).drop (tds ts).length) p.2=_;rw[List.drop_left]
  rw[e1,e2] at O0;exact O0
 have n0:noB (List.replicate own.length none++cap.map fun p=>bw ρ p.2):=fun d m=>by
  rcases List.mem_append.mp m with m | m
  ·rw[List.mem_replicate] at m;cases m.2
  ·obtain ⟨p,_,e⟩:=List.mem_map.mp m
   unfold bw at e;split at e
   ·split at e
    ·rename_i t;cases e;rw[t];decide
    ·cases e
   ·cases e
 have loop:=vz (Xc:=et X scope (own++cap.map (·.1)) h3.objs.size (fF X scope h3.objs.size) s H fpi (X.pn++pins)) (elt:=elt) (target:=target) (iter:=iter) (ifs:=ifs) (scope:=scope) (pos:=pos) hc rfl iG iT iE T fpC ok IC st' fr' S0 n0 ho
  (R:=RR (.ref s.heap.objs.size) h3.objs.size) (fun σ' H' s' I' S'=>?_)
 ·exact codeAny_compStart_list loop (T.self X.A 0 _ _ _ st' loop)
 ·obtain ⟨m,hn,_⟩:=I'.loc
  have hC:H' h3.objs.size=none:=I'.free;refine hRR _ _ s' H' m hn hle (fun h'' sb=>⟨?_,hC⟩) S';have un:Un (frs X.stack) fpi H H' s.heap s'.heap:=I'.base;have hos:s'.os=s.os:=I'.os;have un2:Un (frs X.stack) fpi H H' s.heap h'':=by
   have hne:∀ b o,s.heap.get? b=some o->b≠h3.objs.size:=fun b o e=>Nat.ne_of_lt (Nat.lt_of_lt_of_le (Heap.lt_size e) hle);refine ⟨fun b o e n hb hx=>(sb.2 b (hne b o e)).trans (un.keep b o e n hb hx),fun b o e n hb hx=>?_,un.free,fun b o e hx=>?_,un.tups,un.frzs,un.tbls⟩
   ·obtain ⟨sl,q⟩:=un.slot b o e n hb hx
    exact ⟨sl,(sb.2 b (hne b o e)).trans q⟩
   ·obtain ⟨o',q⟩:=un.there b o e hx
    exact ⟨o',(sb.2 b (hne b o e)).trans q⟩
  have hok:HOk X.prog X.w H' h'':=fun b u e=>by
   refine (I'.hok b u e).stay (fun c v hc q=>(sb.2 c ?_).trans q) (fun _ q=>q) fun _ _ q=>q;rintro rfl;rcases hc with rfl | hc
   ·rw[hC] at e;cases e
   ·rw[hC] at hc;cases hc
  exact I.call' (s':={ s' with heap:=h'' }) (ch:=fpi) hos un2 hok I'.bare fun b hb=>⟨(hf b hb).2.2.2.1,(hf b hb).2.1,(hf b hb).2.2.2.2.1,(hf b hb).2.2.2.2.2⟩
theorem cX{fi:ae->Res (List D)}{gt:D->ae->Res ae}{ft:ae->Res Bool}{fe:ae->Res D}(hc:X.calm=true)(CS:CompScope X scope own cap)(hi:FI X H0 Ex target iter fi)
    (inner:∀ C cells s0 H0 ex pn,(own++cap.map (·.1)).Nodup->FG (et X scope (own++cap.map (·.1)) C cells s0 H0 ex pn) H0 target gt/\FTs (et X scope (own++cap.map (·.1)) C cells s0 H0 ex pn) H0 ifs ft/\FE (et X scope (own++cap.map (·.1)) C cells s0 H0 ex pn) H0 (fun _=>False) elt fe)
    (hs:∀ x,foldedSetIterable iter X.env x=pure x:=by intro _;rfl):FE X H0 Ex (.ListComp elt [⟨target,iter,ifs,0⟩] scope pos) (aK own.length (cap.map (·.2)) fi gt ft fe):=by
 refine ⟨?_⟩;intro pins s σ H Q I h;obtain ⟨Hs,ρ,ts,S,p⟩:=h;rw[eval_ListComp];refine wpAny_comprehension_free (use:=none) rfl hs (i4 fun x hx hk=>I.ok.has x.1 (CS.free x hx hk)) CS.kind (fun x hx hl=>by rw[<- hl];exact eR CS.nd hx) ?_
 refine thn (hi.go pins s σ H (fun J H'=>∃ Hf fp items,gD J Hf items/\Own Hf H' fp (tvs ts++σ) (tds ts++ρ)/\Fine Hs H0 Hf H' fp/\∃ out,bH gt ft fe items (List.replicate own.length none++cap.map fun p=>bw ρ p.2) []=.ok out/\∀ v H',SX Hs H0 H' ((v,.lst .o out)::ts) σ ρ->Q v H') I ⟨Hs,ρ,ts,S,?_⟩) fun xv s1 h1=>thn h1 fun itv s2 h2=>?_
 ·unfold aK at p
  refine (Post.bind p).imp fun items _ p1 J H' Hf fp ok O F=>?_;rw[List.map_map] at p1
  cases e:bH gt ft fe items (List.replicate own.length none++cap.map fun p=>bw ρ p.2) [] with
  |ok out=>
   have e':bH gt ft fe items (List.replicate own.length none++cap.map (bw ρ ∘ fun p=>p.2)) []=.ok out:=e;rw[e'] at p1;exact ⟨Hf,fp,items,ok,O,F,out,e,p1⟩
  |exc C=>
   have e':bH gt ft fe items (List.replicate own.length none++cap.map (bw ρ ∘ fun p=>p.2)) []=.exc C:=e;rw[e'] at p1;exact p1.elim
  |bad=>
   have e':bH gt ft fe items (List.replicate own.length none++cap.map (bw ρ ∘ fun p=>p.2)) []=.bad:=e;rw[e'] at p1;exact p1.elim
 ·obtain ⟨it,fpi,tn,J,H2,rfl,I2,T,st,hf,Hf,fp,items,ok,O,F,out,ho,k⟩:=h2
  refine mE (RR:=fun acc C=>compPost (model X.prog X.w) X.A X.xe none (EP X pins σ Q) acc C) hc CS inner I2 T st hf ok O F ho ?_;intro Da C s' H' m hn hC hI S';refine ⟨m,hn,fun h'' sb=>?_⟩;exact ⟨.ref Da,H',(hI h'' sb).1,rfl,k _ H' (SR.told O F S' (fun z=>nomatch z))⟩
end
section
variable {X:Cx}{Ex:Value->Prop}{H0:Hp}{elt target iter:Expr}{ifs:List Expr}{scope:Scope}{pos:Pos}{own:List Str}{cap:List (Str × Nat)}
theorem dZ{i:Nat}{x:Str}{px pc:Pos}{fi:ae->Res (List D)}{gt:D->ae->Res ae}{ft:ae->Res Bool}{fe:ae->Res D}(hN:X.N.Nodup)(hi':X.N[i]?=some x)(hx:Loc X.env.scope x)(hc:X.calm=true)(CS:CompScope X scope own cap)(hi:FI X H0 Ex target iter fi)
    (inner:∀ C cells s0 H0 ex pn,(own++cap.map (·.1)).Nodup->FG (et X scope (own++cap.map (·.1)) C cells s0 H0 ex pn) H0 target gt/\FTs (et X scope (own++cap.map (·.1)) C cells s0 H0 ex pn) H0 ifs ft/\FE (et X scope (own++cap.map (·.1)) C cells s0 H0 ex pn) H0 (fun _=>False) elt fe)
    (hsw:swapsWith (.ListComp elt [⟨target,iter,ifs,0⟩] scope pc) (some (.Name x px)) pos.line X.env=pure true:=by rfl)
    (hf:X.fn x=true\/X.env.scope.names.lookup x=some .local:=by first | exact .inl rfl | exact .inr rfl | assumption)
    (hs:∀ x,foldedSetIterable iter X.env x=pure x:=by intro _;rfl):FS X H0 Ex (.Assign [.Name x px] (.ListComp elt [⟨target,iter,ifs,0⟩] scope pc) pos) (aw i (aK own.length (cap.map (·.2)) fi gt ft fe)):=by
 refine ⟨?_⟩;intro pins s σ H En I h;obtain ⟨Hs,ρ,⟨S,n⟩,p⟩:=h;rw[exec_Assign_Name_used _ _ _ _ hsw];refine wpAny_bind (wpAny_standAt (wpAny_bind ?_));show wpAny _ X.A (do let _ <- comprehension (.ListComp elt [⟨target,iter,ifs,0⟩] scope pc) scope X.env _ (newList []) false (eval iter X.env) (some (assign (.Name x px) X.env))) _ _ s
 refine wpAny_bind (wpAny_mono (wpAny_comprehension_free (use:=some (assign (.Name x px) X.env)) (Q:=fun _ s'=>SP X pins En .next s') rfl hs (i4 fun x hx hk=>I.ok.has x.1 (CS.free x hx hk)) CS.kind (fun x hx hl=>by rw[<- hl];exact eR CS.nd hx) ?_) (fun _ s' hq=>wpAny_pure (wpAny_pure hq)) fun _ _ e=>e);have p:=PostS.aft p
 refine thn (hi.go pins s σ H (fun J H'=>∃ Hf fp items,gD J Hf items/\Own Hf H' fp σ ρ/\Fine Hs H0 Hf H' fp/\i<ρ.length/\∃ out,bH gt ft fe items (List.replicate own.length none++cap.map fun p=>bw ρ p.2) []=.ok out/\∀ σ' H',SS Hs H0 H' σ' (ρ.set i (some (.lst .o out)))->En.nx σ' H') I ⟨Hs,ρ,[],S,?_⟩) fun xv s1 h1=>thn h1 fun itv s2 h2=>?_
 ·unfold aK at p
  refine (Post.bind p).imp fun items _ p1 J H' Hf fp ok O F=>?_;rw[List.map_map] at p1
  cases e:bH gt ft fe items (List.replicate own.length none++cap.map fun p=>bw ρ p.2) [] with
  |ok out=>
   have e':bH gt ft fe items (List.replicate own.length none++cap.map (bw ρ ∘ fun p=>p.2)) []=.ok out:=e;rw[e'] at p1;have p1:PostS Hs H0 Ex En (if (D.lst .o out).tag=.b\/ρ.length<=i then .bad else .nx (ρ.set i (some (.lst .o out)))):=p1;split at p1
   ·exact p1.elim
   ·rename_i hcc
    refine ⟨Hf,fp,items,ok,O,F,?_,out,e,p1⟩;by_cases hl:ρ.length<=i
    ·exact absurd (.inr hl) hcc
    ·omega
  |exc C=>
   have e':bH gt ft fe items (List.replicate own.length none++cap.map (bw ρ ∘ fun p=>p.2)) []=.exc C:=e;rw[e'] at p1;exact p1.elim
  |bad=>
   have e':bH gt ft fe items (List.replicate own.length none++cap.map (bw ρ ∘ fun p=>p.2)) []=.bad:=e;rw[e'] at p1;exact p1.elim
 ·obtain ⟨it,fpi,tn,J,H2,rfl,I2,T,st,hf2,Hf,fp,items,ok,O,F,hil,out,ho,k⟩:=h2
  refine mE (ts:=[]) (RR:=fun acc C=>compPost (model X.prog X.w) X.A X.xe (some (assign (.Name x px) X.env)) (fun _ s'=>SP X pins En .next s') acc C) hc CS inner I2 T st hf2 ok O F ho ?_;intro Da C s' H' m hn hC hI S';have I':Inv X pins σ H' s':=(hI s'.heap (Heap.SameBut.refl ..)).1;have hHC:H' C=none:=(hI s'.heap (Heap.SameBut.refl ..)).2
  have S'':SX Hs H0 H' [(.ref Da,.lst .o out)] σ ρ:=SR.told O F S' (fun z=>nomatch z);have hCL:C≠X.env.locals:=Nat.ne_of_gt (Nat.lt_of_lt_of_le I2.lt hC);have hCc:∀ y c,X.env.cells.lookup y=some c->c≠C:=fun y c e=>by
   obtain ⟨v,q⟩:=I2.cell y c e;exact Nat.ne_of_lt (Nat.lt_of_lt_of_le q.lt hC)
  show wpAny (model X.prog X.w) X.A (assign (.Name x px) X.env (.ref Da)) _ X.xe s';refine wpAny_assign_Name (oB (v:=.ref Da) I' hN hi' hx rfl (fun s3 I3 ⟨a,sb,ha⟩=>?_) hf);have hCa:C≠a:=by
   rcases ha with ha | ha
   ·rw[ha];exact hCL
   ·exact (hCc x a ha).symm
  refine ⟨m,hn.sameBut sb hCa,fun h'' sb2=>?_⟩;refine ⟨_,H',I3.turned (t':=s3.toks) (it:=C) (fun b o hb e=>(sb2.2 b hb).trans e) hHC hCL (.inr (Nat.le_trans I2.sz hC)) hCc (fun p hp=>?_),k _ H' (SR.set0 S'' (fun z=>nomatch z) n hil)⟩;exact Nat.ne_of_lt (Nat.lt_of_lt_of_le (Heap.lt_size (I2.pin p hp).1) hC)
theorem xI{st:Stmt}{g:ae->FOut}(i:Nat)(h:FS X H0 Ex st g):FS X H0 Ex st (fun ρ=>match g ρ with | .nx ρ'=>.nx (frzAt i ρ') | r=>r):=by
 refine ⟨PS.pre h.go ?_⟩;rintro En σ H ⟨Hs,ρ,S,p⟩;refine ⟨Hs,ρ,S,?_⟩;dsimp only at p
 cases e:g ρ with
 |nx ρ'=>rw[e] at p;exact fun σ' H' S'=>p σ' H' (S'.1.frzAt S'.2 i)
 |rt d=>rw[e] at p;exact p
 |bk ρ'=>rw[e] at p;exact p
 |ct ρ'=>rw[e] at p;exact p
 |exc C=>rw[e] at p;exact p
 |bad=>rw[e] at p;exact p
theorem iC{st:Stmt}{f:ae->Res D}{i:Nat}(h:FS X H0 Ex st (aw i f)):FS X H0 Ex st (aw i (fFz f)):=by
 have h1:=xI i h;have:(fun ρ=>match aw i f ρ with | .nx ρ'=>.nx (frzAt i ρ') | r=>r)=aw i (fFz f):=by
  funext ρ;unfold aw fFz
  cases f ρ with
  |bad=>rfl
  |exc C=>rfl
  |ok d=>
   show (match (if d.tag=.b\/ρ.length<=i then FOut.bad else .nx (ρ.set i (some d))) with | .nx ρ'=>.nx (frzAt i ρ') | r=>r)=aft (if d.tag=.b then .bad else .ok d.fz) _;by_cases hb:d.tag=.b
   ·rw[if_pos (.inl hb),if_pos hb];rfl
   ·rw[if_neg hb]
    show _=(if d.fz.tag=.b\/ρ.length<=i then FOut.bad else .nx (ρ.set i (some d.fz)));by_cases hl:ρ.length<=i
    ·rw[if_pos (.inr hl),if_pos (.inr hl)]
    ·rw[if_neg (fun z=>z.elim hb hl),if_neg (fun z=>z.elim (by rw[d.fz_tag];decide) hl)]
     show FOut.nx (frzAt i (ρ.set i (some d)))=_;unfold frzAt;rw[List.getElem?_set_self (by omega)];show FOut.nx ((List.set ρ i (some d)).set i (some d.fz))=_;rw[List.set_set]
 rw[this] at h1;exact h1
end
def spF(n:Nat)(F:List D->Res D):Sp:=fun vs H Q E=>∃ Hs ds,ds.length=n/\Same Hs H/\Reps Hs vs ds/\(∀ d∈ds,d.tag=.f)/\match F ds with
 | .ok d=>∀ v H',SR Hs H H' [some v] [some d]->Q v H'
 | .exc C=>∀ H',Same H H'->E C none H'
 | .bad=>False
def ee(F:List D->Res D)(es:List D):Res D:=match F (D.fzs es) with
 | .ok d=>if (nb es=true/\d.tag≠.b)\/d.atom=true then .ok d else .bad
 |r=>r
theorem SR.allRep{Hs H0 H:Hp}{vs:List (Option V)}{ds:List (Option D)}:∀ {us:List V} {es:List D},us.length=es.length->SR Hs H0 H (hv us++vs) (hd es++ds)->Reps H us es:=by
 intro us;induction us using List.reverseRecOn' with
 |nil=>intro es hl S;cases es with | nil=>exact .nil | cons a b=>simp at hl
 |snoc us u ih=>
  intro es hl S
  cases es using List.reverseRecOn' with
  |nil=>simp at hl
  |snoc es e=>
   rw[nM,nN] at S;exact (ih (by simpa using hl) S.drop).append (.cons S.head .nil)
theorem jI{H H':Hp}{v:V}{d:D}(h:Rep H v d)(a:d.atom=true):Rep H' v d:=by
 cases h<;>first | exact .non | exact .bl | exact .int | exact .str | cases a
theorem l6{d:D}(a:d.atom=true):d.tag=.f:=by cases d<;>first | rfl | cases a
theorem lg(es:List D):(D.fzs es).length=es.length:=by rw[D.fzs_map,List.length_map]
section
variable {X:Cx}{Ex:Value->Prop}{H0:Hp}{CX:CXT}{k n:Nat}{f:Addr}{fd:FuncData}{ps:List Str}{F:List D->Res D}{x:Str}{p pos:Pos}{e:Expr}{es:List Expr}
abbrev Exk(H0:Hp)(Ex:Value->Prop):XK:=fun C _ H'=>Ex C/\Same H0 H'
theorem qb{us:List V}{ds:List D}{Hs H1:Hp}{ts:List (V × D)}{σ:St}{ρ:ae}{Q:VK}(hn:ds.length=n)(hl:us.length=ds.length)(S1:SX Hs H0 H1 (held us ds ts) σ ρ)(p1:Post Ex (ee F ds) fun d=>∀ v H',SX Hs H0 H' ((v,d)::ts) σ ρ->Q v H') :
    spF n F us H1 Q (Exk H0 Ex):=by
 have S2:=SX.held hl S1;unfold ee at p1
 cases eF:F (D.fzs ds) with
 |bad=>rw[eF] at p1;exact p1.elim
 |exc C=>
  rw[eF] at p1;exact ⟨H1,D.fzs ds,by rw[lg];exact hn,Same.refl _,(SR.allRep hl S2).fz,iz ds,by rw[eF];exact fun H' s=>⟨p1,S2.same.trans s⟩⟩
 |ok d=>
  rw[eF] at p1;have p1:Post Ex (if (nb ds=true/\d.tag≠.b)\/d.atom=true then Res.ok d else .bad) fun d=>∀ v H',SX Hs H0 H' ((v,d)::ts) σ ρ->Q v H':=p1;split at p1
  ·rename_i hc
   by_cases hb:nb ds=true/\d.tag≠.b
   ·obtain ⟨Hf,fp,O,G,R⟩:=S2.frozen hl (mC hb.1)
    exact ⟨Hf,D.fzs ds,by rw[lg];exact hn,G.fh,R,iz ds,by rw[eF];exact fun v H' S'=>p1 v H' (SR.told O G S' hb.2)⟩
   ·have ha:d.atom=true:=hc.resolve_left hb
    refine ⟨H1,D.fzs ds,by rw[lg];exact hn,Same.refl _,(SR.allRep hl S2).fz,iz ds,?_⟩;rw[eF];intro v H' S';have S3:SX Hs H0 H1 ts σ ρ:=by
     have:∀ (us:List V) (ds:List D),us.length=ds.length->SR Hs H0 H1 (hv us++(tvs ts++σ)) (hd ds++(tds ts++ρ))->SR Hs H0 H1 (tvs ts++σ) (tds ts++ρ):=by
      intro us;induction us using List.reverseRecOn' with
      |nil=>intro es hl S;cases es with | nil=>exact S | cons a b=>simp at hl
      |snoc us u ih=>
       intro es hl S
       cases es using List.reverseRecOn' with
       |nil=>simp at hl
       |snoc es e=>rw[nM,nN] at S;exact ih es (by simpa using hl) S.drop
     exact this us ds hl S2
    exact p1 v H' ((SR.grow S3 S'.same).atom (fun H=>jI S'.head ha) (l6 ha))
  ·exact p1.elim
theorem zI{fa:ae->Res (List D)}(G:FnOk X.prog X.w X.K X.mg X.base CX k f fd ps (spF n F))(hr:Room k X.A)(hg:Gl X x)(hm:X.mg x=some (.ref f))(hk:PySem.W.keepIn X.K (.ref f)=true)(hb:Binds X.K fd ps [])(hx:gW CX X (Exk H0 Ex))
    (ha:FA X H0 Ex (e::es) fa) (hn:(e::es).length=n) (hdb:(x == ("__debug__" : Str))=false:=by decide) (he:starEach (e::es) X.env=(false,eval e X.env)::starEach es X.env:=by rfl) (hpl:(backTo pos (starEach es X.env)).any (·.1)=false:=by rfl) :
    FE X H0 Ex (.Call (.Name x p) (e::es) [] pos) (fun ρ=>fa ρ >>= fun ds=>if ds.length=n then ee F ds else .bad):=by
 refine ⟨PE.pre (rZ (dvs:=[]) (E:=Exk H0 Ex) G hr hg hm hk hb .nil hx ha.go hdb he hpl) ?_⟩;rintro σ H Q ⟨Hs,ρ,ts,S,p⟩;refine ⟨Hs,ρ,ts,S,(Post.bind p).imp fun ds _ p1 us H1 hl S1=>?_⟩;split at p1
 ·rename_i hds
  rw[List.append_nil];exact qb hds hl S1 p1
 ·exact p1.elim
def bj(N:Nat)(g:ae->FOut)(ds:List D):Res D:=match g (ds.map some++List.replicate (N - ds.length) none) with
 | .rt d=>.ok d
 | .nx _=>.ok .non
 | .exc C=>.exc C
 |_=>.bad
theorem iq{Hs H:Hp}:∀ {vs:List V} {ds:List D} (k:Nat),Reps Hs vs ds->(∀ d∈ds,d.tag=.f)->Own Hs H [] (vs.map some++List.replicate k none) (ds.map some++List.replicate k none)
 |_,_,0,.nil,_=>.nil
 |_,_,k+1,.nil,h=>.skip (iq k .nil h)
 |_,_,k,.cons r q,h=>Own.cons (fp:=[]) (.fz r (h _ List.mem_cons_self)) (iq k q fun d m=>h d (List.mem_cons_of_mem _ m))
theorem Fun.okX{P:Program}{w:World}{K:PySem.W.Frag}{mg:Str->Option Value}{base:Heap}{x qual:Str}{st:Stmt}{f:Addr}{fd:FuncData}{N ps:List Str}{k:Nat}{sp:Sp}(F:Fun K x qual st f fd)(S:FnScope N ps (az st))(len:∀ vs H Q E,sp vs H Q E->vs.length=ps.length)
    (hbody:∀ (cdv:Value) (A:Around) (outer:List Env) (s:Shared) (H:Hp) (vs:List V) (Q:VK) (E:XK),Room k (A.deeper (envOfC qual (az st) s.heap.objs.size f cdv))->sp vs H Q E →
     ∃ t,PSs (jF CX P w K mg base N qual (az st) f cdv A outer s H E) (cK st) t/\t { nx:=fun _ H'=>Q .non H',rt:=Q } (gP N vs) H):FnOk P w K mg base CX (k+1) f fd ps sp:=by
 obtain ⟨oc,od,kV,doc,pm,an,cdv,ct,osl,rfl,lk,hcd⟩:=F.ex;exact Dm lk hcd S len fun A outer s H vs Q E hr hsp=>hbody cdv A outer s H vs Q E hr hsp
theorem sr{P:Program}{w:World}{K:PySem.W.Frag}{mg:Str->Option Value}{base:Heap}{x qual:Str}{st:Stmt}{f:Addr}{fd:FuncData}{N ps:List Str}{k:Nat}{F:List D->Res D}(U:Fun K x qual st f fd)(S:FnScope N ps (az st))
    (hbody:∀ (cdv:Value) (A:Around) (outer:List Env) (s:Shared) (H:Hp) (E:XK) (ds:List D),Room k (A.deeper (envOfC qual (az st) s.heap.objs.size f cdv))->ds.length=ps.length->(∀ C,F ds=.exc C->∀ H',Same H H'->E C none H') →
     ∃ g,FSs (jF CX P w K mg base N qual (az st) f cdv A outer s H E) H (fun C=>F ds=.exc C) (cK st) g/\F ds=bj N.length g ds) :
    FnOk P w K mg base CX (k+1) f fd ps (spF ps.length F):=by
 refine Fun.okX U S (fun vs H Q E h=>?_) (fun cdv A outer s H vs Q E hr h=>?_)
 ·obtain ⟨Hs,ds,hl,_,R,_⟩:=h
  rw[R.length];exact hl
 ·obtain ⟨Hs,ds,hl,sH,R,ht,p⟩:=h
  obtain ⟨g,hg,eF⟩:=hbody cdv A outer s H E ds hr hl (fun C eC H' sh=>by rw[eC] at p;exact p H' sh);refine ⟨_,hg.go,Hs,ds.map some++List.replicate (N.length - ds.length) none,⟨⟨Hs,[],?_,List.nodup_nil,fun _ m=>by simp at m,sH,Same.refl _,Same.refl _,fun a o e=>.inl ⟨o,e⟩⟩,?_⟩,?_⟩
  ·have:=iq (Hs:=Hs) (H:=H) (N.length - ds.length) R ht
   unfold L2.gP;rw[R.length];exact this
  ·intro d m
   rcases List.mem_append.mp m with m | m
   ·obtain ⟨d',m',e⟩:=List.mem_map.mp m
    cases e
    rw[ht d m'];decide
   ·rw[List.mem_replicate] at m;cases m.2
  ·unfold bj at eF
   cases eg:g (ds.map some++List.replicate (N.length - ds.length) none) with
   |rt d=>
    rw[eg] at eF;have eF:F ds=.ok d:=eF;rw[eF] at p;exact fun v H' S'=>p v H' S'
   |nx ρ'=>
    rw[eg] at eF;have eF:F ds=.ok .non:=eF;rw[eF] at p;refine fun σ' H' S'=>p .non H' ?_;exact SR.only (vs':=[]) (ds':=[]) S'.1.non
   |exc C=>rw[eg] at eF;exact eF
   |bk ρ'=>rw[eg] at eF;have eF:F ds=.bad:=eF;rw[eF] at p;exact p.elim
   |ct ρ'=>rw[eg] at eF;have eF:F ds=.bad:=eF;rw[eF] at p;exact p.elim
   |bad=>rw[eg] at eF;have eF:F ds=.bad:=eF;rw[eF] at p;exact p.elim
end
section
variable {X:Cx}{Ex:Value->Prop}{H0:Hp}{a b c e:Expr}{rest:List Expr}{f fa fb fc:ae->Res D}{ta tb:ae->Res Bool}{pos:Pos}
def asB:D->Res Bool
 | .bl b=>.ok b
 |_=>.bad
def ftB(f:ae->Res D):ae->Res Bool:=fun ρ=>f ρ >>= asB
theorem qd{d:D}{k:Bool->Prop}(p:Post Ex (asB d) k):∃ b,d=.bl b/\k b:=by
 cases d with
 |bl b=>exact ⟨b,rfl,p⟩
 |_=>exact p.elim
theorem kc(h:FE X H0 Ex e f)(he:∀ whole,isTrue e X.env whole=(do let v <- whole;standAt e.pos;holding [v] (truthy v)):=by intro _;rfl):FT X H0 Ex e (ftB f):=by
 refine ⟨PT.pre (A0 h.go he) ?_⟩;rintro σ H Q ⟨Hs,ρ,ts,S,p⟩;refine ⟨Hs,ρ,ts,S,(Post.bind p).imp fun d _ p1 v H1 S1=>?_⟩;obtain ⟨b,rfl,k⟩:=qd p1;exact ⟨b,SR.isBl S1,k H1 S1.drop⟩
def ft2(g:D->D->Res D)(fa fb:ae->Res D):ae->Res Bool:=fun ρ=>f2 g fa fb ρ >>= asB
theorem bx{op:CmpOp}{g:D->D->Res D}(ho:FOp X (compareOp op) g)(hg:∀ x y,noX (g x y)=true)(ha:FE X H0 Ex a fa)(hb:FE X H0 Ex b fb)(hm:behindInMarks op b=false):FT X H0 Ex (.Compare a [op] [b] pos) (ft2 g fa fb):=by
 refine ⟨PT.pre (zw ho.go ha.go hb.go hm) ?_⟩;rintro σ H Q ⟨Hs,ρ,ts,S,p⟩;refine pH hg (op:=compareOp op) ⟨Hs,ρ,ts,S,(Post.bind p).imp fun d _ p1 v H1 S1=>?_⟩;obtain ⟨b,rfl,k⟩:=qd p1;exact ⟨b,SR.isBl S1,k H1 S1.drop⟩
def cY(t:ae->Res Bool):ae->Res Bool:=fun ρ=>t ρ >>= fun b=>.ok (!b)
theorem gZ(h:FT X H0 Ex a ta):FT X H0 Ex (.UnaryOp .Not a pos) (cY ta):=by
 refine ⟨PT.pre (A3 h.go) ?_⟩;rintro σ H Q ⟨Hs,ρ,ts,S,p⟩;exact ⟨Hs,ρ,ts,S,(Post.bind p).imp fun b _ p1 H1 S1=>p1 H1 S1⟩
structure FW (X:Cx) (H0:Hp) (Ex:Value->Prop) (e:Expr) (f:ae->Res Bool):Prop where
 go:PW X e (TTF H0 Ex f)
theorem PW.pre{t t':TT}(h:PW X e t)(i:∀ σ H Q,t' σ H Q->t σ H Q):PW X e t':=fun wh pins s σ H Q I q=>h wh pins s σ H Q I (i σ H Q q)
theorem FW.ft(h:FW X H0 Ex e ta):FT X H0 Ex e ta:=⟨PW.pt h.go⟩
theorem lh(h:FT X H0 Ex a ta):FW X H0 Ex (.BoolOp .And [a] pos) ta:=⟨zm h.go⟩
theorem vA(h:FT X H0 Ex a ta):FW X H0 Ex (.BoolOp .Or [a] pos) ta:=⟨A1 h.go⟩
def fX(s t:ae->Res Bool):ae->Res Bool:=fun ρ=>s ρ >>= fun b=>if b=true then t ρ else .ok false
def jJ(s t:ae->Res Bool):ae->Res Bool:=fun ρ=>s ρ >>= fun b=>if b=true then .ok true else t ρ
theorem mF(ha:FT X H0 Ex a ta)(hb:FW X H0 Ex (.BoolOp .And (b::rest) pos) tb):FW X H0 Ex (.BoolOp .And (a::b::rest) pos) (fX ta tb):=by
 refine ⟨PW.pre (A2 ha.go hb.go) ?_⟩;rintro σ H Q ⟨Hs,ρ,ts,S,p⟩;refine ⟨Hs,ρ,ts,S,(Post.bind p).imp fun b _ p1 H1 S1=>?_⟩
 cases b with
 |true=>rw[if_pos rfl] at p1 ⊢;exact ⟨Hs,ρ,ts,S1,p1⟩
 |false=>rw[if_neg Bool.false_ne_true] at p1 ⊢;exact p1 H1 S1
theorem ua(ha:FT X H0 Ex a ta)(hb:FW X H0 Ex (.BoolOp .Or (b::rest) pos) tb):FW X H0 Ex (.BoolOp .Or (a::b::rest) pos) (jJ ta tb):=by
 refine ⟨PW.pre (C0 ha.go hb.go) ?_⟩;rintro σ H Q ⟨Hs,ρ,ts,S,p⟩;refine ⟨Hs,ρ,ts,S,(Post.bind p).imp fun b _ p1 H1 S1=>?_⟩
 cases b with
 |true=>rw[if_pos rfl] at p1 ⊢;exact p1 H1 S1
 |false=>rw[if_neg Bool.false_ne_true] at p1 ⊢;exact ⟨Hs,ρ,ts,S1,p1⟩
def l7(s t:ae->Res D):ae->Res D:=fun ρ=>s ρ >>= fun d=>asB d >>= fun b=>if b=true then t ρ else .ok (.bl false)
def ub(s:ae->Res D):ae->Res D:=fun ρ=>s ρ >>= fun d=>asB d >>= fun b=>.ok (.bl (!b))
theorem vB{op}(h:FE X H0 Ex a f):FE X H0 Ex (.BoolOp op [a] pos) f:=⟨A4 h.go⟩
theorem qe{d:D}{α:Type}{g:Bool->Res α}{k:α->Prop}(p:Post Ex (asB d >>= g) k):∃ b,d=.bl b/\Post Ex (g b) k:=by
 cases d with
 |bl b=>exact ⟨b,rfl,p⟩
 |_=>exact p.elim
theorem vC(ha:FE X H0 Ex a fa)(hb:FE X H0 Ex (.BoolOp .And (b::rest) pos) fb):FE X H0 Ex (.BoolOp .And (a::b::rest) pos) (l7 fa fb):=by
 refine ⟨PE.pre (A5 ha.go hb.go) ?_⟩;rintro σ H Q ⟨Hs,ρ,ts,S,p⟩;refine ⟨Hs,ρ,ts,S,(Post.bind p).imp fun d _ p1 v H1 S1=>?_⟩;obtain ⟨b,rfl,k⟩:=qe p1;refine ⟨b,SR.isBl S1,?_⟩
 cases b with
 |true=>rw[if_pos rfl] at k ⊢;exact ⟨Hs,ρ,ts,S1.drop,k⟩
 |false=>rw[if_neg Bool.false_ne_true] at k ⊢;exact k _ H1 S1.drop.bl
theorem BM(ha:FE X H0 Ex a fa):FE X H0 Ex (.UnaryOp .Not a pos) (ub fa):=by
 refine ⟨PE.pre (A6 ha.go) ?_⟩;rintro σ H Q ⟨Hs,ρ,ts,S,p⟩;refine ⟨Hs,ρ,ts,S,(Post.bind p).imp fun d _ p1 v H1 S1=>?_⟩;obtain ⟨b,rfl,k⟩:=qe p1;exact ⟨b,SR.isBl S1,k _ H1 S1.drop.bl⟩
def fIf(t:ae->Res Bool)(f g:ae->Res D):ae->Res D:=fun ρ=>t ρ >>= fun b=>if b=true then f ρ else g ρ
theorem qf(hc:FT X H0 Ex c ta)(ha:FE X H0 Ex a fa)(hb:FE X H0 Ex b fb):FE X H0 Ex (.IfExp c a b pos) (fIf ta fa fb):=by
 refine ⟨PE.pre (xm hc.go ha.go hb.go) ?_⟩;rintro σ H Q ⟨Hs,ρ,ts,S,p⟩;refine ⟨Hs,ρ,ts,S,(Post.bind p).imp fun b _ p1 H1 S1=>?_⟩
 cases b with
 |true=>rw[if_pos rfl] at p1 ⊢;exact ⟨Hs,ρ,ts,S1,p1⟩
 |false=>rw[if_neg Bool.false_ne_true] at p1 ⊢;exact ⟨Hs,ρ,ts,S1,p1⟩
def l8:D->Res D
 | .int i=>.ok (.int (-i))
 |_=>.bad
def f1(g:D->Res D)(fa:ae->Res D):ae->Res D:=fun ρ=>fa ρ >>= g
theorem vD(ha:FE X H0 Ex a fa):FE X H0 Ex (.UnaryOp .USub a pos) (f1 l8 fa):=by
 refine ⟨PE.pre (Dd Bm ha.go) ?_⟩;rintro σ H Q ⟨Hs,ρ,ts,S,p⟩;refine ⟨Hs,ρ,ts,S,(Post.bind p).imp fun d _ p1 v H1 S1=>?_⟩
 cases d with
 |int i=>exact ⟨i,SR.isInt S1,p1 _ H1 S1.drop.int⟩
 |_=>exact p1.elim
theorem eA{us:List V}{es:List D}{d:D}(hl:us.length=es.length)(h:es=[d]):∃ u,us=[u]:=by
 subst h
 cases us with
 |nil=>simp at hl
 |cons u r=>cases r with | nil=>exact ⟨u,rfl⟩ | cons _ _=>simp at hl
theorem mG{us:List V}{es:List D}{d d':D}(hl:us.length=es.length)(h:es=[d,d']):∃ u w,us=[u,w]:=by
 subst h
 cases us with
 |nil=>simp at hl
 |cons u r=>cases r with | nil=>simp at hl | cons w r=>cases r with | nil=>exact ⟨u,w,rfl⟩ | cons _ _=>simp at hl
def a8:List D->Res D
 | [.lst _ xs]=>.ok (.int xs.length)
 | [.tup xs]=>.ok (.int xs.length)
 | [.str z]=>if z.length<=sizeLine then .ok (.int z.length) else .bad
 | [.scr ns]=>.ok (.int ns.length)
 |_=>.bad
theorem bq:∀ es,noX (a8 es)=true:=by
 intro es;unfold a8;split<;>first | rfl | (split<;>rfl)
theorem cc:FCall X (.builtin "len") a8:=by
 refine ⟨CallR.pre (CallR.or pX pY) ?_⟩;rintro us H Q ⟨Hs,H0,vs,ds,es,d,hl,S,e,k⟩;unfold a8 at e;split at e
 ·rename_i t xs
  obtain ⟨u,rfl⟩:=eA hl rfl
  cases e
  have S':SR Hs H0 H (some u::vs) (some (.lst t xs)::ds):=S;have hh:=S'.head
  cases hh with
  |lst q R=>exact .inl ⟨_,_,rfl,.inl (SqL.of q),by rw[R.length];exact k _ H S'.drop.int⟩
 ·rename_i xs
  obtain ⟨u,rfl⟩:=eA hl rfl
  cases e
  have S':SR Hs H0 H (some u::vs) (some (.tup xs)::ds):=S;have hh:=S'.head
  cases hh with
  |tup q R=>exact .inl ⟨_,_,rfl,.inr (SqT.of q),by rw[R.length];exact k _ H S'.drop.int⟩
 ·rename_i z
  obtain ⟨u,rfl⟩:=eA hl rfl;split at e
  ·rename_i hz
   cases e
   have S':SR Hs H0 H (some u::vs) (some (.str z)::ds):=S
   cases SR.isStr S'
   exact .inr ⟨z,rfl,hz,k _ H S'.drop.int⟩
  ·cases e
 ·rename_i ns
  obtain ⟨u,rfl⟩:=eA hl rfl
  cases e
  have S':SR Hs H0 H (some u::vs) (some (.scr ns)::ds):=S;have hh:=S'.head
  cases hh with
  |scr q=>exact .inl ⟨_,_,rfl,.inl (.inl (.inr ⟨_,q⟩)),by rw[List.length_map];exact k _ H S'.drop.int⟩
 ·cases e
def ck:List D->Res D
 | [d]=>match d.its with
  |some ys=>.ok (.lst .o ys)
  |none=>.bad
 |_=>.bad
theorem dB:∀ es,noX (ck es)=true:=by
 intro es;unfold ck;split
 ·split<;>rfl
 ·rfl
theorem eZ:FCall X (.type "list") ck:=by
 refine ⟨CallR.pre pZ ?_⟩;rintro us H Q ⟨Hs,H0,vs,ds,es,d,hl,S,e,k⟩;unfold ck at e;split at e
 ·rename_i d1
  split at e
  ·rename_i ys hy
   cases e
   obtain ⟨u,rfl⟩:=eA hl rfl;have S':SR Hs H0 H (some u::vs) (some d1::ds):=S;obtain ⟨a,us,rfl,ha,Hf,fp,O,F,R⟩:=S'.items hy;refine ⟨a,us,rfl,?_,fun l hl=>k _ _ (SR.laidL O F R (D.its_tag hy) hl)⟩
   cases hi:d1.isL with
   |true=>rw[hi] at ha;exact .inl (SqL.of ha)
   |false=>rw[hi] at ha;exact .inr (SqT.of ha)
  ·cases e
 ·cases e
theorem cE{T:String}{x:Str}{p:Pos}{es:List Expr}{g:List D->Res D}{fa:ae->Res (List D)}(hc:FCall X (.type T) g)(hn:∀ es,noX (g es)=true)(hg:Gl X x)(hm:X.mg x=none)(hv:bootBuiltins x=some (.type T))(ha:FA X H0 Ex (e::es) fa)
    (hn':x ≠ "__name__" := by decide) (hdb:(x == ("__debug__" : Str))=false:=by decide) (h1:starEach (e::es) X.env=(false,eval e X.env)::starEach es X.env:=by rfl) (h2:(backTo pos (starEach es X.env)).any (·.1)=false:=by rfl):FE X H0 Ex (.Call (.Name x p) (e::es) [] pos) (fCB g fa):=
 ⟨PE.pre (oH hc.go hg hm hv ha.go hn' hdb h1 h2) fun _ _ _ h=>vt hn h⟩
def gQ:List D->Res D
 | [.int i,.int j]=>.ok (.int (if j<i then j else i))
 |_=>.bad
def lj:List D->Res D
 | [.int i,.int j]=>.ok (.int (if j > i then j else i))
 |_=>.bad
theorem oM:∀ es,noX (gQ es)=true:=by intro es;unfold gQ;split<;>rfl
theorem vE:∀ es,noX (lj es)=true:=by intro es;unfold lj;split<;>rfl
theorem su(hc:X.calm=true):FCall X (.builtin "min") gQ:=by
 refine ⟨CallR.pre (ve hc) ?_⟩;rintro us H Q ⟨Hs,H0,vs,ds,es,d,hl,S,e,k⟩;unfold gQ at e;split at e
 ·rename_i i j
  cases e
  obtain ⟨u,w,rfl⟩:=mG hl rfl;have S':SR Hs H0 H (some w::some u::vs) (some (.int j)::some (.int i)::ds):=S
  cases SR.isInt S'
  cases SR.isInt S'.drop
  exact ⟨i,j,rfl,k _ H S'.drop.drop.int⟩
 ·cases e
theorem zJ(hc:X.calm=true):FCall X (.builtin "max") lj:=by
 refine ⟨CallR.pre (vd hc) ?_⟩;rintro us H Q ⟨Hs,H0,vs,ds,es,d,hl,S,e,k⟩;unfold lj at e;split at e
 ·rename_i i j
  cases e
  obtain ⟨u,w,rfl⟩:=mG hl rfl;have S':SR Hs H0 H (some w::some u::vs) (some (.int j)::some (.int i)::ds):=S
  cases SR.isInt S'
  cases SR.isInt S'.drop
  exact ⟨i,j,rfl,k _ H S'.drop.drop.int⟩
 ·cases e
def dw:List D->Res D
 | [.int i]=>.ok (.int i)
 | [.bl k]=>.ok (.int (if k then 1 else 0))
 |_=>.bad
theorem iL:∀ es,noX (dw es)=true:=by intro es;unfold dw;split<;>rfl
theorem kf:FCall X (.type "int") dw:=by
 refine ⟨CallR.pre vf ?_⟩;rintro us H Q ⟨Hs,H0,vs,ds,es,d,hl,S,e,k⟩;unfold dw at e;split at e
 ·rename_i i
  cases e
  obtain ⟨u,rfl⟩:=eA hl rfl;have S':SR Hs H0 H (some u::vs) (some (.int i)::ds):=S
  cases SR.isInt S'
  exact .inl ⟨i,rfl,k _ H S'.drop.int⟩
 ·rename_i i
  cases e
  obtain ⟨u,rfl⟩:=eA hl rfl;have S':SR Hs H0 H (some u::vs) (some (.bl i)::ds):=S
  cases SR.isBl S'
  exact .inr ⟨i,rfl,k _ H S'.drop.int⟩
 ·cases e
def eM(neg:Bool):D->D->Res D:=fun x y=>match x,y with
 | .int i,.int j=>.ok (.bl (neg != decide (i=j)))
 | .str i,.str j=>.ok (.bl (neg != decide (i=j)))
 | .bl i,.bl j=>.ok (.bl (neg != decide (i=j)))
 |_,_=>.bad
theorem gE(n:Bool):∀ x y,noX (eM n x y)=true:=by intro x y;unfold eM;split<;>rfl
theorem BN:FOp X (compareOp .Eq) (eM false):=by
 refine ⟨OpR.pre De ?_⟩;rintro x y H Q ⟨Hs,H0,vs,ds,d1,d2,d,S,e,k⟩;unfold eM at e;split at e
 ·rename_i i j
  cases e;cases SR.isInt S;cases SR.isInt S.drop
  refine ⟨rfl,?_⟩;have:decide (V.int i=V.int j)=(false != decide (i=j)):=by simp
  rw[this];exact k _ H S.drop.drop.bl
 ·rename_i i j
  cases e;cases SR.isStr S;cases SR.isStr S.drop
  refine ⟨rfl,?_⟩;have:decide (V.str i=V.str j)=(false != decide (i=j)):=by simp
  rw[this];exact k _ H S.drop.drop.bl
 ·rename_i i j
  cases e;cases SR.isBl S;cases SR.isBl S.drop
  refine ⟨rfl,?_⟩;have:decide (V.bl i=V.bl j)=(false != decide (i=j)):=by simp
  rw[this];exact k _ H S.drop.drop.bl
 ·cases e
theorem kg:FOp X (compareOp .NotEq) (eM true):=by
 refine ⟨OpR.pre Dg ?_⟩;rintro x y H Q ⟨Hs,H0,vs,ds,d1,d2,d,S,e,k⟩;unfold eM at e;split at e
 ·rename_i i j
  cases e;cases SR.isInt S;cases SR.isInt S.drop
  refine ⟨rfl,?_⟩;have:(!decide (V.int i=V.int j))=(true != decide (i=j)):=by simp
  rw[this];exact k _ H S.drop.drop.bl
 ·rename_i i j
  cases e;cases SR.isStr S;cases SR.isStr S.drop
  refine ⟨rfl,?_⟩;have:(!decide (V.str i=V.str j))=(true != decide (i=j)):=by simp
  rw[this];exact k _ H S.drop.drop.bl
 ·rename_i i j
  cases e;cases SR.isBl S;cases SR.isBl S.drop
  refine ⟨rfl,?_⟩;have:(!decide (V.bl i=V.bl j))=(true != decide (i=j)):=by simp
  rw[this];exact k _ H S.drop.drop.bl
 ·cases e
theorem SR.recv{Hs H0 H:Hp}{σ:St}{ρ:ae}(S:SR Hs H0 H σ ρ){i:Nat}{t:Tg}{xs:List D}(e:ρ[i]?=some (some (.lst t xs))):∃ p us,σ[i]?=some (some (.ref p))/\H p=some (.lst us)/\us.length=xs.length:=by
 obtain ⟨v,hv,S'⟩:=S.get e;have h:=S'.head
 cases t with
 |f=>cases h with | lst q R=>exact ⟨_,_,hv,q,R.length⟩
 |o=>cases h with | lst q R=>exact ⟨_,_,hv,q,R.length⟩
 |b=>cases h with | lst q R=>exact ⟨_,_,hv,q,R.length⟩
def cZ(i:Nat)(f:ae->Res D):ae->FOut:=fun ρ=>match ρ[i]? with
 |some (some (.lst .o xs))=>aft (f ρ) fun d=>if d.tag=.b\/sizeLine<=xs.length then .bad else .nx (ρ.set i (some (.lst .o (xs++[d]))))
 |_=>.bad
theorem hG{i:Nat}{x:Str}{p1 p2 p3:Pos}(hv:PV X (.Name x p1) i)(he:FE X H0 Ex e f)
    (hbase:attributeBase (.Name x p1) "append" X.env (eval (.Name x p1) X.env)=eval (.Name x p1) X.env:=by rfl)
    (hfew:((backTo p3 (starEach [e] X.env)).all (fun x=>!x.1)&&(backToKw p3 (keywordEach [] X.env)).all (fun x=>x.1.isSome)&&decide (([e]:List Expr).length+([]:List Keyword).length+(if ([]:List Keyword).isEmpty then 0 else 1)<30))=true:=by rfl)
    (hline:(p2.endLine == p3.line)=true:=by rfl) (hplain:(backTo p3 (starEach [] X.env)).any (·.1)=false:=by rfl) (hs1:starEach [e] X.env=(false,eval e X.env)::starEach [] X.env:=by rfl)
    (hsw:swapsWith (.Call (.Attribute (.Name x p1) "append" p2) [e] [] p3) none pos.line X.env=pure false:=by rfl) :
    FS X H0 Ex (.Expr (.Call (.Attribute (.Name x p1) "append" p2) [e] [] p3) pos) (cZ i f):=by
 refine ⟨PS.pre (kY (mr PySem.F.plainAttrs_list PySem.F.slot_list_append PySem.F.type_list_append j8 hv.go (eG he.go fW hs1) hbase hfew hline hs1 hplain) hsw) ?_⟩;rintro En σ H ⟨Hs,ρ,⟨S,n⟩,p⟩;unfold cZ at p;split at p
 ·rename_i xs hx
  obtain ⟨q,us,hq,hH,hl⟩:=S.recv hx;refine ⟨.ref q,hq,.inl ⟨rfl,us,SqL.of hH⟩,Hs,ρ,[],S,(PostS.aft p).imp fun d _ p1 v H1 S1=>?_⟩;split at p1
  ·exact p1.elim
  ·rename_i hc
   have S1:SR Hs H0 H1 (some v::σ) (some d::ρ):=S1;obtain ⟨q',us',hq',hH',hl',S2⟩:=S1.append (fun z=>hc (.inl z)) n hx;rw[hq] at hq'
   cases hq'
   refine ⟨q,us',v,rfl,rfl,hH',?_,p1 σ _ ⟨S2,n.set fun d' z=>by cases z;exact fun y=>nomatch y⟩⟩;rw[hl'];exact Nat.lt_of_not_le fun z=>hc (.inr z)
 ·exact p.elim
end
def fj(ns:List Int):List Int:=ns.mergeSort fun a b=>decide (a<=b)
theorem fY(ns:List Int):(fj ns).Perm ns:=List.mergeSort_perm ns _
theorem kh(ns:List Int):(fj ns).Pairwise (·<=·):=by
 have:=List.pairwise_mergeSort (le:=fun a b:Int=>decide (a<=b)) (fun a b c h1 h2=>by simp at *;omega) (fun a b=>by simp;omega) ns;exact this.imp fun h=>by simpa using h
def iM:List D->Option (List Int)
 | []=>some []
 | .int i::r=>(iM r).map (i::·)
 |_=>none
theorem lL:∀ {ds:List D} {ns:List Int},iM ds=some ns->ds=ns.map D.int
 | [],_,h=>by simp[iM] at h;subst h;rfl
 | .int i::r,ns,h=>by
  simp only[iM,Option.map_eq_some_iff] at h;obtain ⟨m,hm,rfl⟩:=h;rw[lL hm];rfl
 | .non::_,_,h | .bl _::_,_,h | .str _::_,_,h | .lst _ _::_,_,h | .tup _::_,_,h | .dic _ _::_,_,h | .ins _ _ _::_,_,h | .exc _::_,_,h | .scr _::_,_,h | .slf _ _ _::_,_,h=>by cases h
theorem uc(ns:List Int):iM (ns.map D.int)=some ns:=by
 induction ns with
 |nil=>rfl
 |cons n ns ih=>simp[iM,ih]
theorem oN{H:Hp}:∀ {us:List V} {ns:List Int},Reps H us (ns.map D.int)->us=ns.map V.int
 |_,[],.nil=>rfl
 |_,n::ns,.cons h r=>by cases h;rw[oN r];rfl
theorem qg{H:Hp}(ns:List Int):Reps H (ns.map V.int) (ns.map D.int):=by
 induction ns with
 |nil=>exact .nil
 |cons n ns ih=>exact .cons .int ih
section
variable {X:Cx}{Ex:Value->Prop}{H0:Hp}{e:Expr}{pos:Pos}
theorem l9:CallR X (.builtin "sorted") (fun xs H Q=>∃ p ns,xs=[.ref p]/\SqL X.K H p (ns.map V.int)/\ns.length<64/\∀ l,H l=none->Q (.ref l) (upd H l (.lst ((fj ns).map V.int)))):=by
 intro pins s σ H xs us Q I r h;obtain ⟨p,ns,rfl,hq,h64,q⟩:=h;obtain ⟨u,rfl,rx⟩:=i3 r
 cases rx
 obtain ⟨its,rv,pl,hz⟩:=I.list hq;have hI:IntsAre its ns:=t7 rv;have hl:=rv.length;rw[List.length_map] at hl hz;refine sorted_ints pl.isList hI (by omega) fun out ns' a1 a2 a3=>?_;have en:ns'=fj ns:=PySem.W.ksm_same (a2.trans (fY ns).symm) a3 (kh ns);subst en;obtain ⟨e,he⟩:=sortedAll_at s.heap its out;have hfresh:H (s.heap.objs.size+1)=none:=I.hok.fresh (Nat.le_succ _)
 refine ⟨.ref (s.heap.objs.size+1),_,I.laid (t':=s.toks) (fun b o h=>sortedAll_old h) (Nat.le_succ _) (?_:ObjOk X.prog X.w _ _ _ (.lst ((fj ns).map V.int))),rfl,q _ hfresh⟩;refine ⟨?_,out.toList,e,j9 a1,he⟩;rw[List.length_map,(fY ns).length_eq];exact hz
def eh:List D->Res D
 | [d]=>match d.its with
  |some ys=>match iM ys with
   |some ns=>if d.isL=true/\ns.length<64 then .ok (.lst .o ((fj ns).map D.int)) else .bad
   |none=>.bad
  |none=>.bad
 |_=>.bad
theorem qh:∀ es,noX (eh es)=true:=by
 intro es;unfold eh;split
 ·split
  ·split
   ·split<;>rfl
   ·rfl
  ·rfl
 ·rfl
theorem ud:FCall X (.builtin "sorted") eh:=by
 refine ⟨CallR.pre l9 ?_⟩;rintro us H Q ⟨Hs,H0,vs,ds,es,d,hl,S,e,k⟩;unfold eh at e;split at e
 ·rename_i d1
  split at e
  ·rename_i ys hy
   split at e
   ·rename_i ns hn
    split at e
    ·rename_i hc
     cases e
     obtain ⟨u,rfl⟩:=eA hl rfl;have S':SR Hs H0 H (some u::vs) (some d1::ds):=S;obtain ⟨a,us,rfl,ha,Hf,fp,O,F,R⟩:=S'.items hy;rw[hc.1] at ha;have hys:=lL hn;subst hys;have hus:=oN R;subst hus;exact ⟨a,ns,rfl,SqL.of ha,hc.2,fun l hl=>k _ _ (SR.laidL O F (qg _) (fun e m=>by obtain ⟨i,_,rfl⟩:=List.mem_map.mp m;rfl) hl)⟩
    ·cases e
   ·cases e
  ·cases e
 ·cases e
def Dr(ta:TA):TE:=fun σ H Q=>ta σ H fun vs H1=>∃ j:Int,vs=[.int j]/\∀ p,H1 p=none->Q (.ref p) (upd H1 p (.rng 0 j))
theorem zK{a:Expr}{ta:TA}{p:Pos}(hg:Gl X "range")(hm:X.mg "range" = none)(ha:PA X [a] ta)(hs:starEach [a] X.env=[(false,eval a X.env)]:=by rfl):PE X (.Call (.Name "range" p) [a] [] pos) (Dr ta):=by
 intro pins s σ H Q I h;refine Call_ (gU I hg hm boot_range (PyProof.Rows.callWith_type1 (thn (ha pos pins s σ H _ I h) fun us s1 ⟨vs,H1,I1,r1,q1⟩=>?_) hs rfl));obtain ⟨j,e,q⟩:=q1;subst e
 cases r1 with
 |cons r rr=>
  cases rr
  obtain ⟨t,rfl⟩:=r;refine call_range_1 ⟨.ref s1.heap.objs.size,_,I1.laid (fun b o e=>Heap.get?_push_of_some _ e) (Nat.le_refl _) (?_:ObjOk X.prog X.w _ _ _ (.rng 0 j)),rfl,q _ (I1.hok.fresh (Nat.le_refl _))⟩;exact ⟨_,_,_,Heap.get?_push_size _ rfl⟩
theorem pq(hc:X.calm=true):CallR X (.type "list") (fun xs H Q=>∃ p lo hi,xs=[.ref p]/\H p=some (.rng lo hi)/\-(2 ^ 62)<=lo/\lo<2 ^ 62/\-(2 ^ 62)<=hi/\hi<2 ^ 62/\(hi - lo).toNat<=1000000/\∀ l,H l=none->Q (.ref l) (upd H l (.lst ((List.range (hi - lo).toNat).map fun (i:Nat)=>V.int (lo+(i:Int)))))):=by
 intro pins s σ H xs us Q I r h;obtain ⟨p,lo,hi,rfl,hp,h1,h2,h3,h4,h5,q⟩:=h;obtain ⟨u,rfl,rx⟩:=i3 r
 cases rx
 obtain ⟨t,u,v,hr⟩:=I.hok p _ hp;have hn:Builtin.Range.rangeSize lo hi 1=((hi - lo).toNat:Nat):=by rw[rangeSize_one];split<;>omega
 refine call_list_range (n:=(hi - lo).toNat) (I.ok.hd hc) (show IsRange s.heap p lo hi 1 t u v from hr) (small_one h1 h2 h3 h4) hn (by omega) fun h' tk acc c' kp e hS=>?_;refine ⟨.ref s.heap.objs.size,_,I.laid kp (Nat.le_refl _) (?_:ObjOk X.prog X.w _ _ _ (.lst _)),rfl,q _ (I.hok.fresh (Nat.le_refl _))⟩;refine ⟨?_,acc.toList,c',?_,by simpa using e⟩
 ·rw[List.length_map,List.length_range,sizeLine_eq];omega
 ·obtain ⟨z1,z2⟩:=hS
  have go:∀ (n k:Nat) (l:List Value),l.length=n->(∀ j v,l[j]?=some v->∃ t,v=Value.int (lo+((k+j:Nat):Int)*1) t)->Vals ((List.range' k n).map fun (i:Nat)=>V.int (lo+(i:Int))) l:=by
   intro n;induction n with
   |zero=>intro k l hl _;cases l with | nil=>exact .nil | cons a b=>simp at hl
   |succ n ih=>
    intro k l hl hv
    cases l with
    |nil=>simp at hl
    |cons a b=>
     rw[List.range'_succ,List.map_cons];obtain ⟨t,ha⟩:=hv 0 a rfl;refine .cons ⟨t,by rw[ha];congr 1;simp⟩ (ih (k+1) b (by simpa using hl) fun j v hj=>?_);obtain ⟨t',hb⟩:=hv (j+1) v (by simpa using hj);exact ⟨t',by rw[hb,show k+(j+1)=k+1+j by omega]⟩
  have:=go (hi - lo).toNat 0 acc.toList (by simpa using z1) fun j v hj=>by
   obtain ⟨t,e⟩:=z2 j v (by simpa using hj);exact ⟨t,by rw[e,Nat.zero_add]⟩
  rw[List.range_eq_range'];exact this
def eJ(fa:ae->Res (List D)):ae->Res D:=fun ρ=>b7 fa ρ >>= fun items=>if items.length<=1000000 then .ok (.lst .o items) else .bad
theorem ue{H:Hp}(lo:Int)(n:Nat):Reps H ((List.range n).map fun (i:Nat)=>V.int (lo+(i:Int))) (aD lo n):=by
 unfold aD;induction List.range n with
 |nil=>exact .nil
 |cons a b ih=>exact .cons .int ih
theorem oO{a:Expr}{p p' q q':Pos}{fa:ae->Res (List D)}(hc:X.calm=true)(hg:Gl X "range")(hm:X.mg "range" = none)(hgl:Gl X "list")(hml:X.mg "list" = none)(ha:FA X H0 Ex [a] fa)(hs:starEach [a] X.env=[(false,eval a X.env)]:=by rfl)
    (h1:starEach [.Call (.Name "range" p) [a] [] q] X.env=(false,eval (.Call (.Name "range" p) [a] [] q) X.env)::starEach [] X.env:=by rfl) (h2:(backTo q' (starEach [] X.env)).any (·.1)=false:=by rfl) :
    FE X H0 Ex (.Call (.Name "list" p') [.Call (.Name "range" p) [a] [] q] [] q') (eJ fa):=by
 refine ⟨PE.pre (oH (pq hc) hgl hml (by decide +kernel) (eG (zK hg hm ha.go hs) fW h1) (by decide) (by decide) h1 h2) ?_⟩;rintro σ H Q ⟨Hs,ρ,ts,S,pp⟩;unfold eJ b7 at pp;refine ⟨Hs,ρ,ts,S,(Post.bind (Post.bind pp)).imp fun es _ p1 us H1 hl S1=>?_⟩;split at p1
 ·rename_i j _
  split at p1
  ·rename_i hcc
   simp at hcc;have p1:Post Ex (if (aD 0 j.toNat).length<=1000000 then Res.ok (D.lst .o (aD 0 j.toNat)) else .bad) fun d=>∀ v H',SX Hs H0 H' ((v,d)::ts) σ ρ->Q v H':=p1;split at p1
   ·rename_i hlen
    obtain ⟨u,rfl⟩:=eA hl rfl;have S2:SR Hs H0 H1 (some u::(tvs ts++σ)) (some (.int j)::(tds ts++ρ)):=SX.held hl S1
    cases SR.isInt S2
    refine ⟨j,rfl,fun r hr=>?_⟩;have sm:Same H1 (upd H1 r (.rng 0 j)):=fun b o e=>by rw[aR (bC e hr)];exact e
    obtain ⟨Hf,fp,O,F⟩:=S2.drop.grow sm;have hlen:j.toNat<=1000000:=by simpa [aD] using hlen
    refine ⟨r,0,j,rfl,bP,by omega,by omega,by omega,by omega,by simpa using hlen,fun l hl=>p1 _ _ ?_⟩;have:=SR.laidL O F (ue 0 (j - 0).toNat) (fun e m=>by obtain ⟨i,_,rfl⟩:=List.mem_map.mp m;rfl) hl;rw[show j - 0=j by omega] at this ⊢;exact this
   ·exact p1.elim
  ·exact p1.elim
 ·exact p1.elim
def Ds(h0 h:Heap)(H:Hp)(a:Addr)(C:Value):Prop:=∃ oe vs T oT ts,h.get? a=some oe/\oe.cls=C/\oe.data=.fields vs/\vs[1]?=some (.ref T)/\T≠a/\h.get? T=some oT/\oT.data=.fields ts/\ts[3]?=some .none/\H a=none/\H T=none/\h0.get? a=none/\h0.get? T=none
def CXm(P:Program)(w:World):CXT:=fun outer H s E e s'=>∃ a C H',e=.ref a/\s'.os=s.os/\AllBare s'.gens/\Un (frs outer) [] H H' s.heap s'.heap/\HOk P w H' s'.heap/\Ds s.heap s'.heap H' a C/\E C none H'
theorem cC{CX:CXT}{P:Program}{w:World}{K:PySem.W.Frag}{mg:Str->Option Value}{base:Heap}{N:List Str}{qual:Str}{scope:Scope}{f:Addr}{cd:Value}{A:Around}{outer:List Env}{s:Shared}{H:Hp}{E:XK}:Po (jF CX P w K mg base N qual scope f cd A outer s H E):=⟨PassesOwn.leaving⟩
theorem zL{X:Cx}{P:Program}{w:World}:gW (CXm P w) X (fun _ _ _=>False):=fun _ _ _ _ _ _ _ h=>by
 obtain ⟨_,_,_,_,_,_,_,_,_,z⟩:=h;exact z.elim
structure Cal (P:Program) (w:World) (K:PySem.W.Frag) (mg:Str->Option Value) (base:Heap) (x:Str) (n:Nat) (F:List D->Res D) (k:Nat):Prop where
 ex:∃ f fd ps,FnOk P w K mg base (CXm P w) k f fd ps (spF n F)/\mg x=some (.ref f)/\PySem.W.keepIn K (.ref f)=true/\Binds K fd ps []
structure Df (K:PySem.W.Frag) (mg:Str->Option Value) (x:Str) (st:Stmt) (ps:List Str):Prop where
 ex:∃ f fd,Fun K x x st f fd/\mg x=some (.ref f)/\Binds K fd ps []
def aq(n:Nat)(F:List D->Res D)(fa:ae->Res (List D)):ae->Res D:=fun ρ=>fa ρ >>= fun ds=>if ds.length=n then ee F ds else .bad
theorem CompScope.of{X:Cx}{scope:Scope}{own:List Str}{cap:List (Str × Nat)}(h1:scope.kind=.function)(h2:(scope.names.map (·.1)).Nodup)(h3:(scope.names.all fun x=>!(x.2 == .free)||X.env.kindOf x.1 == some .cell||X.env.kindOf x.1 == some .free)=true)
    (h4:(cap.all fun p=>X.N[p.2]? == some p.1&&scope.names.lookup p.1 == some .free)=true) (h5:(own++cap.map (·.1)).Nodup):CompScope X scope own cap where
 kind:=h1
 nd:=h2
 free:=fun x hx hk=>by
  have:=List.all_eq_true.mp h3 x hx;rw[hk] at this;simp at this;exact this
 capN:=fun p hp=>by
  have:=List.all_eq_true.mp h4 p hp;simp at this;exact this
 ndN:=h5
end
theorem vF{P:Program}{w:World}{H:Hp}{h:Heap}{a:Addr}{o:HO}(x:ObjOk P w H h a o):∃ u,h.get? a=some u:=by
 cases o with
 |lst xs=>obtain ⟨_,_,_,_,e⟩:=x;exact ⟨_,e⟩
 |tup xs=>obtain ⟨_,_,_,o,e,_⟩:=x;exact ⟨_,e⟩
 |dK kvs=>obtain ⟨_,_,_,_,o,_,_,e,_⟩:=x;exact ⟨_,e⟩
 |dT kvs=>obtain ⟨_,_,_,_,o,_,_,e,_⟩:=x;exact ⟨_,e⟩
 |set S n=>obtain ⟨o,_,_,_,e,_⟩:=x;exact ⟨_,e⟩
 |ins C dx fs=>obtain ⟨_,_,_,e,_⟩:=x;exact ⟨_,e⟩
 |own y=>obtain ⟨_,e⟩:=x;exact ⟨_,e⟩
 |xd fs=>obtain ⟨_,⟨_,_,_,e,_⟩,_⟩:=x;exact ⟨_,e⟩
 |rng lo hi=>obtain ⟨_,_,_,e⟩:=x;exact ⟨_,e⟩
 |frz ob u=>obtain ⟨e,_⟩:=x;exact ⟨_,e⟩
 |tbl ps=>exact ⟨_,(show h.get? a=some _ from x)⟩
 |met f y=>exact ⟨_,(show h.get? a=some _ from x)⟩
 |ext φ=>obtain ⟨_,⟨_,e⟩,_⟩:=x;exact ⟨_,e⟩
theorem km{base h h':Heap}{fs:List Addr}{H1 H':Hp}(u:Un fs [] H1 H' h h'):∀ {l:List Env},(∀ b∈frs l,b∈fs)->(∀ b∈frs l,H1 b=none)->h.FunFrames base l->h'.FunFrames base l
 | [],_,_,_=>trivial
 |env::r,hs,hn,⟨hk,⟨L,o,hf,hb,ho,hd⟩,hr⟩=>by
  have mem:frs (env::r)=L::frs r:=by unfold frs;rw[List.filterMap_cons,hf]
  have hL:L∈frs (env::r):=by rw[mem];exact List.mem_cons_self
  obtain ⟨sl,e⟩:=u.slot L o ho (hn L hL) (hs L hL) (by simp);exact ⟨hk,⟨L,_,hf,hb,e,hd⟩,km u (fun b m=>hs b (by rw[mem];exact List.mem_cons_of_mem _ m)) (fun b m=>hn b (by rw[mem];exact List.mem_cons_of_mem _ m)) hr⟩
section
variable {P:Program}{w:World}{K:PySem.W.Frag}{mg:Str->Option Value}{base:Heap}{N:List Str}{qual:Str}{scope:Scope}{f:Addr}{cd:Value}{A:Around}{outer:List Env}{s:Shared}{H:Hp}{E:XK}
abbrev cxm(P:Program)(w:World)(K:PySem.W.Frag)(mg:Str->Option Value)(base:Heap)(N:List Str)(qual:Str)(scope:Scope)(f:Addr)(cd:Value)(A:Around)(outer:List Env)(s:Shared)(H:Hp)(E:XK):Cx:=jF (CXm P w) P w K mg base N qual scope f cd A outer s H E
theorem sv{pins:List (Addr × Obj)}{σ:St}{H1 H':Hp}{s1 s':Shared}{a:Addr}{C:Value}{Ts:List Addr}{h'':Heap}(I:Inv (cxm P w K mg base N qual scope f cd A outer s H E) pins σ H1 s1)
    (u:Un (frs (cxm P w K mg base N qual scope f cd A outer s H E).stack) [] H1 H' s1.heap s'.heap) (hos:s'.os=s1.os) (bare:AllBare s'.gens) (hok:HOk P w H' s'.heap) (ha:H' a=none) (hna:s1.heap.get? a=none) (hT:∀ T∈Ts,H' T=none/\s1.heap.get? T=none)
    (FF:s'.heap.FunFrames base (cxm P w K mg base N qual scope f cd A outer s H E).stack)
    (L:Heap.Left (PySem.W.hideAll s'.heap (a::(Ts++frs (cxm P w K mg base N qual scope f cd A outer s H E).stack))) (cxm P w K mg base N qual scope f cd A outer s H E).stack a C s'.heap h'') (hE:E C none H'):CXm P w outer H s E (.ref a) { s' with heap:=h'' }:=by
 obtain ⟨st,ff,tr,sl⟩:=L;have ib:Un (frs outer) [] H H1 s.heap s1.heap:=I.base;have kB:∀ b o,s'.heap.get? b=some o->b≠a->b∉Ts->b∉frs (cxm P w K mg base N qual scope f cd A outer s H E).stack->h''.get? b=some o:=fun b o e h1 h2 h3=>st b o (PySem.W.hideAll_get _ e fun m=>by
  rcases List.mem_cons.mp m with z | m
  ·exact h1 z
  ·exact (List.mem_append.mp m).elim h2 h3)
 have frN:∀ b∈frs (cxm P w K mg base N qual scope f cd A outer s H E).stack,H' b=none:=fun b m=>by
  obtain ⟨_,o,ho,_⟩:=I.stack.mem m;exact u.free b o ho (I.stkFree b m) (by simp)
 have eSt:frs (cxm P w K mg base N qual scope f cd A outer s H E).stack=s.heap.objs.size::frs outer:=rfl;have ne1:∀ b o,s.heap.get? b=some o->b≠a/\b∉Ts:=fun b o e=>by
  obtain ⟨o1,e1⟩:=ib.there b o e (by simp);refine ⟨fun z=>?_,fun m=>?_⟩
  ·rw[z,hna] at e1;cases e1
  ·rw[(hT b m).2] at e1;cases e1
 have neL:∀ b o,s.heap.get? b=some o->b≠s.heap.objs.size:=fun b o e=>Nat.ne_of_lt (Heap.lt_size e);refine ⟨a,C,H',rfl,hos.trans I.os,bare,⟨fun b o e n hb _=>?_,fun b o e n hb _=>?_,fun b o e n _=>?_,fun b o e _=>?_,fun b xs e=>u.tups b xs (ib.tups b xs e),fun b o xs e=>u.frzs b o xs (ib.frzs b o xs e),fun b ps e=>?_⟩,fun b ob e=>?_,?_,hE⟩
 ·have nst:b∉frs (cxm P w K mg base N qual scope f cd A outer s H E).stack:=by
     rw[eSt];intro m;rcases List.mem_cons.mp m with z | m
     ·exact neL b o e z
     ·exact hb m
  exact kB b o (u.keep b o (ib.keep b o e n hb (by simp)) (ib.free b o e n (by simp)) nst (by simp)) (ne1 b o e).1 (ne1 b o e).2 nst
 ·have hst:b∈frs (cxm P w K mg base N qual scope f cd A outer s H E).stack:=by rw[eSt];exact List.mem_cons_of_mem _ hb
  obtain ⟨sl1,e1⟩:=ib.slot b o e n hb (by simp);obtain ⟨sl2,e2⟩:=u.slot b _ e1 (ib.free b o e n (by simp)) hst (by simp);obtain ⟨_,o',ho',hd⟩:=FF.mem hst;rw[e2] at ho'
  cases ho'
  obtain ⟨sl3,e3⟩:=sl b _ e2 hd;exact ⟨sl3,e3⟩
 ·obtain ⟨o1,e1⟩:=ib.there b o e (by simp)
  exact u.free b o1 e1 (ib.free b o e n (by simp)) (by simp)
 ·obtain ⟨o1,e1⟩:=ib.there b o e (by simp)
  obtain ⟨o2,e2⟩:=u.there b o1 e1 (by simp);by_cases hst:b∈frs (cxm P w K mg base N qual scope f cd A outer s H E).stack
  ·obtain ⟨_,o',ho',hd⟩:=FF.mem hst
   rw[e2] at ho'
   cases ho'
   obtain ⟨sl3,e3⟩:=sl b _ e2 hd;exact ⟨_,e3⟩
  ·exact ⟨o2,kB b o2 e2 (ne1 b o e).1 (ne1 b o e).2 hst⟩
 ·obtain ⟨m1,e1⟩:=ib.tbls b ps e
  obtain ⟨m2,e2⟩:=u.tbls b _ e1;exact ⟨m1++m2,by rw[e2,Array.append_assoc]⟩
 ·refine (hok b ob e).stay (fun c v hc q=>kB c v q ?_ ?_ ?_) (fun _ q=>q) fun _ _ q=>q
  ·rintro rfl
   rcases hc with rfl | hc
   ·rw[ha] at e;cases e
   ·rw[ha] at hc;cases hc
  ·intro m
   rcases hc with rfl | hc
   ·rw[(hT c m).1] at e;cases e
   ·rw[(hT c m).1] at hc;cases hc
  ·intro m
   have:=frN c m;rcases hc with rfl | hc
   ·rw[this] at e;cases e
   ·rw[this] at hc;cases hc
 ·obtain ⟨oe,vs,T,oT,ts,x1,x2,x3,x4,x5,x6,x7,x8,x9⟩:=tr
  have back:∀ b,s1.heap.get? b=none->s.heap.get? b=none:=fun b hb=>by
   cases q:s.heap.get? b with
   |none=>rfl
   |some o=>obtain ⟨o1,e1⟩:=ib.there b o q (by simp);rw[hb] at e1;cases e1
  refine ⟨oe,vs,T,oT,ts,x1,x2,x3,x4,x6,x7,x8,x9,ha,?_,back a hna,?_⟩
  all_goals
   by_cases hm:T∈Ts
   ·first
       |exact (hT T hm).1
       |exact back T (hT T hm).2
   ·have hst:T∉frs (cxm P w K mg base N qual scope f cd A outer s H E).stack:=fun m=>by
       obtain ⟨_,o',ho',hd⟩:=ff.mem m;rw[x7] at ho'
       cases ho'
       exact hd _ x8
    have hn:s'.heap.get? T=none:=by
     cases q:s'.heap.get? T with
     |none=>rfl
     |some o=>
      have:=PySem.W.hideAll_get (a::(Ts++frs (cxm P w K mg base N qual scope f cd A outer s H E).stack)) q fun m=>by
       rcases List.mem_cons.mp m with z | m
       ·exact x6 z
       ·exact (List.mem_append.mp m).elim hm hst
      rw[this] at x5
      cases x5
    first
     | (cases q:H' T with
        |none=>rfl
        |some o=>obtain ⟨v,e⟩:=vF (hok T o q);rw[hn] at e;cases e)
     | (cases q:s.heap.get? T with
        |none=>rfl
        |some o=>
         obtain ⟨o1,e1⟩:=ib.there T o q (by simp)
         obtain ⟨o2,e2⟩:=u.there T o1 e1 (by simp)
         rw[hn] at e2;cases e2)
theorem zM{Ex:Value->Prop}{H0:Hp}(hE:∀ C H',Ex C->Same H0 H'->E C none H'):gW (CXm P w) (cxm P w K mg base N qual scope f cd A outer s H E) (Exk H0 Ex):=by
 intro pins σ H1 s1 e s' I h;obtain ⟨a,C,H',rfl,hos,bare,u,hok,⟨oe,vs,T,oT,ts,x1,x2,x3,x4,x5,x6,x7,x8,x9,x10,x11,x12⟩,ex,sm⟩:=h;have FF:s'.heap.FunFrames base (cxm P w K mg base N qual scope f cd A outer s H E).stack:=km u (fun _ m=>m) (fun b m=>I.stkFree b m) I.stack
 show wpAny (model P w) (A.deeper (envOfC qual scope s.heap.objs.size f cd)) (leaving (envOfC qual scope s.heap.objs.size f cd) (.ref a)) _ _ s';refine wpAny_leaving_next (base:=PySem.W.hideAll s'.heap (a::([T]++frs (cxm P w K mg base N qual scope f cd A outer s H E).stack))) (outer:=outer) (L:=s.heap.objs.size) (cls:=C) I.ok.frames ?_ rfl
  ⟨oe,vs,T,oT,ts,x1,x2,x3,x4,PySem.W.hideAll_none _ (by simp),x5,x6,x7,x8⟩ (fun b o e=>PySem.W.of_hideAll _ e) (PySem.W.hideAll_none _ (by simp)) fun h'' L=>?_
 ·exact PySem.W.funFrames_hide FF fun env he b hb=>List.mem_cons_of_mem _ (List.mem_append_right _ (List.mem_filterMap.mpr ⟨env,he,hb⟩))
 ·exact sv (Ts:=[T]) I u hos bare hok x9 x11 (fun T' m=>by simp at m;subst m;exact ⟨x10,x12⟩) FF L (hE C H' ex sm)
structure Pa (X:Cx) (H0:Hp) (Ex:Value->Prop):Prop where
 go:gW (CXm X.prog X.w) X (Exk H0 Ex)
theorem aT{Ex:Value->Prop}{H0:Hp}(hE:∀ C H',Ex C->Same H0 H'->E C none H'):Pa (cxm P w K mg base N qual scope f cd A outer s H E) H0 Ex:=⟨zM hE⟩
end
theorem aE{X:Cx}{H0:Hp}{Ex:Value->Prop}{x:Str}{n k:Nat}{F:List D->Res D}{p pos:Pos}{e:Expr}{es:List Expr}{fa:ae->Res (List D)}(c:Cal X.prog X.w X.K X.mg X.base x n F k)(hx:Pa X H0 Ex)(hr:Room k X.A)(hg:Gl X x)(ha:FA X H0 Ex (e::es) fa)(hn:(e::es).length=n:=by rfl)
    (hdb:(x == ("__debug__" : Str))=false:=by decide) (he:starEach (e::es) X.env=(false,eval e X.env)::starEach es X.env:=by rfl) (hpl:(backTo pos (starEach es X.env)).any (·.1)=false:=by rfl) :
    FE X H0 Ex (.Call (.Name x p) (e::es) [] pos) (aq n F fa):=by
 obtain ⟨f,fd,ps,G,hm,hk,hb⟩:=c.ex;exact zI G hr hg hm hk hb hx.go ha hn hdb he hpl
def pJ:List Value:=[.type "ValueError", .type "Exception", .type "BaseException", .type "object"]
structure XCls (K:PySem.W.Frag) (mg:Str->Option Value) (x:Str) (C:Addr):Prop where
 bound:mg x=some (.ref C)
 obj:∀ h:Heap,K.In h->∃ bm N nm q bs hdct sn sub ab col dd k0 k1 k2 k3 k5 mN,h.get? C=some (excClassObj nm q C N bs bm hdct sn sub ab col dd k0 k1 k2 k3 k5 "ValueError.__new__")/\h.Ns N mN/\mN "__init__" = none/\OwnTail h pJ bm
theorem zN{K:PySem.W.Frag}{mg:Str->Option Value}{x:Str}{C:Addr}(hb:mg x=some (.ref C))(hc:PySem.W.excIn K C pJ "ValueError.__new__" = true):XCls K mg x C:=by
 refine ⟨hb,fun h hK=>?_⟩;unfold PySem.W.excIn at hc;split at hc
 ·rename_i dd cl sl look
  split at hc
  ·rename_i C2 rest y0 y1 y2 y3 nn y5 hmro hslots
   simp only[Bool.and_eq_true,beq_iff_eq,Bool.not_eq_true'] at hc;have c1:=hc.1.1.1.1.1;have c2:=hc.1.1.1.1.2;have c3:=hc.1.1.1.2;have c4:=hc.1.1.2;have c5:=hc.1.2;have c6:=hc.2;subst c1 c2;have es:sl=#[y0,y1,y2,y3,some (.builtin "ValueError.__new__"),y5]:=Array.ext' hslots;subst es;have ob:=hK _ _ look
   cases cl
   dsimp only at hmro c3 c5 c6;subst hmro c3;exact ⟨rest,_,_,_,_,_,_,_,_,_,_,_,_,_,_,_,_,ob,.of_isNs (PySem.W.isNs_of_in hK c5),PySem.W.nsMap_none_of_in hK c5 c6,PySem.W.tail_of_in hK c4⟩
  ·cases hc
 ·cases hc
section
variable {P:Program}{w:World}{K:PySem.W.Frag}{mg:Str->Option Value}{base:Heap}{N:List Str}{qual:Str}{scope:Scope}{f:Addr}{cd:Value}{A:Around}{outer:List Env}{s:Shared}{H:Hp}{E:XK}
theorem fM{Ex:Value->Prop}{H0:Hp}{x:Str}{C:Addr}{words:Str}{j:Nat}{np p1 cpos pos:Pos}(O:XCls K mg x C)(hE:∀ C H',Ex C->Same H0 H'->E C none H')(hg:Gl (cxm P w K mg base N qual scope f cd A outer s H E) x)(hd:(x == ("__debug__" : Str))=false:=by decide)
    (hs1:starEach [.Constant (.str words) j p1] (cxm P w K mg base N qual scope f cd A outer s H E).env=(false,eval (.Constant (.str words) j p1) (cxm P w K mg base N qual scope f cd A outer s H E).env)::starEach [] (cxm P w K mg base N qual scope f cd A outer s H E).env:=by rfl) :
    FS (cxm P w K mg base N qual scope f cd A outer s H E) H0 Ex (.Raise (some (.Call (.Name x np) [.Constant (.str words) j p1] [] cpos)) none pos) (fun _=>.exc (.ref C)):=by
 refine ⟨?_⟩;intro pins s1 σ H1 En I h;obtain ⟨Hs,ρ,⟨S,n⟩,p⟩:=h;have p:Ex (.ref C):=p;obtain ⟨bm,Na,nm,q,bs,hdct,sn,sub,ab,col,dd,k0,k1,k2,k3,k5,mN,hC,hN,hni,T⟩:=O.obj base I.mod.kin;have FB:=PySem.F.excBase_ValueError
 refine wpAny_Raise_call_subU (C:=C) (nm:=nm) (q:=q) (N:=Na) (bs:=bs) (bm:=bm) (hdct:=hdct) (sn:=sn) (sub:=sub) (ab:=ab) (col:=col) (dd:=dd) (k0:=k0) (k1:=k1) (k2:=k2) (k3:=k3) (k5:=k5)
  FB (by decide) FB (mN:=mN) (T.hasType FB.hasBase) (I.ok.hd rfl) (by rw[hs1];rfl) hni (kX I hg O.bound ⟨rfl,?_⟩ hd)
 rw[hs1];refine Calls.evalArgs_plain ?_;have PAok:=eG (X:=cxm P w K mg base N qual scope f cd A outer s H E) (e:=.Constant (.str words) j p1) (es:=[]) uV fW hs1;have sp:=PAok cpos pins s1 σ H1 (fun vs H'=>vs.length=1/\H'=H1) I ⟨rfl,rfl⟩;rw[hs1] at sp;refine thn sp fun us s2 ⟨vs,H2,I2,rv,hl,e2⟩=>?_;subst e2;refine ⟨rfl,?_,I2.bk _ _ hC,hN.keeps I2.bk,T.keeps I2.bk,fun h' e hm=>?_⟩
 ·show us.length<=sizeLine
  rw[<- rv.length,hl];decide
 ·have hu:Un (frs (cxm P w K mg base N qual scope f cd A outer s H E).stack) [] H2 H2 s2.heap h':=Un.kept hm.keeps
  have FF:h'.FunFrames base (cxm P w K mg base N qual scope f cd A outer s H E).stack:=km hu (fun _ m=>m) (fun b m=>I2.stkFree b m) I2.stack;obtain ⟨t,ht,_,_⟩:=hm.there;have hne:H2 e=none:=by
   cases qq:H2 e with
   |none=>rfl
   |some o=>obtain ⟨v,ev⟩:=vF (I2.hok e o qq);rw[hm.new] at ev;cases ev
  show wpAny (model P w) (A.deeper (envOfC qual scope s.heap.objs.size f cd)) (leaving (envOfC qual scope s.heap.objs.size f cd) (.ref e)) _ _ { s2 with heap:=h' }
  refine wpAny_leaving_first (base:=PySem.W.hideAll h' (e::([]++frs (cxm P w K mg base N qual scope f cd A outer s H E).stack))) (outer:=outer) (L:=s.heap.objs.size) I2.ok.frames ?_ rfl ht (fun b o e=>PySem.W.of_hideAll _ e) (PySem.W.hideAll_none _ (by simp)) rfl rfl fun h'' L=>?_
  ·exact PySem.W.funFrames_hide FF fun env he b hb=>List.mem_cons_of_mem _ (List.mem_append_right _ (List.mem_filterMap.mpr ⟨env,he,hb⟩))
  ·exact sv (Ts:=[]) (s':={ s2 with heap:=h' }) I2 hu rfl I2.bare (I2.hok.kept hm.keeps) hne hm.new (fun T' m=>by simp at m) FF L (hE _ _ p S.same)
theorem bK{x:Str}{st:Stmt}{ps:List Str}{k:Nat}{g:ae->FOut}(U:Df K mg x st ps)(S:FnScope N ps (az st))
    (hbody:∀ (f:Addr) (cdv:Value) (A:Around) (outer:List Env) (s:Shared) (H:Hp) (E:XK) (Ex:Value->Prop),(∀ C H',Ex C->Same H H'->E C none H')->Room k (A.deeper (envOfC x (az st) s.heap.objs.size f cdv)) →
     FSs (cxm P w K mg base N x (az st) f cdv A outer s H E) H Ex (cK st) g):Cal P w K mg base x ps.length (bj N.length g) (k+1):=by
 obtain ⟨f,fd,F,hm,hb⟩:=U.ex;exact ⟨f,fd,ps,sr F S fun cdv A outer s H E ds hr hl hx=>⟨g,hbody f cdv A outer s H E _ (fun C H' e sm=>hx C e H' sm) hr,rfl⟩,hm,F.kp,hb⟩
end
def jK(f:Str)(v:D):List (Str × D)->List (Str × D)
 | []=>[(f,v)]
 | (g,u)::r=>if g=f then (g,v)::r else (g,u)::jK f v r
theorem RepF.put{H:Hp}{f:Str}{v:V}{d:D}(h:Rep H v d):∀ {fs:List (Str × V)} {ds:List (Str × D)},RepF H fs ds->RepF H (dI f v fs) (jK f d ds)
 |_,_,.nil=>.cons h .nil
 |_,_,.cons (k:=g) q r=>by
  unfold dI jK;split
  ·exact .cons h r
  ·exact .cons q (RepF.put h r)
theorem RepF.look{H:Hp}{f:Str}{d:D}:∀ {fs:List (Str × V)} {ds:List (Str × D)},RepF H fs ds->ds.lookup f=some d->∃ v,fs.lookup f=some v/\Rep H v d
 |_,_,.nil,e=>by simp at e
 |_,_,.cons (k:=g) q r,e=>by
  rw[List.lookup_cons] at e ⊢
  cases hb:f == g with
  |true=>rw[hb] at e;cases e;exact ⟨_,rfl,q⟩
  |false=>rw[hb] at e;exact RepF.look r e
theorem RepF.length{H:Hp}:∀ {fs:List (Str × V)} {ds:List (Str × D)},RepF H fs ds->fs.length=ds.length
 |_,_,.nil=>rfl
 |_,_,.cons _ r=>by simp[RepF.length r]
section
variable {Hs H0 H:Hp}{vs:List (Option V)}{ds:List (Option D)}{v:V}{d:D}
theorem SR.field{C:Addr}{t:Tg}{fs:List (Str × D)}{f:Str}{x:D}(S:SR Hs H0 H (some v::vs) (some (.ins t C fs)::ds))(hx:fs.lookup f=some x) :
    ∃ a dx fvs u,v=.ref a/\H a=some (.ins C dx fvs)/\fvs.lookup f=some u/\SR Hs H0 H (some u::vs) (some x.asF::ds):=by
 obtain ⟨Hf,fp,O,F⟩:=S
 cases O with
 |cons h r=>
  cases h with
  |fz h _=>
   cases h with
   |ins h q=>
    obtain ⟨u,hu,ru⟩:=q.look hx;exact ⟨_,_,_,u,rfl,F.fh _ _ h,hu,Hf,_,.cons (.fz ru.asF x.asF_tag) r,F.subl (by simp)⟩
 |brw z h r=>
  cases h with
  |fz h z'=>rw[z'] at z;cases z
  |ins _ h q=>
   obtain ⟨u,hu,ru⟩:=q.look hx;exact ⟨_,_,_,u,rfl,h,hu,Hf,_,Own.cons (fp:=[]) (.fz ru.asF x.asF_tag) r,F⟩
theorem SR.setField{C p:Addr}{fs:List (Str × D)}{f:Str}{i:Nat}(S:SR Hs H0 H (some v::vs) (some d::ds))(t:d.tag=.f)(n:noB ds)(e:ds[i]?=some (some (.slf p C fs))) :
    ∃ dx fvs,vs[i]?=some (some (.ref p))/\H p=some (.ins C dx fvs)/\fvs.length=fs.length/\SR Hs H0 (upd H p (.ins C dx (dI f v fvs))) vs (ds.set i (some (.slf p C (jK f d fs)))):=by
 obtain ⟨Hf,fp,O,F⟩:=S
 cases O with
 |brw z h r=>rw[t] at z;cases z
 |cons h r=>
  rename_i f0 f1
  cases h with
  |lst _ _=>cases t
  |dic _ _=>cases t
  |slf _ _ _=>cases t
  |fz hv _=>
   have F:Fine Hs H0 Hf H f1:=F;obtain ⟨q,fpx,fpr,e',rq,pm,w⟩:=r.write n F.nd e rfl
   cases rq with
   |slf hq hdx R=>
    rename_i dx fvs;have F':=F.perm pm.symm;have nd':=F'.nd;have hp:p∈f1:=pm.symm.subset (by simp);have hpn:p∉dx::fpr:=by
     have:(p::(dx::fpr)).Nodup:=by simpa using nd'
     exact (List.nodup_cons.mp this).1
    have kp:∀ a o,a∈dx::fpr->H a=some o->upd H p (.ins C dx (dI f v fvs)) a=some o:=fun a o m z=>gA (fun y=>by subst y;exact hpn m) z;obtain ⟨fp',O',p'⟩:=w (upd H p (.ins C dx (dI f v fvs))) (.slf p C (jK f d fs)) [p,dx] (fun a o m z=>kp a o (List.mem_cons_of_mem _ m) z) (.slf bP (kp dx _ List.mem_cons_self hdx) (R.put hv));refine ⟨dx,fvs,e',hq,R.length,Hf,fp',O',F.wrote hp ?_ ?_⟩
    ·exact (p'.nodup_iff).mpr (by simpa using nd')
    ·intro a m
     exact F'.own a (by simpa using p'.subset m)
end
section
variable {X:Cx}{Ex:Value->Prop}{H0:Hp}{e o value:Expr}{f fa fv:ae->Res D}{pos pos':Pos}{fld:Str}{C:Addr}
def ci(C:Addr)(fld:Str):D->Res D
 | .ins _ C' fs=>if C'=C then bT ((fs.lookup fld).map D.asF) else .bad
 |_=>.bad
theorem eB(he:FE X H0 Ex e fa)(c:Cls X.K C)(na:NoAttr X.K C fld)(hb:attributeBase e fld X.env (eval e X.env)=eval e X.env:=by rfl):FE X H0 Ex (.Attribute e fld pos) (f1 (ci C fld) fa):=by
 refine ⟨PE.pre (Bp he.go hb) ?_⟩;rintro σ H Q ⟨Hs,ρ,ts,S,p⟩;refine ⟨Hs,ρ,ts,S,(Post.bind p).imp fun d _ p1 v H1 S1=>?_⟩
 cases d with
 |ins t C' fs=>
  by_cases hC:C'=C
  ·subst hC
   have p1:Post Ex (if C'=C' then bT ((fs.lookup fld).map D.asF) else .bad) fun d=>∀ v H',SX Hs H0 H' ((v,d)::ts) σ ρ->Q v H':=p1;rw[if_pos rfl] at p1
   cases el:fs.lookup fld with
   |none=>rw[el] at p1;exact p1.elim
   |some x=>
    rw[el] at p1;have S1:SR Hs H0 H1 (some v::(tvs ts++σ)) (some (.ins t C' fs)::(tds ts++ρ)):=S1;obtain ⟨a,dx,fvs,u,rfl,hH,hu,S2⟩:=S1.field el;exact ⟨a,C',dx,fvs,u,rfl,hH,c,na,hu,p1 u H1 S2⟩
  ·have p1:Post Ex (if C'=C then bT ((fs.lookup fld).map D.asF) else .bad) fun d=>∀ v H',SX Hs H0 H' ((v,d)::ts) σ ρ->Q v H':=p1
   rw[if_neg hC] at p1;exact p1.elim
 |_=>exact p1.elim
def fB(i:Nat)(C:Addr)(fld:Str)(fv:ae->Res D):ae->FOut:=fun ρ=>match ρ[i]? with
 |some (some (.slf p C' fs))=>aft (fv ρ) fun d=>if C'≠C\/d.tag=.b\/1000<=fs.length then .bad else .nx (ρ.set i (some (.slf p C' (jK fld d.fz fs))))
 |_=>.bad
theorem jt{i:Nat}{x:Str}{p1:Pos}(ho:PV X (.Name x p1) i)(hv:FE X H0 Ex value fv)(c:Cls X.K C)(na:NoAttr X.K C fld)(hs:swapsWith value (some (.Attribute (.Name x p1) fld pos')) pos.line X.env=pure false:=by rfl) :
    FS X H0 Ex (.Assign [.Attribute (.Name x p1) fld pos'] value pos) (fB i C fld fv):=by
 refine ⟨PS.pre (Bq ho.go hv.go hs) ?_⟩;rintro En σ H ⟨Hs,ρ,⟨S,n⟩,p⟩;unfold fB at p;split at p
 ·rename_i q C' fs hx
  refine ⟨Hs,ρ,[],S,(PostS.aft p).imp fun d _ p1 v H1 S1=>?_⟩;split at p1
  ·exact p1.elim
  ·rename_i hc
   have hC:C'=C:=Decidable.byContradiction fun z=>hc (.inl z);subst hC;have hb:d.tag≠.b:=fun z=>hc (.inr (.inl z));have S1:SR Hs H0 H1 (some v::σ) (some d::ρ):=S1;obtain ⟨dx,fvs,hσ,hH,hl,S2⟩:=(S1.frz hb).setField (f:=fld) d.fz_tag n hx;refine ⟨.ref q,hσ,q,C',dx,fvs,rfl,hH,c,na,?_,p1 σ _ ⟨S2,n.set fun d' z=>by cases z;exact fun y=>nomatch y⟩⟩;rw[hl];exact Nat.lt_of_not_le fun z=>hc (.inr (.inr z))
 ·exact p.elim
def ir(H:Hp)(x dx:Addr):Hp:=fun a=>if a=x\/a=dx then none else H a
theorem uf{H:Hp}{x dx:Addr}:Same (ir H x dx) H:=fun a o e=>by
 unfold ir at e;split at e
 ·cases e
 ·exact e
def spI(C:Addr)(n:Nat)(F:Addr->List D->Res (List (Str × D))):Sp:=fun vs H Q E=>∃ Hs us ds x dx,vs=.ref x::us/\ds.length=n/\x≠dx/\H x=some (.ins C dx [])/\H dx=some (.own x)/\Hs x=none/\Hs dx=none/\Same Hs H/\Reps Hs us ds/\(∀ d∈ds,d.tag=.f) ∧
 match F x ds with
 | .ok fs=>∀ H',SR Hs (ir H x dx) H' [some (.ref x)] [some (.slf x C fs)]->Q .non H'
 | .exc Cx=>∀ H',Same (ir H x dx) H'->E Cx none H'
 | .bad=>False
def dC(C:Addr)(N:Nat)(g:ae->FOut)(x:Addr)(ds:List D):Res (List (Str × D)):=match g (some (D.slf x C [])::(ds.map some++List.replicate (N - (ds.length+1)) none)) with
 | .nx ρ=>match ρ[0]? with
  |some (some (D.slf y C' fs))=>if y=x/\C'=C then .ok fs else .bad
  |_=>.bad
 | .exc Cx=>.exc Cx
 |_=>.bad
theorem vG{P:Program}{w:World}{K:PySem.W.Frag}{mg:Str->Option Value}{base:Heap}{x qual:Str}{st:Stmt}{f:Addr}{fd:FuncData}{N ps:List Str}{k n:Nat}{g:ae->FOut}(U:Fun K x qual st f fd)(S:FnScope N ps (az st))(hn:ps.length=n+1)
    (hbody:∀ (cdv:Value) (A:Around) (outer:List Env) (s:Shared) (H H0:Hp) (E:XK) (Ex:Value->Prop),(∀ C H',Ex C->Same H0 H'->E C none H')->Room k (A.deeper (envOfC qual (az st) s.heap.objs.size f cdv)) →
     FSs (cxm P w K mg base N qual (az st) f cdv A outer s H E) H0 Ex (cK st) g) :
    FnOk P w K mg base (CXm P w) (k+1) f fd ps (spI C n (dC C N.length g)):=by
 refine Fun.okX U S (fun vs H Q E h=>?_) (fun cdv A outer s H vs Q E hr h=>?_)
 ·obtain ⟨Hs,us,ds,a,da,rfl,hl,_,_,_,_,_,_,R,_⟩:=h
  rw[List.length_cons,R.length,hl,hn]
 ·obtain ⟨Hs,us,ds,a,da,rfl,hl,hne,ha,hda,sa,sda,sH,R,ht,p⟩:=h
  have hg:=hbody cdv A outer s H (ir H a da) E (fun C'=>dC C N.length g a ds=.exc C') (fun C' H' e sm=>by rw[e] at p;exact p H' sm) hr;refine ⟨_,hg.go,Hs,some (.slf a C [])::(ds.map some++List.replicate (N.length - (ds.length+1)) none),⟨⟨Hs,[a,da]++[],?_,?_,?_,sH,uf,Same.refl _,fun b o e=>.inl ⟨o,e⟩⟩,?_⟩,?_⟩
  ·have:=iq (Hs:=Hs) (H:=H) (N.length - (ds.length+1)) R ht
   unfold L2.gP;rw[List.length_cons,R.length];exact .cons (.slf ha hda .nil) this
  ·simp[hne]
  ·intro b m
   simp at m;rcases m with rfl | rfl
   ·exact ⟨sa,by unfold ir;rw[if_pos (.inl rfl)]⟩
   ·exact ⟨sda,by unfold ir;rw[if_pos (.inr rfl)]⟩
  ·intro d m
   rcases List.mem_cons.mp m with z | m
   ·cases z;exact fun y=>nomatch y
   rcases List.mem_append.mp m with m | m
   ·obtain ⟨d',m',e⟩:=List.mem_map.mp m
    cases e
    rw[ht d m'];decide
   ·rw[List.mem_replicate] at m;cases m.2
  ·cases eg:g (some (D.slf a C [])::(ds.map some++List.replicate (N.length - (ds.length+1)) none)) with
   |nx ρ'=>
    have e1:dC C N.length g a ds=(match ρ'[0]? with
     |some (some (D.slf y C' fs))=>if y=a/\C'=C then .ok fs else .bad
     |_=>.bad):=by unfold dC;rw[eg]
    rw[e1] at p;split at p
    ·rename_i fs hq
     split at hq
     ·rename_i y C' fs' hy
      split at hq
      ·rename_i hc
       obtain ⟨rfl,rfl⟩:=hc
       cases hq
       intro σ' H' S';obtain ⟨v,hv,S2⟩:=S'.1.move hy (fun z=>nomatch z);have S3:=SR.only (vs':=[]) (ds':=[]) S2;have hh:=S3.head
       cases hh
       exact p H' S3
      ·cases hq
     ·cases hq
    ·rename_i Cx hq
     split at hq
     ·split at hq<;>cases hq
     ·cases hq
    ·exact p.elim
   |exc C'=>show dC C N.length g a ds=.exc C';unfold dC;rw[eg]
   | rt d => have e1 : dC C N.length g a ds = .bad := by unfold dC; rw [eg]
             rw[e1] at p;exact p.elim
   | bk ρ' => have e1 : dC C N.length g a ds = .bad := by unfold dC; rw [eg]
              rw[e1] at p;exact p.elim
   | ct ρ' => have e1 : dC C N.length g a ds = .bad := by unfold dC; rw [eg]
              rw[e1] at p;exact p.elim
   | bad => have e1 : dC C N.length g a ds = .bad := by unfold dC; rw [eg]
            rw[e1] at p;exact p.elim
open Classical in
def hJ(F:Addr->List D->Res (List (Str × D)))(ds:List D):Res (List (Str × D)):=if h:∃ r,∀ x,F x ds=r then choose h else .bad
theorem oP{F:Addr->List D->Res (List (Str × D))}{ds:List D}{r:Res (List (Str × D))}(h:∀ x,F x ds=r):hJ F ds=r:=by
 unfold hJ;rw[dif_pos ⟨r,h⟩];have:=Classical.choose_spec (⟨r,h⟩:∃ r,∀ x,F x ds=r);rw[<- this 0,h 0]
theorem vH{F:Addr->List D->Res (List (Str × D))}{ds:List D}(h:hJ F ds≠.bad)(x:Addr):F x ds=hJ F ds:=by
 unfold hJ at h ⊢;split
 ·rename_i q
  exact Classical.choose_spec q x
 ·rename_i q
  rw[dif_neg q] at h;exact absurd rfl h
structure Mak (P:Program) (w:World) (K:PySem.W.Frag) (mg:Str->Option Value) (base:Heap) (x:Str) (C:Addr) (n:Nat) (F:Addr->List D->Res (List (Str × D))) (k:Nat):Prop where
 ex:∃ f fd ps,FnOk P w K mg base (CXm P w) k f fd ps (spI C n F)/\mg x=some (.ref C)/\Mk K C f/\Binds K fd ps []
def lm(C:Addr)(n:Nat)(F:Addr->List D->Res (List (Str × D)))(fa:ae->Res (List D)):ae->Res D:=fun ρ=>fa ρ >>= fun ds=>if ds.length=n/\nb ds=true then hJ F (D.fzs ds) >>= fun fs=>.ok (.ins .f C fs) else .bad
theorem sw{x:Str}{n k:Nat}{F:Addr->List D->Res (List (Str × D))}{p pos:Pos}{e:Expr}{es:List Expr}{fa:ae->Res (List D)}(c:Mak X.prog X.w X.K X.mg X.base x C n F k)(hx:Pa X H0 Ex)(hr:Room (k+1) X.A)(hg:Gl X x)(ha:FA X H0 Ex (e::es) fa)
    (hdb:(x == ("__debug__" : Str))=false:=by decide) (he:starEach (e::es) X.env=(false,eval e X.env)::starEach es X.env:=by rfl) (hpl:(backTo pos (starEach es X.env)).any (·.1)=false:=by rfl) :
    FE X H0 Ex (.Call (.Name x p) (e::es) [] pos) (lm C n F fa):=by
 obtain ⟨f,fd,ps,G,hm,hk,hb⟩:=c.ex;refine ⟨PE.pre (zA (dvs:=[]) (E:=Exk H0 Ex) hk G hr hg hm hb .nil hx.go ha.go hdb he hpl) ?_⟩;rintro σ H Q ⟨Hs,ρ,ts,S,p⟩;refine ⟨Hs,ρ,ts,S,(Post.bind p).imp fun ds _ p1 us H1 hl S1=>?_⟩;split at p1
 ·rename_i hc
  obtain ⟨hn,hnb⟩:=hc;intro a da ha hda hne;rw[List.append_nil];have S2:=SX.held hl S1;obtain ⟨Hf,fp,O,G2,R⟩:=S2.frozen hl (mC hnb);have hfa:Hf a=none:=(G2.fresh ha).1;have hfda:Hf da=none:=(G2.fresh hda).1;have sUp:Same H1 (upd (upd H1 da (.own a)) a (.ins C da [])):=fun b o e=>by
   rw[aR (bC e ha),aR (bC e hda)];exact e
  have hless:ir (upd (upd H1 da (.own a)) a (.ins C da [])) a da=H1:=by
   funext b;unfold ir;by_cases h1:b=a\/b=da
   ·rw[if_pos h1]
    rcases h1 with rfl | rfl
    ·exact ha.symm
    ·exact hda.symm
   ·rw[if_neg h1,aR (fun z=>h1 (.inl z)),aR (fun z=>h1 (.inr z))]
  have hnbad:hJ F (D.fzs ds)≠.bad:=fun z=>by rw[z] at p1;exact p1.elim
  refine ⟨Hf,us,D.fzs ds,a,da,rfl,by rw[lg];exact hn,Ne.symm hne,bP,by rw[aR hne];exact bP,hfa,hfda,G2.fh.trans sUp,R,iz ds,?_⟩;rw[vH hnbad a,hless]
  cases ef:hJ F (D.fzs ds) with
  |bad=>exact absurd ef hnbad
  |exc Cx=>rw[ef] at p1;exact fun H' s=>⟨p1,S2.same.trans s⟩
  |ok fs=>
   rw[ef] at p1;intro H' S3;have S4:=S3.frz (fun z=>nomatch z);exact ⟨rfl,p1 _ H' (SR.told O G2 S4 (fun z=>nomatch z))⟩
 ·exact p1.elim
end
section
variable {X:Cx}{Ex:Value->Prop}{H0:Hp}{a b c e tg:Expr}{f fa fb fc:ae->Res D}{pos:Pos}
def cA(p p':Int->Int->Bool)(fa fb fc:ae->Res D):ae->Res D:=fun ρ=>fa ρ >>= fun x=>fb ρ >>= fun y=>match x,y with
 | .int i,.int j=>if p i j=true then fc ρ >>= fun z=>match z with
  | .int k=>.ok (.bl (p' j k))
  |_=>.bad
  else .ok (.bl false)
 |_,_=>.bad
theorem qi{p p':Int->Int->Bool}{σ:St}{H:Hp}{Q:VK}(h:TEF H0 Ex (cA p p' fa fb fc) σ H Q) :
    pT (rI0 fun i j=>.bl (p i j)) (rI0 fun i j=>.bl (p' i j)) (TEF H0 Ex fa) (TEF H0 Ex fb) (TEF H0 Ex fc) σ H Q:=by
 obtain ⟨Hs,ρ,ts,S,p0⟩:=h;refine ⟨Hs,ρ,ts,S,(Post.bind p0).imp fun d1 _ p1 v1 H1 S1=>⟨Hs,ρ,(v1,d1)::ts,S1,(Post.bind p1).imp fun d2 _ p2 v2 H2 S2=>?_⟩⟩;have S2:SR Hs H0 H2 (some v2::some v1::(tvs ts++σ)) (some d2::some d1::(tds ts++ρ)):=S2
 cases d1 with
 |int i=>
  cases d2 with
  |int j=>
   cases SR.isInt S2
   cases SR.isInt S2.drop
   refine ⟨i,j,rfl,rfl,p i j,rfl,?_⟩;have p2:Post Ex (if p i j=true then fc ρ >>= fun z=>match z with
    | .int k=>.ok (.bl (p' j k))
    |_=>.bad
    else .ok (.bl false)) fun d=>∀ v H',SX Hs H0 H' ((v,d)::ts) σ ρ->Q v H':=p2
   by_cases hc:p i j=true
   ·rw[if_pos hc] at p2 ⊢
    refine ⟨Hs,ρ,ts,S2.drop.drop,(Post.bind p2).imp fun d3 _ p3 v3 H3 S3=>?_⟩
    cases d3 with
    |int k=>
     have S3:SR Hs H0 H3 (some v3::(tvs ts++σ)) (some (.int k)::(tds ts++ρ)):=S3
     cases SR.isInt S3
     exact ⟨j,k,rfl,rfl,p3 _ H3 S3.drop.bl⟩
    |_=>exact p3.elim
   ·rw[if_neg hc] at p2 ⊢
    exact p2 _ H2 S2.drop.drop.bl
  |_=>exact p2.elim
 |_=>exact p2.elim
theorem xJ{op op':CmpOp}{p p':Int->Int->Bool}(ho:OpR X (compareOp op) (rI0 fun i j=>.bl (p i j)))(ho':OpR X (compareOp op') (rI0 fun i j=>.bl (p' i j)))(ha:FE X H0 Ex a fa)(hb:FE X H0 Ex b fb)(hc:FE X H0 Ex c fc)
    (hm:lastMarks [op,op'] [b,c]=false:=by with_unfolding_all rfl):FE X H0 Ex (.Compare a [op,op'] [b,c] pos) (cA p p' fa fb fc):=
 ⟨PE.pre (xu ho ho' ha.go hb.go hc.go hm) fun _ _ _ h=>qi h⟩
theorem iN{op op':CmpOp}{p p':Int->Int->Bool}(ho:OpR X (compareOp op) (rI0 fun i j=>.bl (p i j)))(ho':OpR X (compareOp op') (rI0 fun i j=>.bl (p' i j)))(ha:FE X H0 Ex a fa)(hb:FE X H0 Ex b fb)(hc:FE X H0 Ex c fc)
    (hm:lastMarks [op,op'] [b,c]=false:=by with_unfolding_all rfl):FT X H0 Ex (.Compare a [op,op'] [b,c] pos) (ftB (cA p p' fa fb fc)):=by
 refine ⟨PT.pre (xw ho ho' ha.go hb.go hc.go hm) ?_⟩;rintro σ H Q ⟨Hs,ρ,ts,S,p⟩;refine qi ⟨Hs,ρ,ts,S,(Post.bind p).imp fun d _ p1 v H1 S1=>?_⟩;obtain ⟨b,rfl,k⟩:=qd p1;exact ⟨b,SR.isBl S1,k H1 S1.drop⟩
def tyN:D->Option String
 | .non=>some "NoneType"
 | .bl _=>some "bool"
 | .int _=>some "int"
 | .str _=>some "str"
 | .lst _ _=>some "list"
 | .scr _=>some "list"
 | .tup _=>some "tuple"
 | .dic _ _=>some "dict"
 |_=>none
def gR(t T:String):Bool:=t == T||(t == "bool" && T == "int")
def nP(T:String):D->Res D:=fun d=>match tyN d with
 |some t=>.ok (.bl (gR t T))
 |none=>.bad
def KT(K:PySem.W.Frag)(T:String):Prop:=∀ t∈["NoneType", "bool", "int", "str", "list", "tuple", "dict"],PySem.W.kitOne K (.type t) (.type T)=some (gR t T)
theorem BO{K:PySem.W.Frag}{H:Hp}{v:V}{d:D}{t:String}(r:Rep H v d)(h:tyN d=some t):TyOf K H v (.type t)/\t∈["NoneType", "bool", "int", "str", "list", "tuple", "dict"]:=by
 cases r with
 |non=>cases h;exact ⟨.non,by decide⟩
 |bl=>cases h;exact ⟨.bl _,by decide⟩
 |int=>cases h;exact ⟨.int _,by decide⟩
 |str=>cases h;exact ⟨.str _,by decide⟩
 |lst q _=>cases h;exact ⟨.lst q,by decide⟩
 |tup q _=>cases h;exact ⟨.tup q,by decide⟩
 |dic q _=>cases h;exact ⟨.dT q,by decide⟩
 |scr q=>cases h;exact ⟨.frz q,by decide⟩
 |ins _ _=>cases h
 |slf _ _=>cases h
theorem xK{T:String}(hK:KT X.K T):CallR X (.builtin "isinstance") fun us H Q=>∃ x t,us=[x,.ty T]/\TyOf X.K H x (.type t)/\t∈["NoneType", "bool", "int", "str", "list", "tuple", "dict"]/\Q (.bl (gR t T)) H:=by
 intro pins s σ H xs us Q I r h;obtain ⟨x,t,rfl,ty,ht,q⟩:=h
 cases r with
 |cons r1 r2=>
  cases r2 with
  |cons r3 r4=>
   cases r4
   cases r3
   exact vk I r1 ty (hK t ht) fun tk=>⟨.bl _,H,I.tok tk,rfl,q⟩
theorem vI{T:String}{x:Str}{p p2:Pos}(hK:KT X.K T)(he:FE X H0 Ex e f)(hg:Gl X "isinstance")(hm:X.mg "isinstance" = none)(hgT:Gl X x)(hmT:X.mg x=none)(hv:bootBuiltins x=some (.type T))(hn:x ≠ "__name__" := by decide)(hd:(x == ("__debug__" : Str))=false:=by decide)
    (h1:starEach [e,.Name x p2] X.env=(false,eval e X.env)::starEach [.Name x p2] X.env:=by rfl) (h2:starEach [.Name x p2] X.env=(false,eval (.Name x p2) X.env)::starEach [] X.env:=by rfl) (h3:(backTo pos (starEach [.Name x p2] X.env)).any (·.1)=false:=by rfl) :
    FE X H0 Ex (.Call (.Name "isinstance" p) [e,.Name x p2] [] pos) (f1 (nP T) f):=by
 have hb:bootBuiltins "isinstance" = some (.builtin "isinstance"):=by decide +kernel
 refine ⟨PE.pre (pW (xK hK) hg hm hb (eG he.go (eG (zl (v:=.ty T) hgT hmT hv rfl hn hd) fW h2) h1) (by decide) (by decide) h1 h3) ?_⟩;rintro σ H Q ⟨Hs,ρ,ts,S,p⟩;refine ⟨Hs,ρ,ts,S,(Post.bind p).imp fun d _ p1 v H1 S1=>?_⟩;unfold nP at p1;split at p1
 ·rename_i t ht
  have S1:SR Hs H0 H1 (some v::(tvs ts++σ)) (some d::(tds ts++ρ)):=S1;obtain ⟨ty,hm⟩:=BO (K:=X.K) S1.head ht;exact ⟨v,t,rfl,ty,hm,p1 _ H1 S1.drop.bl⟩
 ·exact p1.elim
def isN:D->Bool
 | .non=>true
 |_=>false
def kn(neg:Bool):D->D->Res D:=fun x y=>match y with
 | .non=>.ok (.bl (neg != isN x))
 |_=>.bad
theorem qj(n:Bool):∀ x y,noX (kn n x y)=true:=by intro x y;unfold kn;split<;>rfl
theorem BP{H:Hp}{v:V}{d:D}(r:Rep H v d):decide (v=.non)=isN d:=by cases r<;>rfl
theorem SR.isNon{Hs H0 H:Hp}{vs:List (Option V)}{ds:List (Option D)}{v:V}(S:SR Hs H0 H (some v::vs) (some .non::ds)):v=.non:=by cases S.head;rfl
theorem vJ:FOp X (compareOp .Is) (kn false):=by
 refine ⟨OpR.pre Bo ?_⟩;rintro x y H Q ⟨Hs,H0,vs,ds,d1,d2,d,S,e,k⟩;unfold kn at e;split at e
 ·cases e
  refine ⟨SR.isNon S,?_⟩;rw[BP S.drop.head];have:isN d1=(false != isN d1):=by cases isN d1<;>rfl
  rw[this];exact k _ H S.drop.drop.bl
 ·cases e
def xL(i j:Nat)(fa:ae->Res (List D)):ae->FOut:=fun ρ=>aft (fa ρ) fun ds=>match ds with
 | [d,d']=>if d.tag=.b\/d'.tag=.b\/ρ.length<=i\/ρ.length<=j then .bad else .nx ((ρ.set i (some d.fz)).set j (some d'.fz))
 |_=>.bad
theorem BQ{i j:Nat}{x y:Str}{fa:ae->Res (List D)}{px py pt:Pos}{kt k2 pt2}(hc:X.calm=true)(hN:X.N.Nodup)(hi:X.N[i]?=some x)(hj:X.N[j]?=some y)(hij:i≠j)
    (hx:X.env.scope.names.lookup x=some .local) (hy:X.env.scope.names.lookup y=some .local) (ha:FA X H0 Ex [a,b] fa)
    (hw:swappedStores [.Tuple [.Name x px,.Name y py] kt pt] (.Tuple [a,b] k2 pt2) X.env=pure (some [x,y]))
    (hs:swapsWithSole [.Tuple [.Name x px,.Name y py] kt pt] (.Tuple [a,b] k2 pt2) pos.line X.env=pure false:=by rfl) :
    FS X H0 Ex (.Assign [.Tuple [.Name x px,.Name y py] kt pt] (.Tuple [a,b] k2 pt2) pos) (xL i j fa):=by
 refine ⟨PS.pre (Ba hc hN hi hj hij hx hy ha.go hw hs) ?_⟩;rintro En σ H ⟨Hs,ρ,⟨S,n⟩,p⟩;refine ⟨Hs,ρ,[],S,(PostS.aft p).imp fun ds _ p1 us H1 hl S1=>?_⟩;split at p1
 ·rename_i d d' _
  split at p1
  ·exact p1.elim
  ·rename_i hb
   obtain ⟨u,w,rfl⟩:=mG hl rfl;have S2:SR Hs H0 H1 (some w::some u::σ) (some d'::some d::ρ):=SX.held hl S1;have hd:d.tag≠.b:=fun z=>hb (.inl z);have hd':d'.tag≠.b:=fun z=>hb (.inr (.inl z));have hi':i<ρ.length:=Nat.lt_of_not_le fun z=>hb (.inr (.inr (.inl z)));have hj':j<ρ.length:=Nat.lt_of_not_le fun z=>hb (.inr (.inr (.inr z)))
   have S3:=SR.set (S2.frz hd') (by rw[d'.fz_tag];decide) (i:=j+1) (by simpa using hj');have S3:SR Hs H0 H1 (some u::σ.set j (some w)) (some d::ρ.set j (some d'.fz)):=S3;have S4:=SR.set (S3.frz hd) (by rw[d.fz_tag];decide) (i:=i) (by simpa using hi');refine ⟨u,w,rfl,p1 _ H1 ⟨?_,?_⟩⟩
   ·rw[List.set_comm _ _ hij,List.set_comm (some d.fz) (some d'.fz) hij];exact S4
   ·exact (n.set fun d0 z=>by cases z;rw[d.fz_tag];decide).set fun d0 z=>by cases z;rw[d'.fz_tag];decide
 ·exact p1.elim
end
section
variable {X:Cx}{pins:List (Addr × Obj)}{σ:St}{H1 H':Hp}{s1 s':Shared}{a T:Addr}{C:Value}{h:Heap}
end
section
variable {X:Cx}{pins pins':List (Addr × Obj)}{σ:St}{H:Hp}{s:Shared}{E:Value->Shared->Prop}
end
section
variable {X:Cx}{Ex:Value->Prop}{H0:Hp}{g:ae->FOut}{body:List Stmt}{i:Nat}{n cn dn:Str}{C Dc:Addr}{p1 p2 p3 p4 p5 p6 p7 pos:Pos}
end
def asc(x:Str):Bool:=x.cps.all (· < 128)
def ma(x:Str):List D:=x.cps.toList.map fun c=>.str ⟨#[c]⟩
def Its(x:Str):It:=⟨fun i _=>i<x.cps.size,fun i H v H'=>H'=H/\∃ c,x.cps[i]?=some c/\v=.str ⟨#[c]⟩,fun i _=>x.cps.size<=i⟩
theorem BR{x:Str}{B:Hp}:gD (Its x) B (ma x):=by
 intro H s i;refine ⟨fun d hd=>?_,fun hi=>(show x.cps.size<=i from Nat.le_of_eq (by simpa [ma] using hi.symm))⟩;simp only[ma,List.getElem?_map] at hd
 cases e:x.cps.toList[i]? with
 |none=>rw[e] at hd;cases hd
 |some c=>
  rw[e] at hd
  cases hd
  have e':x.cps[i]?=some c:=by simpa using e
  refine ⟨(Array.getElem?_eq_some_iff.mp e').1,fun v H' ⟨e1,c',e2,e3⟩=>⟨rfl,.inl ⟨e1,?_⟩⟩⟩;rw[e'] at e2
  cases e2
  rw[e3];exact .str
theorem xM{P:Program}{w:World}{K:PySem.W.Frag}{tg:Expr}{x:Str}{t:Tok}(it:Addr):Turn P w K tg (Its x) [it] it (fun i h=>h.IsStrIter it "str_ascii_iterator" x t i) where
 mem:=List.mem_singleton.mpr rfl
 obj:=fun i h st b hb=>by
  cases List.mem_singleton.mp hb
  obtain ⟨o,e,_,d⟩:=st;exact ⟨o,e,fun v z=>by rw[d] at z;cases z⟩
 keep:=fun i h h' st k=>let ⟨o,e,r⟩:=st;⟨o,k it (List.mem_singleton.mpr rfl) o e,r⟩;item:=by
  intro X e1 e2 e3 hc i pins s σ H E I hf st hg;subst e1 e2 e3;obtain ⟨g0,g1,_,g3,g4,g5⟩:=hf it (List.mem_singleton.mpr rfl);refine wpAny_pyNext_ascii_item st (c:=x.cps[i]'hg) (Array.getElem?_eq_getElem hg) fun h' st' sb=>?_;have J:Inv X pins σ H { s with heap:=h',toks:=s.toks+1 }:=I.turned (fun b o hb e=>(sb.2 b hb).trans e) g0 g1 g3 g4 g5;obtain ⟨o,e,c,d⟩:=id st'
  exact ⟨_,rfl,pC (s:={ s with heap:=h',toks:=s.toks+1 }) e c d (by decide) ⟨.str _,H,J,⟨_,rfl⟩,⟨rfl,_,Array.getElem?_eq_getElem hg,rfl⟩,st',fun b hb=>(hf b hb).1⟩⟩
 done:=by
  intro X e1 e2 e3 hc i pins s σ H E I hf st hg;subst e1 e2 e3;obtain ⟨g0,g1,_,g3,g4,g5⟩:=hf it (List.mem_singleton.mpr rfl);have hg:x.cps.size<=i:=hg;exact wpAny_pyNext_ascii_end (I.ok.hd hc) st (Array.getElem?_eq_none hg) fun h' eb=>⟨rfl,I.turned (t':=s.toks) (fun b o hb e=>eb b o hb e) g0 g1 g3 g4 g5⟩
 self:=fun _ _ _ _ _ st h=>wpAny_pyIter_striter_ascii st h
section
variable {X:Cx}{Ex:Value->Prop}{H0:Hp}{e tg:Expr}{f:ae->Res D}{tl:TE}
def Ek(K:PySem.W.Frag)(tl:TE):TI:=fun σ H R=>tl σ H fun v H1=>(∃ a,v=.ref a/\(∃ xs,SqL K H1 a xs)/\R (Itl K a) H1)\/(∃ a,v=.ref a/\(∃ xs,SqT K H1 a xs)/\R (Itt K a) H1)\/∃ x,v=.str x/\asc x=true/\R (Its x) H1
theorem BS(hl:PE X e tl):PI X tg e (Ek X.K tl):=by
 intro pins s σ H R I h;refine thn (hl pins s σ H _ I h) fun v s1 ⟨x,H1,I1,r1,q1⟩=>?_;have fresh:∀ b∈[s1.heap.objs.size],gw X pins H1 b:=fun b hb=>by
  cases List.mem_singleton.mp hb
  exact I1.fpOk (Nat.le_refl _) (I1.hok.fresh (Nat.le_refl _))
 rcases q1 with ⟨a,rfl,⟨xs,hq⟩,q⟩ | ⟨a,rfl,⟨xs,hq⟩,q⟩ | ⟨z,rfl,ha,q⟩
 ·cases r1
  obtain ⟨its,rv,p,_⟩:=I1.list hq;exact wpAny_pyIter_list p.isList ⟨s1.heap.objs.size,[s1.heap.objs.size],_,_,H1,rfl,I1.kept (t':=s1.toks) (fun b o e=>Heap.get?_push_of_some _ e),u6 a _,⟨_,Heap.get?_push_size _ rfl,rfl,rfl⟩,fresh,q⟩
 ·cases r1
  obtain ⟨its,rv,p,_⟩:=I1.tuple hq;exact wpAny_pyIter_tuple (show s1.heap.IsTuple a its.toArray from p) ⟨s1.heap.objs.size,[s1.heap.objs.size],_,_,H1,rfl,I1.kept (t':=s1.toks) (fun b o e=>Heap.get?_push_of_some _ e),tS a _,⟨_,Heap.get?_push_size _ rfl,rfl,rfl⟩,fresh,q⟩
 ·obtain ⟨t,rfl⟩:=r1
  exact wpAny_pyIter_ascii ha ⟨s1.heap.objs.size,[s1.heap.objs.size],_,_,H1,rfl,I1.kept (t':=s1.toks) (fun b o e=>Heap.get?_push_of_some _ e),xM _,⟨_,Heap.get?_push_size _ rfl,rfl,rfl⟩,fresh,q⟩
theorem BU{K:PySem.W.Frag}{B:Hp}{a:Addr}{us:List V}{ds:List D}(h:B a=some (.tup us))(R:Reps B us ds)(t:∀ e∈ds,e.tag=.f):gD (Itt K a) B ds:=by
 intro H s i;have hl:=R.length;refine ⟨fun d hd=>?_,fun hi=>⟨us,SqT.of (s _ _ h),by omega⟩⟩;obtain ⟨u,hu,ru⟩:=R.get hd;refine ⟨⟨us,u,SqT.of (s _ _ h),hu⟩,fun x H' ⟨e,y⟩=>⟨t d (List.mem_of_getElem? hd),.inl ⟨e,?_⟩⟩⟩;have:=y us (SqT.of (s _ _ h));rw[hu] at this
 cases this
 exact ru
def aH(f:ae->Res D):ae->Res (List D):=fun ρ=>f ρ >>= fun d=>match d with
 | .str x=>if asc x=true then .ok (ma x) else .bad
 |d=>if d.tag=.b then .bad else bT d.its
theorem bN(he:FE X H0 Ex e f):FI X H0 Ex tg e (aH f):=by
 refine ⟨PI.pre (BS he.go) ?_⟩;rintro σ H R ⟨Hs,ρ,ts,S,p⟩;refine ⟨Hs,ρ,ts,S,(Post.bind p).imp fun d _ p1 v H1 S1=>?_⟩
 have seq:Post Ex (if d.tag=.b then .bad else bT d.its) (fun items=>∀ J H' Hf fp,gD J Hf items->Own Hf H' fp (tvs ts++σ) (tds ts++ρ)->Fine Hs H0 Hf H' fp->R J H')->(∃ a,v=.ref a/\(∃ xs,SqL X.K H1 a xs)/\R (Itl X.K a) H1)\/(∃ a,v=.ref a/\(∃ xs,SqT X.K H1 a xs)/\R (Itt X.K a) H1)\/∃ x,v=.str x/\asc x=true/\R (Its x) H1:=by
  intro p1;split at p1
  ·exact p1.elim
  ·rename_i tb
   cases e:d.its with
   |none=>rw[e] at p1;exact p1.elim
   |some ys=>
    rw[e] at p1;obtain ⟨Hf,fp,O,F⟩:=S1;obtain ⟨a,us,rfl,Hg,fq,O',F',_,ha,R⟩:=O.itemsC F e tb
    cases il:d.isL with
    |true=>
     rw[il] at ha;exact .inl ⟨a,rfl,⟨us,SqL.of (F'.fh _ _ ha)⟩,p1 _ H1 Hg fq (BL ha R (D.its_tag e)) O' F'⟩
    |false=>
     rw[il] at ha;exact .inr (.inl ⟨a,rfl,⟨us,SqT.of (F'.fh _ _ ha)⟩,p1 _ H1 Hg fq (BU ha R (D.its_tag e)) O' F'⟩)
 cases d with
 |str x=>
  have p1:Post Ex (if asc x=true then .ok (ma x) else .bad) (fun items=>∀ J H' Hf fp,gD J Hf items->Own Hf H' fp (tvs ts++σ) (tds ts++ρ)->Fine Hs H0 Hf H' fp->R J H'):=p1;split at p1
  ·rename_i hx
   have S1:SR Hs H0 H1 (some v::(tvs ts++σ)) (some (.str x)::(tds ts++ρ)):=S1
   cases SR.isStr S1
   obtain ⟨Hf,fp,O,F⟩:=S1.drop;exact .inr (.inr ⟨x,rfl,hx,p1 _ H1 Hf fp BR O F⟩)
  ·exact p1.elim
 |_=>exact seq p1
end
def eN:List (Option Bool)->Option Bool
 | []=>some true
 |none::_=>none
 |some b::r=>match eN r with
  |some c=>some (b&&c)
  |none=>none
def aU:Nat->D->D->Option Bool
 |_,.int i,.int j=>some (decide (i=j))
 |_,.str i,.str j=>some (decide (i=j))
 |n+1,.lst _ xs,.lst _ ys=>if xs.length=ys.length then eN ((xs.zip ys).map fun p=>aU n p.1 p.2) else some false
 |n+1,.tup xs,.tup ys=>if xs.length=ys.length then eN ((xs.zip ys).map fun p=>aU n p.1 p.2) else none
 |_,_,_=>none
theorem jL:∀ {l:List (Option Bool)} {b:Bool},eN l=some b->∃ e:Nat->Bool,(∀ j,j<l.length->l[j]?=some (some (e j)))/\b=(List.range l.length).all e
 | [],b,h=>⟨fun _=>true,fun j hj=>by simp at hj,by simp[eN] at h;simp[<- h]⟩
 |none::r,b,h=>by simp[eN] at h
 |some a::r,b,h=>by
  unfold eN at h
  cases e:eN r with
  |none=>rw[e] at h;cases h
  |some c=>
   rw[e] at h;have h:(a&&c)=b:=Option.some.inj h;obtain ⟨f,h1,h2⟩:=jL e;refine ⟨fun j=>match j with | 0=>a | j+1=>f j,fun j hj=>?_,?_⟩
   ·cases j with
    |zero=>rfl
    |succ j=>simpa using h1 j (by simpa using hj)
   ·rw[<- h,h2,List.length_cons,List.range_succ_eq_map,List.all_cons,List.all_map]
    rfl
theorem xN{H:Hp}:∀ (n:Nat) {v:V} {d d':D} {b:Bool},Rep H v d->Rep H v d'->aU n d d'=some b->b=true:=by
 have seqs:∀ (n:Nat),(∀ {v:V} {d d':D} {b:Bool},Rep H v d->Rep H v d'->aU n d d'=some b->b=true)->∀ {us:List V} {xs ys:List D} {b:Bool},Reps H us xs->Reps H us ys->eN ((xs.zip ys).map fun p=>aU n p.1 p.2)=some b->b=true:=by
  intro n ih us;induction us with
  |nil=>intro xs ys b r1 r2 h;cases r1;cases r2;simp[eN] at h;first | exact h | exact h.symm
  |cons u us ihu=>
   intro xs ys b r1 r2 h
   cases r1 with
   |cons a1 b1=>
    cases r2 with
    |cons a2 b2=>
     rename_i d1 ds1 d2 ds2;rw[List.zip_cons_cons,List.map_cons] at h
     cases e:aU n d1 d2 with
     |none=>rw[e] at h;cases h
     |some k=>
      rw[e] at h;unfold eN at h
      cases e2:eN ((ds1.zip ds2).map fun p=>aU n p.1 p.2) with
      |none=>rw[e2] at h;cases h
      |some c=>
       rw[e2] at h;have h:(k&&c)=b:=Option.some.inj h;rw[<- h,ih a1 a2 e,ihu b1 b2 e2];rfl
 intro n;induction n with
 |zero=>
  intro v d d' b r1 r2 h
  cases r1<;>cases r2<;>first | (simp[aU] at h;done) | (simp[aU] at h;first | exact h | exact h.symm)
 |succ n ih=>
  intro v d d' b r1 r2 h
  cases r1 with
  |int=>cases r2;simp[aU] at h;first | exact h | exact h.symm
  |str=>cases r2;simp[aU] at h;first | exact h | exact h.symm
  |lst h1 q1=>
   cases r2 with
   |lst h2 q2=>
    rw[h1] at h2;cases h2;unfold aU at h;rw[if_pos (by rw[<- q1.length,<- q2.length])] at h;exact seqs n ih q1 q2 h
   |tup h2 q2=>rw[h1] at h2;cases h2
   |_=>simp[aU] at h
  |tup h1 q1=>
   cases r2 with
   |tup h2 q2=>
    rw[h1] at h2;cases h2;unfold aU at h;rw[if_pos (by rw[<- q1.length,<- q2.length])] at h;exact seqs n ih q1 q2 h
   |lst h2 q2=>rw[h1] at h2;cases h2
   |_=>simp[aU] at h
  |_=>cases r2<;>simp[aU] at h
section
variable {X:Cx}{pins:List (Addr × Obj)}{σ:St}{H:Hp}{s:Shared}
theorem ug(I:Inv X pins σ H s):∀ (n:Nat) (A:Around) {v v':V} {u u':Value} {d d':D} {b:Bool},A.units+n<cLine->Rep H v d->Rep H v' d'->RelV v u->RelV v' u'->aU n d d'=some b →
    SeqAt.EqAt A s u u' b/\∀ a a',v=.ref a->v'=.ref a'->SeqAt.RcAt A s u u' b:=by
 intro n;have base:∀ {n:Nat} {A:Around} {v v':V} {u u':Value} {i j:Int} {b:Bool},Rep H v (.int i)->Rep H v' (.int j)->RelV v u->RelV v' u'->aU n (.int i) (.int j)=some b->SeqAt.EqAt A s u u' b/\∀ a a',v=.ref a->v'=.ref a'->SeqAt.RcAt A s u u' b:=by
  intro n A v v' u u' i j b r1 r2 e1 e2 h
  cases r1;cases r2
  obtain ⟨t,rfl⟩:=e1;obtain ⟨t',rfl⟩:=e2;have hb:(i == j)=b:=by cases n<;>(simp[aU] at h;rw[<- h];rfl)
  refine ⟨hb ▸ (MeetsSeq.EqGives.int i j t t').at A s,fun a a' z=>nomatch z⟩
 have baseS:∀ {n:Nat} {A:Around} {v v':V} {u u':Value} {i j:Str} {b:Bool},Rep H v (.str i)->Rep H v' (.str j)->RelV v u->RelV v' u'->aU n (.str i) (.str j)=some b->SeqAt.EqAt A s u u' b/\∀ a a',v=.ref a->v'=.ref a'->SeqAt.RcAt A s u u' b:=by
  intro n A v v' u u' i j b r1 r2 e1 e2 h
  cases r1;cases r2
  obtain ⟨t,rfl⟩:=e1;obtain ⟨t',rfl⟩:=e2;have hb:(i == j)=b:=by
   have h:decide (i=j)=b:=by cases n<;>(simp only[aU] at h;exact Option.some.inj h)
   rw[<- h,Bool.eq_iff_iff];simp
  refine ⟨hb ▸ (eqGives_str i j t t').at A s,fun a a' z=>nomatch z⟩
 induction n with
 |zero=>
  intro A v v' u u' d d' b hu r1 r2 e1 e2 h
  cases d with
  |int i=>cases d' with | int j=>exact base r1 r2 e1 e2 h | _=>simp[aU] at h
  |str i=>cases d' with | str j=>exact baseS r1 r2 e1 e2 h | _=>simp[aU] at h
  |_=>simp[aU] at h
 |succ n ih=>
  intro A v v' u u' d d' b hu r1 r2 e1 e2 h;have items:∀ {us us':List V} {its its':List Value} {xs ys:List D} {b:Bool},Reps H us xs->Reps H us' ys->Vals us its->Vals us' its'->xs.length=ys.length->eN ((xs.zip ys).map fun p=>aU n p.1 p.2)=some b →
      ∃ e:Nat->Bool,(∀ j (h1:j<its.toArray.size) (h2:j<its'.toArray.size),SeqAt.EqAt A.in1 s its.toArray[j] its'.toArray[j] (e j))/\b=(List.range its.toArray.size).all e:=by
   intro us us' its its' xs ys b q1 q2 w1 w2 hl h;obtain ⟨e,he,hb⟩:=jL h;have l1:((xs.zip ys).map fun p=>aU n p.1 p.2).length=its.length:=by rw[List.length_map,List.length_zip,<- w1.length,q1.length];omega
   refine ⟨e,fun j h1 h2=>?_,by rw[hb,l1];rfl⟩;have j1:j<its.length:=by simpa using h1
   have j2:j<its'.length:=by simpa using h2
   have:=he j (by rw[l1];exact j1);rw[List.getElem?_map] at this
   cases ez:(xs.zip ys)[j]? with
   |none=>rw[ez] at this;cases this
   |some p=>
    rw[ez] at this;have hd:aU n p.1 p.2=some (e j):=Option.some.inj this;obtain ⟨hx,hy⟩:=List.getElem?_zip_eq_some.mp ez;obtain ⟨v1,hv1,rp1⟩:=q1.get hx;obtain ⟨v2,hv2,rp2⟩:=q2.get hy;obtain ⟨u1,hu1,rl1⟩:=w1.get hv1;obtain ⟨u2,hu2,rl2⟩:=w2.get hv2;have g1:its.toArray[j]=u1:=by rw[List.getElem?_eq_getElem j1] at hu1;simpa using Option.some.inj hu1
    have g2:its'.toArray[j]=u2:=by rw[List.getElem?_eq_getElem j2] at hu2;simpa using Option.some.inj hu2
    rw[g1,g2];exact (ih A.in1 (show A.units+1+n<cLine by omega) rp1 rp2 rl1 rl2 hd).1
  have fin:∀ {a a':Addr} {b:Bool} {d d':D},Rep H (.ref a) d->Rep H (.ref a') d'->aU (n+1) d d'=some b->SeqAt.RcAt A s (.ref a) (.ref a') b->SeqAt.EqAt A s (.ref a) (.ref a') b:=by
   intro a a' b d d' r1 r2 hd hr;by_cases z:a=a'
   ·subst z
    rw[xN (n+1) r1 r2 hd];exact SeqAt.EqAt.same _
   ·exact SeqAt.EqAt.of_refs z hr
  cases d with
  |int i=>cases d' with | int j=>exact base r1 r2 e1 e2 h | _=>simp[aU] at h
  |str i=>cases d' with | str j=>exact baseS r1 r2 e1 e2 h | _=>simp[aU] at h
  |lst t xs=>
   cases d' with
   |lst t' ys=>
    have hd:=h
    cases r1 with
    |lst h1 q1=>
     rename_i a1 us1
     cases r2 with
     |lst h2 q2=>
      rename_i a2 us2
      cases e1;cases e2
      obtain ⟨its,w1,p1,_⟩:=I.list (SqL.of h1);obtain ⟨its',w2,p2,_⟩:=I.list (SqL.of h2);have rc:SeqAt.RcAt A s (.ref a1) (.ref a2) b:=by
       unfold aU at h;by_cases hl:xs.length=ys.length
       ·rw[if_pos hl] at h
        obtain ⟨e,he,hb⟩:=items q1 q2 w1 w2 hl h;rw[hb];exact SeqAt.RcAt.lists p1.isList p2.isList (by simp[<- w1.length,<- w2.length,q1.length,q2.length,hl]) (by omega) he
       ·rw[if_neg hl] at h
        cases h
        exact SeqAt.RcAt.lists_lengths p1.isList p2.isList (by simp[<- w1.length,<- w2.length,q1.length,q2.length];exact hl) (by omega)
      exact ⟨fin (.lst h1 q1) (.lst h2 q2) hd rc,fun a a' z z'=>by cases z;cases z';exact rc⟩
   |_=>simp[aU] at h
  |tup xs=>
   cases d' with
   |tup ys=>
    have hd:=h
    cases r1 with
    |tup h1 q1=>
     rename_i a1 us1
     cases r2 with
     |tup h2 q2=>
      rename_i a2 us2
      cases e1;cases e2
      obtain ⟨its,w1,p1,_⟩:=I.tuple (SqT.of h1);obtain ⟨its',w2,p2,_⟩:=I.tuple (SqT.of h2);have rc:SeqAt.RcAt A s (.ref a1) (.ref a2) b:=by
       unfold aU at h;by_cases hl:xs.length=ys.length
       ·rw[if_pos hl] at h
        obtain ⟨e,he,hb⟩:=items q1 q2 w1 w2 hl h;have lz:its.toArray.size=its'.toArray.size:=by simp[<- w1.length,<- w2.length,q1.length,q2.length,hl]
        have:=SeqAt.RcAt.tuples (s:=s) (A:=A) (show s.heap.IsTuple _ its.toArray from p1) (show s.heap.IsTuple _ its'.toArray from p2) (by omega) he;rw[<- lz,Nat.min_self,beq_self_eq_true,Bool.and_true] at this;rw[hb];exact this
       ·rw[if_neg hl] at h;cases h
      exact ⟨fin (.tup h1 q1) (.tup h2 q2) hd rc,fun a a' z z'=>by cases z;cases z';exact rc⟩
   |_=>simp[aU] at h
  |_=>simp[aU] at h
end
section
variable {X:Cx}
def qk:D->Bool
 | .lst _ _=>true
 | .tup _=>true
 |_=>false
theorem BV(hu:X.A.units+4<cLine):OpR X (compareOp .Eq) (fun x y H Q=>∃ d d' b a a',x=.ref a/\y=.ref a'/\Rep H x d/\Rep H y d'/\aU 4 d d'=some b/\Q (.bl b) H):=by
 intro pins s σ H x y v u Q I rx ry h;obtain ⟨d,d',b,a,a',rfl,rfl,r1,r2,hd,q⟩:=h;have:=(ug I 4 X.A hu r1 r2 rx ry hd).2 a a' rfl rfl;exact this _ _ _ _ ⟨.bl b,H,I,rfl,q⟩
def dEq:D->D->Res D:=fun x y=>if qk x=true/\qk y=true then (match aU 4 x y with
 |some b=>.ok (.bl b)
 |none=>.bad) else eM false x y
theorem c0:∀ x y,noX (dEq x y)=true:=by
 intro x y;unfold dEq;split
 ·split<;>rfl
 ·exact gE _ _ _
theorem lr{H:Hp}{v:V}{d:D}(r:Rep H v d)(h:qk d=true):∃ a,v=.ref a:=by
 cases r<;>first | exact ⟨_,rfl⟩ | cases h
theorem eO(hu:X.A.units+4<cLine):FOp X (compareOp .Eq) dEq:=by
 refine ⟨OpR.pre (OpR.or (BV hu) (BN (X:=X)).go) ?_⟩;rintro x y H Q ⟨Hs,H0,vs,ds,d1,d2,d,S,e,k⟩;unfold dEq at e;split at e
 ·rename_i hs
  split at e
  ·rename_i b hb
   cases e
   obtain ⟨a,rfl⟩:=lr S.drop.head hs.1;obtain ⟨a',rfl⟩:=lr S.head hs.2;exact .inl ⟨d1,d2,b,a,a',rfl,rfl,S.drop.head,S.head,hb,k _ H S.drop.drop.bl⟩
  ·cases e
 ·exact .inr ⟨Hs,H0,vs,ds,d1,d2,d,S,e,k⟩
end
def TOF(H0:Hp)(Ex:Value->Prop)(f:ae->Res (Option Int)):St->Hp->(Option Int->Hp->Prop)->Prop:=fun σ H Q=>∃ Hs ρ ts,SX Hs H0 H ts σ ρ ∧
 Post Ex (f ρ) fun o=>∀ H',SX Hs H0 H' ts σ ρ->Q o H'
structure FO (X:Cx) (H0:Hp) (Ex:Value->Prop) (e:Option Expr) (f:ae->Res (Option Int)):Prop where
 go:PO X e (TOF H0 Ex f)
section
variable {X:Cx}{Ex:Value->Prop}{H0:Hp}{e:Expr}{lo hi:Option Expr}{f:ae->Res D}{fl fh:ae->Res (Option Int)}{pos p2:Pos}
end
section
variable {X:Cx}{Ex:Value->Prop}{H0:Hp}{k:Expr}{fk:ae->Res D}{pos:Pos}
def i7:List D->Option (List Bool)
 | []=>some []
 | .bl b::r=>(i7 r).map (b::·)
 |_=>none
theorem oQ{H:Hp}:∀ {us:List V} {xs:List D} {bs:List Bool},Reps H us xs->i7 xs=some bs->us=bs.map V.bl
 |_,_,_,.nil,h=>by simp[i7] at h;subst h;rfl
 |_,_,bs,.cons (d:=d) a r,h=>by
  cases d with
  |bl b=>
   cases a
   unfold i7 at h
   cases e:i7 _ with
   |none=>rw[e] at h;cases h
   |some cs=>rw[e] at h;cases h;rw[oQ r e];rfl
  |_=>cases h
theorem vK(hc:X.calm=true):CallR X (.builtin "all") (fun us H Q=>∃ (a:Addr) (bs:List Bool),us=[.ref a]/\SqL X.K H a (bs.map V.bl)/\Q (.bl (bs.all id)) H):=by
 intro pins s σ H xs us Q I r h;obtain ⟨a,bs,rfl,hq,q⟩:=h
 cases r with
 |cons r1 r2=>
  cases r2
  cases r1
  obtain ⟨its,w,pl,hz⟩:=I.list hq;have hl:=w.length;have hlt:a<s.heap.objs.size:=by obtain ⟨_,e,_⟩:=pl.isList;exact Heap.lt_size e
  refine call_all_walk (wpAny_pyIter_list pl.isList ?_);refine ⟨s.heap.objs.size,[s.heap.objs.size,a],[s.heap.objs.size],its.toArray.size,_,_,fun i=>(bs[i]?).getD true,rfl,Walks.list (A:=X.A.in1) (I.ok.hd hc) _ a (Nat.ne_of_lt hlt) its.toArray,
   ⟨⟨_,Heap.get?_push_size _ rfl,rfl,rfl⟩,pl.isList.push _⟩,fun i v s' Q' E' hP hQ=>?_,fun h' tk hk=>?_⟩
  ·have hP:its[i]?=some v:=by simpa using hP
   obtain ⟨hi,hv⟩:=List.getElem?_eq_some_iff.mp hP;have hb:i<bs.length:=by rw[List.length_map] at hl;omega
   obtain ⟨u',hu',ru'⟩:=w.get (i:=i) (x:=.bl bs[i]) (by rw[List.getElem?_map,List.getElem?_eq_getElem hb];rfl);rw[hP] at hu'
   cases hu'
   cases ru'
   have hQ:Q' ((bs[i]?).getD true) s':=hQ;rw[List.getElem?_eq_getElem hb] at hQ;exact wpAny_truthy_bool hQ
  ·have e:((List.range its.toArray.size).all fun i=>(bs[i]?).getD true)=bs.all id:=by
      have hsz:its.toArray.size=bs.length:=by rw[List.size_toArray,<- hl,List.length_map]
      rw[hsz,Bool.eq_iff_iff,List.all_eq_true,List.all_eq_true];constructor
      ·intro h b hb
       obtain ⟨i,hi,rfl⟩:=List.getElem_of_mem hb;have:=h i (List.mem_range.mpr hi);rw[List.getElem?_eq_getElem hi] at this;exact this
      ·intro h i hi
       have hi:=List.mem_range.mp hi;rw[List.getElem?_eq_getElem hi];exact h _ (List.getElem_mem hi)
   rw[e];refine ⟨.bl _,H,I.kept (t':=tk) (h':=h') fun b o e=>?_,rfl,q⟩;exact hk b o (fun hm=>by rw[List.mem_singleton.mp hm] at e;exact Nat.lt_irrefl _ (Heap.lt_size e)) (Heap.get?_push_of_some _ e)
def ko:List D->Res D
 | [.lst _ xs]=>match i7 xs with
  |some bs=>.ok (.bl (bs.all id))
  |none=>.bad
 |_=>.bad
theorem xO:∀ es,noX (ko es)=true:=by
 intro es;unfold ko;split
 ·split<;>rfl
 ·rfl
theorem BW(hc:X.calm=true):FCall X (.builtin "all") ko:=by
 refine ⟨CallR.pre (vK hc) ?_⟩;rintro us H Q ⟨Hs,H0,vs,ds,es,d,hl,S,e,kq⟩;unfold ko at e;split at e
 ·rename_i t xs
  split at e
  ·rename_i bs hb
   cases e
   obtain ⟨u,rfl⟩:=eA hl rfl;have S':SR Hs H0 H (some u::vs) (some (.lst t xs)::ds):=S;have hh:=S'.head
   cases hh with
   |lst q R=>
    refine ⟨_,bs,rfl,?_,kq _ H S'.drop.bl⟩;rw[<- oQ R hb];exact SqL.of q
  ·cases e
 ·cases e
def eK(i j:Nat)(fk:ae->Res D):ae->FOut:=fun ρ=>match ρ[i]?,ρ[j]? with
 |some (some (.lst .o xs)),some (some (.lst .o ys))=>aft (fk ρ) fun d=>match d with
  | .int m=>match seqIndex? m ys.length with
   |some q=>match ys[q]? with
    |some y=>if y.tag=.b\/sizeLine<=xs.length\/i=j\/m < -(2 ^ 63)\/2 ^ 63<=m then .bad else .nx ((ρ.set j (some (.lst .o (ys.eraseIdx q)))).set i (some (.lst .o (xs++[y]))))
    |none=>.bad
   |none=>.bad
  |_=>.bad
 |_,_=>.bad
theorem vL{i j:Nat}{x y:Str}{p1 p2 p3 q1 q2 q3:Pos}(hv:PV X (.Name x p1) i)(hw:PV X (.Name y q1) j)(hk:FE X H0 Ex k fk)
    (hbase:attributeBase (.Name x p1) "append" X.env (eval (.Name x p1) X.env)=eval (.Name x p1) X.env:=by rfl)
    (hbase2:attributeBase (.Name y q1) "pop" X.env (eval (.Name y q1) X.env)=eval (.Name y q1) X.env:=by rfl)
    (hfew:((backTo p3 (starEach [.Call (.Attribute (.Name y q1) "pop" q2) [k] [] q3] X.env)).all (fun x=>!x.1)&&(backToKw p3 (keywordEach [] X.env)).all (fun x=>x.1.isSome)&&decide (([.Call (.Attribute (.Name y q1) "pop" q2) [k] [] q3]:List Expr).length+([]:List Keyword).length+(if ([]:List Keyword).isEmpty then 0 else 1)<30))=true:=by rfl)
    (hfew2:((backTo q3 (starEach [k] X.env)).all (fun x=>!x.1)&&(backToKw q3 (keywordEach [] X.env)).all (fun x=>x.1.isSome)&&decide (([k]:List Expr).length+([]:List Keyword).length+(if ([]:List Keyword).isEmpty then 0 else 1)<30))=true:=by rfl)
    (hline:(p2.endLine == p3.line)=true:=by rfl) (hline2:(q2.endLine == q3.line)=true:=by rfl) (hplain:(backTo p3 (starEach [] X.env)).any (·.1)=false:=by rfl) (hplain2:(backTo q3 (starEach [] X.env)).any (·.1)=false:=by rfl)
    (hs1:starEach [.Call (.Attribute (.Name y q1) "pop" q2) [k] [] q3] X.env=(false,eval (.Call (.Attribute (.Name y q1) "pop" q2) [k] [] q3) X.env)::starEach [] X.env:=by rfl) (hs2:starEach [k] X.env=(false,eval k X.env)::starEach [] X.env:=by rfl)
    (hsw:swapsWith (.Call (.Attribute (.Name x p1) "append" p2) [.Call (.Attribute (.Name y q1) "pop" q2) [k] [] q3] [] p3) none pos.line X.env=pure false:=by rfl) :
    FS X H0 Ex (.Expr (.Call (.Attribute (.Name x p1) "append" p2) [.Call (.Attribute (.Name y q1) "pop" q2) [k] [] q3] [] p3) pos) (eK i j fk):=by
 refine ⟨PS.pre (kY (mr PySem.F.plainAttrs_list PySem.F.slot_list_append PySem.F.type_list_append j8 hv.go
  (eG (mr PySem.F.plainAttrs_list PySem.F.slot_list_pop PySem.F.type_list_pop p8 hw.go (eG hk.go fW hs2) hbase2 hfew2 hline2 hs2 hplain2) fW hs1) hbase hfew hline hs1 hplain) hsw) ?_⟩
 rintro En σ H ⟨Hs,ρ,⟨S,n⟩,p⟩;unfold eK at p;split at p
 ·rename_i xs ys hx hy
  obtain ⟨q,us,hq,hH,hl⟩:=S.recv hx;obtain ⟨q',us',hq',hH',hl'⟩:=S.recv hy;refine ⟨.ref q,hq,.inl ⟨rfl,us,SqL.of hH⟩,.ref q',hq',.inl ⟨rfl,us',SqL.of hH'⟩,Hs,ρ,[],S,(PostS.aft p).imp fun d _ p1 v H1 S1=>?_⟩
  cases d with
  |int m=>
   have S1:SR Hs H0 H1 (some v::σ) (some (.int m)::ρ):=S1
   cases SR.isInt S1
   have p1:PostS Hs H0 Ex En (match seqIndex? m ys.length with
    |some q=>match ys[q]? with
     |some y=>if y.tag=.b\/sizeLine<=xs.length\/i=j\/m < -(2 ^ 63)\/2 ^ 63<=m then .bad else .nx ((ρ.set j (some (.lst .o (ys.eraseIdx q)))).set i (some (.lst .o (xs++[y]))))
     |none=>.bad
    |none=>.bad):=p1
   cases e1:seqIndex? m ys.length with
   |none=>rw[e1] at p1;exact p1.elim
   |some c=>
    rw[e1] at p1;dsimp only at p1
    cases e2:ys[c]? with
    |none=>rw[e2] at p1;exact p1.elim
    |some z=>
     rw[e2] at p1;dsimp only at p1;split at p1
     ·exact p1.elim
     ·rename_i hc
      have hz:z.tag≠.b:=fun w=>hc (.inl w);have hij:i≠j:=fun w=>hc (.inr (.inr (.inl w)));obtain ⟨a,vs,u,ha,hHa,hla,hu,S2⟩:=S1.drop.popAt n hy e2 hz;rw[hq'] at ha
      cases ha
      have n2:noB (ρ.set j (some (.lst .o (ys.eraseIdx c)))):=n.set fun d' w=>by cases w;exact fun y=>nomatch y
      obtain ⟨b,ws,hb,hHb,hlb,S3⟩:=S2.append hz n2 (i:=i) (xs:=xs) (by rw[List.getElem?_set_ne (Ne.symm hij)];exact hx);rw[hq] at hb
      cases hb
      refine ⟨q',vs,m,c,u,rfl,rfl,hHa,?_,?_,by rw[hla];exact e1,hu,q,ws,u,rfl,rfl,hHb,?_,p1 σ _ ⟨S3,n2.set fun d' w=>by cases w;exact fun y=>nomatch y⟩⟩
      ·exact Int.not_lt.mp fun w=>hc (.inr (.inr (.inr (.inl w))))
      ·exact Int.not_le.mp fun w=>hc (.inr (.inr (.inr (.inr w))))
      ·rw[hlb]
       exact Nat.lt_of_not_le fun w=>hc (.inr (.inl w))
  |_=>exact p1.elim
 ·exact p.elim
end
section
variable {prog:Program}{w:World}{A:Around}{E:Value->Shared->Prop}{s:Shared}
structure ZAp (zp tI tO j1 j2:Addr) (f1 f2:List Addr):Prop where
 a1:tO≠zp
 a2:j1≠zp
 a3:j2≠zp
 a4:tO≠j1
 a5:tO≠j2
 a6:j1≠j2
 b1:∀ b∈f1,b≠zp/\b≠tO/\b≠j2
 b2:∀ b∈f2,b≠zp/\b≠tO/\b≠j1
 c1:tI≠zp
 c2:tI≠tO
 c3:tI≠j1
 c4:tI≠j2
variable {zp tI tO j1 j2:Addr}{f1 f2:List Addr}{n1 n2 k:Nat}{P1 P2:Nat->Value->Prop}{S1 S2:Nat->Heap->Prop}{a b:Value}
theorem yO{Q:Bool->Shared->Prop}(hz:IsZip s.heap zp tI tO .none)(h:Q true s):wpAny (model prog w) A (Builtin.SmallTypes.ownedTupleIsFree (.ref zp)) Q E s:=by
 unfold Builtin.SmallTypes.ownedTupleIsFree;refine wpAny_bind (wpAny_field hz rfl (x:=.none) rfl (wpAny_pure h))
theorem vM{Q:Value->Shared->Prop}(D1:Draws prog w A j1 f1 n1 P1 S1)(D2:Draws prog w A j2 f2 n2 P2 S2)(ap:ZAp zp tI tO j1 j2 f1 f2)
    (hz:IsZip s.heap zp tI tO .none) (hTI:IsPair s.heap tI (.ref j1) (.ref j2)) (hTO:IsPair s.heap tO a b) (h1:S1 k s.heap) (h2:S2 k s.heap) (l1:k<n1) (l2:k<n2)
    (hQ:∀ x y h' tk,P1 k x->P2 k y->IsZip h' zp tI tO (rawInt s.heap.objs.size)->IsPair h' tO x y->S1 (k+1) h'->S2 (k+1) h'->IsPair h' s.heap.objs.size x y →
     (∀ c o,c≠zp->c≠tO->c≠j1->c≠j2->s.heap.get? c=some o->h'.get? c=some o)->Q (.ref s.heap.objs.size) { s with heap:=h',toks:=tk }) :
    wpAny (model prog w) A (Builtin.«zip.__next__» ⟨[.ref zp],[]⟩) (fun fin s'=>∃ v,fin=.done (.ret v)/\Q v s') E s:=by
 show wpAny _ _ (field (.ref zp) 2 >>= _) _ _ _;refine wpAny_bind (wpAny_field hz rfl (x:=.bool false) rfl (show wpAny _ _ (field (.ref zp) 3 >>= _) _ _ _ from wpAny_bind (wpAny_field hz rfl (x:=.ref tI) rfl (wpAny_bind (wpAny_seqItems hTI rfl ?_)))));show wpAny _ _ (Builtin.SmallTypes.ownedTupleIsFree (.ref zp) >>= _) _ _ _;refine wpAny_bind (yO hz ?_);simp only[if_true]
 refine wpAny_bind (wpAny_rule (wpAny_bind (wpAny_field hz rfl (x:=.ref tO) rfl (wpAny_bind (wpAny_setField_rec hz (by simp) fun g1 hz1 e1=>?_)))));have hz1:IsZip g1 zp tI tO .ellipsis:=hz1;refine wpAny_bind ?_;simp only[List.zipIdx_cons,List.zipIdx_nil,List.forIn_cons,List.forIn_nil]
 refine wpAny_bind (wpAny_bind (wpAny_onRaise (show wpAny _ _ (Builtin.SmallTypes.nextOf (.ref j1) >>= _) _ _ _ from ?_)));have s1:S1 k g1:=D1.frame k _ _ h1 fun b hb o e=>e1.extBut _ _ (ap.b1 b hb).1 e;refine wpAny_bind (D1.item k { s with heap:=g1 } _ _ l1 s1 fun x g2 t2 px s1' e2=>wpAny_pure ?_);have hTO2:IsPair g2 tO a b:=e2.extBut _ _ ap.a4 (e1.extBut _ _ ap.a1 hTO)
 refine wpAny_bind (wpAny_seqItems hTO2 rfl (wpAny_bind (wpAny_updateSeq_pair (s:={ s with heap:=g2,toks:=t2 }) hTO2 fun g3 hTO3 e3=>?_)));have hTO3:IsPair g3 tO x b:=hTO3;refine wpAny_bind (wpAny_letGo (wpAny_pure (wpAny_bind (wpAny_bind (wpAny_onRaise (show wpAny _ _ (Builtin.SmallTypes.nextOf (.ref j2) >>= _) _ _ _ from ?_))))))
 have s2:S2 k g3:=D2.frame k _ _ h2 fun b hb o e=>e3.extBut _ _ (ap.b2 b hb).2.1 (e2.extBut _ _ (ap.b2 b hb).2.2 (e1.extBut _ _ (ap.b2 b hb).1 e));refine wpAny_bind (D2.item k { s with heap:=g3,toks:=t2 } _ _ l2 s2 fun y g4 t4 py s2' e4=>wpAny_pure ?_);have hTO4:IsPair g4 tO x b:=e4.extBut _ _ ap.a5 hTO3
 refine wpAny_bind (wpAny_seqItems hTO4 rfl (wpAny_bind (wpAny_updateSeq_pair (s:={ s with heap:=g4,toks:=t4 }) hTO4 fun g5 hTO5 e5=>?_)));have hTO5:IsPair g5 tO x y:=hTO5;refine wpAny_bind (wpAny_letGo (wpAny_pure (wpAny_pure (wpAny_bind (wpAny_seqItems hTO5 rfl (wpAny_bind (wpAny_newTuple ?_)))))));have sz:g5.objs.size=s.heap.objs.size:=by rw[e5.1,e4.1,e3.1,e2.1,e1.1]
 have hz5:IsZip g5 zp tI tO .ellipsis:=e5.extBut _ _ ap.a1.symm (e4.extBut _ _ ap.a3.symm (e3.extBut _ _ ap.a1.symm (e2.extBut _ _ ap.a2.symm hz1)));have kp5:∀ c o,c≠zp->c≠tO->c≠j1->c≠j2->s.heap.get? c=some o->g5.get? c=some o:=fun c o q1 q2 q3 q4 e=>e5.extBut _ _ q2 (e4.extBut _ _ q4 (e3.extBut _ _ q2 (e2.extBut _ _ q3 (e1.extBut _ _ q1 e))))
 have s15:S1 (k+1) g5:=D1.frame _ _ _ s1' fun b hb o e=>e5.extBut _ _ (ap.b1 b hb).2.1 (e4.extBut _ _ (ap.b1 b hb).2.2 (e3.extBut _ _ (ap.b1 b hb).2.1 e));have s25:S2 (k+1) g5:=D2.frame _ _ _ s2' fun b hb o e=>e5.extBut _ _ (ap.b2 b hb).2.1 e;have lz:zp<g5.objs.size:=Heap.lt_size hz5
 refine (show wpAny _ _ (Builtin.SmallTypes.ownedTupleHandOut (.ref zp) (.ref g5.objs.size) >>= _) _ _ _ from wpAny_bind (by
  unfold Builtin.SmallTypes.ownedTupleHandOut
  have hz6:IsZip (g5.push { cls:=.type "tuple", data:=.seq #[x,y] }) zp tI tO .ellipsis:=Heap.get?_push_of_some _ hz5
  refine wpAny_bind (wpAny_setField_rec hz6 (by simp) fun g7 hz7 e7=>?_)
  have hz7:IsZip g7 zp tI tO (rawInt g5.objs.size):=hz7
  refine wpAny_setField_rec hz7 (by simp) fun g8 hz8 e8=>wpAny_pure ⟨_,rfl,?_⟩
  have hz8:IsZip g8 zp tI tO (rawInt g5.objs.size):=hz8
  have up:∀ c o,c≠zp->g5.get? c=some o->g8.get? c=some o:=fun c o q1 e=>e8.extBut _ _ q1 (e7.extBut _ _ q1 (Heap.get?_push_of_some _ e))
  have hT8:IsPair g8 g5.objs.size x y:=e8.extBut _ _ (Nat.ne_of_gt lz) (e7.extBut _ _ (Nat.ne_of_gt lz) (Heap.get?_push_size _ rfl))
  show Q (.ref g5.objs.size) _
  rw[sz] at hz8 hT8 ⊢
  exact hQ x y g8 t4 px py hz8 (up _ _ ap.a1 hTO5) (D1.frame _ _ _ s15 fun b hb o e=>up _ _ (ap.b1 b hb).1 e) (D2.frame _ _ _ s25 fun b hb o e=>up _ _ (ap.b2 b hb).1 e) hT8 fun c o q1 q2 q3 q4 e=>up c o q1 (kp5 c o q1 q2 q3 q4 e)))
theorem xP{Q:Fin->Shared->Prop}(D1:Draws prog w A j1 f1 n1 P1 S1)(D2:Draws prog w A j2 f2 n2 P2 S2)(ap:ZAp zp tI tO j1 j2 f1 f2)
    (hz:IsZip s.heap zp tI tO .none) (hTI:IsPair s.heap tI (.ref j1) (.ref j2)) (hTO:IsPair s.heap tO a b) (h1:S1 k s.heap) (h2:S2 k s.heap) (hend:k=n1\/(k<n1/\k=n2))
    (hE:∀ h' e tk,(∀ c o,c≠zp->c≠tO->c≠j1->c≠j2->s.heap.get? c=some o->h'.get? c=some o)->(∃ o,h'.get? e=some o/\o.cls=.type "StopIteration")->E (.ref e) { s with heap:=h',toks:=tk }) :
    wpAny (model prog w) A (Builtin.«zip.__next__» ⟨[.ref zp],[]⟩) Q E s:=by
 show wpAny _ _ (field (.ref zp) 2 >>= _) _ _ _;refine wpAny_bind (wpAny_field hz rfl (x:=.bool false) rfl (show wpAny _ _ (field (.ref zp) 3 >>= _) _ _ _ from wpAny_bind (wpAny_field hz rfl (x:=.ref tI) rfl (wpAny_bind (wpAny_seqItems hTI rfl ?_)))));show wpAny _ _ (Builtin.SmallTypes.ownedTupleIsFree (.ref zp) >>= _) _ _ _;refine wpAny_bind (yO hz ?_);simp only[if_true]
 refine wpAny_bind (wpAny_rule (wpAny_bind (wpAny_field hz rfl (x:=.ref tO) rfl (wpAny_bind (wpAny_setField_rec hz (by simp) fun g1 hz1 e1=>?_)))));have hz1:IsZip g1 zp tI tO .ellipsis:=hz1;refine wpAny_bind ?_;simp only[List.zipIdx_cons,List.zipIdx_nil,List.forIn_cons,List.forIn_nil]
 refine wpAny_bind (wpAny_bind (wpAny_onRaise (show wpAny _ _ (Builtin.SmallTypes.nextOf (.ref j1) >>= _) _ _ _ from ?_)));have s1:S1 k g1:=D1.frame k _ _ h1 fun b hb o e=>e1.extBut _ _ (ap.b1 b hb).1 e;rcases hend with rfl | ⟨l1,rfl⟩
 ·refine wpAny_bind (D1.done { s with heap:=g1 } _ _ s1 fun g2 e e2 he=>?_)
  obtain ⟨oe,hoe,hce⟩:=he;have hz2:IsZip g2 zp tI tO .ellipsis:=e2 _ _ ap.a2.symm hz1;have ne:e≠zp:=fun q=>by subst q;rw[hz2] at hoe;cases hoe;simp at hce
  exact wpAny_setField_rec hz2 (by simp) fun g3 _ e3=>hE g3 e s.toks (fun c o q1 _ q3 _ q=>e3.extBut _ _ q1 (e2 _ _ q3 (e1.extBut _ _ q1 q))) ⟨oe,e3.extBut _ _ ne hoe,hce⟩
 ·refine wpAny_bind (D1.item k { s with heap:=g1 } _ _ l1 s1 fun x g2 t2 px s1' e2=>wpAny_pure ?_)
  have hTO2:IsPair g2 tO a b:=e2.extBut _ _ ap.a4 (e1.extBut _ _ ap.a1 hTO);refine wpAny_bind (wpAny_seqItems hTO2 rfl (wpAny_bind (wpAny_updateSeq_pair (s:={ s with heap:=g2,toks:=t2 }) hTO2 fun g3 hTO3 e3=>?_)));refine wpAny_bind (wpAny_letGo (wpAny_pure (wpAny_bind (wpAny_bind (wpAny_onRaise (show wpAny _ _ (Builtin.SmallTypes.nextOf (.ref j2) >>= _) _ _ _ from ?_))))))
  have s2:S2 k g3:=D2.frame k _ _ h2 fun b hb o e=>e3.extBut _ _ (ap.b2 b hb).2.1 (e2.extBut _ _ (ap.b2 b hb).2.2 (e1.extBut _ _ (ap.b2 b hb).1 e));refine wpAny_bind (D2.done { s with heap:=g3,toks:=t2 } _ _ s2 fun g4 e e4 he=>?_);obtain ⟨oe,hoe,hce⟩:=he;have hz4:IsZip g4 zp tI tO .ellipsis:=e4 _ _ ap.a3.symm (e3.extBut _ _ ap.a1.symm (e2.extBut _ _ ap.a2.symm hz1))
  have ne:e≠zp:=fun q=>by subst q;rw[hz4] at hoe;cases hoe;simp at hce
  exact wpAny_setField_rec (s:={ s with heap:=g4,toks:=t2 }) hz4 (by simp) fun g5 _ e5=>hE g5 e t2 (fun c o q1 q2 q3 q4 q=>e5.extBut _ _ q1 (e4 _ _ q4 (e3.extBut _ _ q2 (e2.extBut _ _ q3 (e1.extBut _ _ q1 q))))) ⟨oe,e5.extBut _ _ ne hoe,hce⟩
end
section
variable {prog:Program}{w:World}{A:Around}{E:Value->Shared->Prop}{s:Shared}
variable {zp tI tO j1 j2:Addr}{f1 f2:List Addr}{n1 n2 k:Nat}{P1 P2:Nat->Value->Prop}{S1 S2:Nat->Heap->Prop}{a b:Value}
theorem vN{Q:Option Value->Shared->Prop}(hh:A.handled=none)(D1:∀ A':Around,A'.handled=none->Draws prog w A' j1 f1 n1 P1 S1)(D2:∀ A':Around,A'.handled=none->Draws prog w A' j2 f2 n2 P2 S2)(ap:ZAp zp tI tO j1 j2 f1 f2)
    (hz:IsZip s.heap zp tI tO .none) (hTI:IsPair s.heap tI (.ref j1) (.ref j2)) (hTO:IsPair s.heap tO a b) (h1:S1 k s.heap) (h2:S2 k s.heap) (l1:k<n1) (l2:k<n2)
    (hQ:∀ x y h' tk,P1 k x->P2 k y->IsZip h' zp tI tO (rawInt s.heap.objs.size)->IsPair h' tO x y->S1 (k+1) h'->S2 (k+1) h'->IsPair h' s.heap.objs.size x y →
     (∀ c o,c≠zp->c≠tO->c≠j1->c≠j2->s.heap.get? c=some o->h'.get? c=some o)->Q (some (.ref s.heap.objs.size)) { s with heap:=h',toks:=tk }):wpAny (model prog w) A (pyNext (.ref zp)) Q E s:=by
 have ty:s.TypeIs (.ref zp) "zip" := ⟨_,hz,rfl⟩
 unfold pyNext;exact wpAny_bind (wpAny_attempt (wpAny_callSpecial?_slot (name:=Str.ofString "__next__") ty F.slot_zip_next (wpAny_call_entry F.slot_zip_next ty F.entry_zip_next
  (vM (D1 _ hh) (D2 _ hh) ap hz hTI hTO h1 h2 l1 l2 fun x y h' tk r1 r2 r3 r4 r5 r6 r7 r8=>wpAny_pure (hQ x y h' tk r1 r2 r3 r4 r5 r6 r7 r8)) (F.args_zip_next_1 _))))
theorem vO{Q:Option Value->Shared->Prop}(hh:A.handled=none)(D1:∀ A':Around,A'.handled=none->Draws prog w A' j1 f1 n1 P1 S1)(D2:∀ A':Around,A'.handled=none->Draws prog w A' j2 f2 n2 P2 S2)(ap:ZAp zp tI tO j1 j2 f1 f2)
    (hz:IsZip s.heap zp tI tO .none) (hTI:IsPair s.heap tI (.ref j1) (.ref j2)) (hTO:IsPair s.heap tO a b) (h1:S1 k s.heap) (h2:S2 k s.heap) (hend:k=n1\/(k<n1/\k=n2))
    (hQ:∀ h' tk,(∀ c o,c≠zp->c≠tO->c≠j1->c≠j2->s.heap.get? c=some o->h'.get? c=some o)->Q none { s with heap:=h',toks:=tk }):wpAny (model prog w) A (pyNext (.ref zp)) Q E s:=by
 have ty:s.TypeIs (.ref zp) "zip" := ⟨_,hz,rfl⟩
 unfold pyNext;refine wpAny_bind (wpAny_attempt (wpAny_callSpecial?_slot (name:=Str.ofString "__next__") ty F.slot_zip_next (wpAny_call_entry F.slot_zip_next ty F.entry_zip_next
  (xP (D1 _ hh) (D2 _ hh) ap hz hTI hTO h1 h2 hend fun h' e tk kp he=>?_) (F.args_zip_next_1 _))))
 obtain ⟨o,ho,hc⟩:=he;exact wpAny_bind (wpAny_isInstance (T := "StopIteration") (b:=true) ⟨o,ho,hc⟩ isSubtype_stop (wpAny_pure (hQ _ _ kp)))
end
abbrev zh1(h:Heap)(l:Addr):Heap:=h.push { cls:=.type "list_iterator", data:=.fields #[.ref l,.int 0 0] }
theorem Inv.turnLay{X:Cx}{pins:List (Addr × Obj)}{σ:St}{H:Hp}{s:Shared}{h':Heap}{ch:List Addr}{T:Addr}{us:List V}{tk:Nat}(I:Inv X pins σ H s)(kp:∀ b o,b∉ch->s.heap.get? b=some o->h'.get? b=some o)(hf:∀ b∈ch,gw X pins H b)
    (hT:s.heap.objs.size<=T) (new:ObjOk X.prog X.w (upd H T (.tup us)) h' T (.tup us)):Inv X pins σ (upd H T (.tup us)) { s with heap:=h',toks:=tk }:=by
 have hTn:=I.hok.fresh hT;have neT:∀ b o,s.heap.get? b=some o->b≠T:=fun b o e=>Nat.ne_of_lt (Nat.lt_of_lt_of_le (Heap.lt_size e) hT);have up:∀ b o,H b=some o->upd H T (.tup us) b=some o:=fun b o e=>by rw[aR (bC e hTn)];exact e
 refine I.step (g':=s.gens) (d':=s.drawn) (ch:=ch) (fun b hb=>?_) (fun b o _ _ hc e _=>kp b o hc e) (fun b o _ _ hc e _=>⟨o.slots,kp b o hc e⟩) (fun b o hc e n=>by rw[aR (neT b o e)];exact n) (fun b o hc e=>⟨o,kp b o hc e⟩)
  (fun b xs e=>up _ _ e) (fun b o u e=>up _ _ e) (fun b ps e=>⟨#[],by rw[up _ _ e];simp⟩) (fun m hm=>?_) (fun b u e=>?_) I.bare
 ·obtain ⟨_,q2,_,q4,q5,q6⟩:=hf b hb
  exact ⟨q4,q2,q5,q6⟩
 ·obtain ⟨o,es,ep,ho,r⟩:=hm
  exact ⟨o,es,ep,kp _ o (fun z=>(hf _ z).2.1 rfl) ho,r⟩
 ·by_cases hb:b=T
  ·subst hb;rw[bP] at e;cases e;exact new
  ·rw[aR hb] at e
   refine (I.hok b u e).stay (fun c v hc q=>kp c v (fun z=>?_) q) (fun c q=>up _ _ q) fun c xs q=>up _ _ q;have:=(hf c z).1;rcases hc with rfl | hc
   ·rw[this] at e;cases e
   ·rw[this] at hc;cases hc
theorem Inv.turnL{X:Cx}{pins:List (Addr × Obj)}{σ:St}{H:Hp}{s:Shared}{h':Heap}{ch:List Addr}{tk:Nat}(I:Inv X pins σ H s)(kp:∀ b o,b∉ch->s.heap.get? b=some o->h'.get? b=some o)(hf:∀ b∈ch,gw X pins H b):Inv X pins σ H { s with heap:=h',toks:=tk }:=by
 refine I.step (g':=s.gens) (d':=s.drawn) (ch:=ch) (fun b hb=>?_) (fun b o _ _ hc e _=>kp b o hc e) (fun b o _ _ hc e _=>⟨o.slots,kp b o hc e⟩) (fun b o hc e n=>n) (fun b o hc e=>⟨o,kp b o hc e⟩)
  (fun b xs e=>e) (fun b o u e=>e) (fun b ps e=>⟨#[],by rw[e];simp⟩) (fun m hm=>?_) (fun b u e=>?_) I.bare
 ·obtain ⟨_,q2,_,q4,q5,q6⟩:=hf b hb
  exact ⟨q4,q2,q5,q6⟩
 ·obtain ⟨o,es,ep,ho,r⟩:=hm
  exact ⟨o,es,ep,kp _ o (fun z=>(hf _ z).2.1 rfl) ho,r⟩
 ·refine (I.hok b u e).stay (fun c v hc q=>kp c v (fun z=>?_) q) (fun c q=>q) fun c xs q=>q
  have:=(hf c z).1;rcases hc with rfl | hc
  ·rw[this] at e;cases e
  ·rw[this] at hc;cases hc
section
variable {X:Cx}{Ex:Value->Prop}{H0:Hp}{a b:Expr}{elts:List Expr}{x1:Nat}{p pos pos':Pos}{ta:TA}{fa:ae->Res (List D)}
end
section
variable {X:Cx}{Ex:Value->Prop}{H0:Hp}{e:Expr}{pos:Pos}
def ce(n:Nat)(F:List D->Res D)(fa:ae->Res (List D)):ae->Res D:=fun ρ=>fa ρ >>= fun ds=>if ds.length=n then (match ee F ds with
 | .ok d=>.ok d
 |_=>.bad) else .bad
theorem gF{x:Str}{n k:Nat}{F:List D->Res D}{p:Pos}{es:List Expr}{fa:ae->Res (List D)}(c:Cal X.prog X.w X.K X.mg X.base x n F k)(hr:Room k X.A)(hg:Gl X x)(ha:FA X H0 Ex (e::es) fa)(hn:(e::es).length=n:=by rfl)
    (hdb:(x == ("__debug__" : Str))=false:=by decide) (he:starEach (e::es) X.env=(false,eval e X.env)::starEach es X.env:=by rfl) (hpl:(backTo pos (starEach es X.env)).any (·.1)=false:=by rfl) :
    FE X H0 Ex (.Call (.Name x p) (e::es) [] pos) (ce n F fa):=by
 obtain ⟨f,fd,ps,G,hm,hk,hb⟩:=c.ex;refine ⟨PE.pre (rZ (dvs:=[]) (E:=fun _ _ _=>False) G hr hg hm hk hb .nil zL ha.go hdb he hpl) ?_⟩;rintro σ H Q ⟨Hs,ρ,ts,S,p⟩;refine ⟨Hs,ρ,ts,S,(Post.bind p).imp fun ds _ p1 us H1 hl S1=>?_⟩;split at p1
 ·rename_i hds
  rw[List.append_nil]
  cases ec:ee F ds with
  |bad=>rw[ec] at p1;exact p1.elim
  |exc C=>rw[ec] at p1;exact p1.elim
  |ok d=>
   rw[ec] at p1;obtain ⟨Hs',es',a1,a2,a3,a4,a5⟩:=qb (Ex:=fun _=>False) (F:=F) (n:=n) hds hl S1 (by rw[ec];exact p1);refine ⟨Hs',es',a1,a2,a3,a4,?_⟩
   cases ef:F es' with
   |ok d=>rw[ef] at a5;exact a5
   |exc C=>rw[ef] at a5;exact fun H' sm=>(a5 H' sm).1
   |bad=>rw[ef] at a5;exact a5.elim
 ·exact p1.elim
theorem hu4{k:Nat}{A:Around}(r:Room k A):A.units+4<cLine:=by have:=r.un;omega
end
theorem Dt{P:Program}{w:World}{K:PySem.W.Frag}{mg:Str->Option Value}{base:Heap}{x qual:Str}{C:Addr}{st:Stmt}{N ps:List Str}{k n:Nat}{g:ae->FOut}(hU:∃ f fd,Fun K "__init__" qual st f fd/\mg x=some (.ref C)/\Mk K C f/\Binds K fd ps [])(S:FnScope N ps (az st))(hn:ps.length=n+1)
    (hbody:∀ (f:Addr) (cdv:Value) (A:Around) (outer:List Env) (s:Shared) (H H0:Hp) (E:XK) (Ex:Value->Prop),(∀ C H',Ex C->Same H0 H'->E C none H')->Room k (A.deeper (envOfC qual (az st) s.heap.objs.size f cdv)) →
     FSs (cxm P w K mg base N qual (az st) f cdv A outer s H E) H0 Ex (cK st) g):Mak P w K mg base x C n (dC C N.length g) (k+1):=by
 obtain ⟨f,fd,U,hm,M,hb⟩:=hU;exact ⟨f,fd,ps,vG U S hn fun cdv A outer s H H0 E Ex hE hr=>hbody f cdv A outer s H H0 E Ex hE hr,hm,M,hb⟩
def kr(K:PySem.W.Frag):Bool:=K.all fun p=>!(p.2.cls == .type "list")
theorem vP{K:PySem.W.Frag}(h:kr K=true){a:Addr}{o:Obj}(e:K.lookup a=some o):o.cls≠.type "list" := by
 unfold kr at h;induction K with
 |nil=>simp at e
 |cons p r ih=>
  obtain ⟨b,q⟩:=p;rw[List.lookup_cons] at e;rw[List.all_cons,Bool.and_eq_true] at h
  cases hb:a == b with
  |true=>
   rw[hb] at e;have e:q=o:=Option.some.inj e;subst e;intro z;have:=h.1;rw[show (q.cls == Value.type "list")=true by rw[z];simp] at this
   cases this
  |false=>rw[hb] at e;exact ih h.2 e
theorem Du{l:PySem.W.OpenLaw}{n k:Nat}{q:Program}{loose:List Str}{XP:(Str->Option Value)->Heap->Prop}{YP:World->Heap->Prop}{d:DefRec}{K:Params->PySem.W.Frag}{x:Str}
    (hn:l.most=some n) (hn2:n<=sizeLine) (hdf:d.params.defaults=[]) (hr:Room k callerA) (hY:∀ (w:World) (h:Heap),YP w h->(K w.params).In h)
    (F:∀ (w:World) (mg:Str->Option Value) (fa:Addr) (h:Heap),(K w.params).In h->h.Ns mainGlobals mg->mg d.name=some (.ref fa) →
     ∃ Fl:List D->Res D,(∀ ns:List Int,ns.length<=n->Fl [.scr ns]=.ok (.bl true))/\kr (K w.params)=true/\∃ fd:FuncData,(∀ (s:Shared) (u:Value),BindsTo s fd ⟨[u],[]⟩ [(x,u)]) ∧
      ∀ base:Heap,(K w.params).In base->base.Ns mainGlobals mg->FnOk l.prog w (K w.params) mg base (CXm l.prog w) k fa fd [x] (spF 1 Fl)) :
    PySem.W.WalkO q loose XP YP l.row.toRowW d [] (fun f vs=>PySem.call f vs):=by
 refine Att.attach_call hn hdf fun w s₀ s₁ mg mb fa o pm cd doc a vs ns G Y ho hd hcd hmg hobj hints hlen hg=>?_;have KX:=hY w _ Y;obtain ⟨Fl,hFl,hnl,fd,hb,hF⟩:=F w mg fa _ KX G.T.g hmg;refine xD KX G.T.g G.T.b G.T.builtins G.T.nolimit hg hobj hints (Nat.le_trans hlen hn2) hr hF hb (fun H hO hS=>?_) fun H e s' h=>?_
 ·have hH:∃ o,H a=some (.frz o (.lst (ns.map V.int))):=by
     rcases hS with (z | z) | ⟨o,its,m,z,zc,_⟩
     ·rcases hO a with y | ⟨o,xs,y⟩
      ·rw[y] at z;cases z
      ·rw[y] at z;cases z
     ·exact z
     ·exact absurd zc (vP hnl z)
  obtain ⟨o,hH⟩:=hH;refine ⟨H,[.scr ns],rfl,Same.refl _,.cons (.scr hH) .nil,fun d m=>by simp at m;subst m;rfl,?_⟩;rw[hFl ns hlen];exact fun v H' S'=>SR.isBl S'
 ·obtain ⟨_,_,_,_,_,_,_,_,_,z⟩:=h
  exact z
theorem cm{K:PySem.W.Frag}{h:Heap}{mg:Str->Option Value}{x:Str}{st:Stmt}{ps:List Str}{f:Addr}{oc:Value}{od an:Option Addr}{osl:Array (Option Value)}{kV doc pm cdv ct:Value}(X:K.In h)(G:h.Ns mainGlobals mg)
    (a:PySem.W.nsIn K mainGlobals x=some (some (.ref f))) (l:K.lookup f=some ⟨oc,od,.func (PySem.W.fnOf x x (eI st) (cK st) (az st) .none kV doc pm an cdv ct),osl⟩) (c:PySem.W.codeIn K cdv x=true) (kp:PySem.W.keepIn K (.ref f)=true)
    (hb:∀ (kV doc pm:Value) (an:Option Addr) (cdv ct:Value) (us:List Value),us.length=ps.length->bindArgs (PySem.W.fnOf x x (eI st) (cK st) (az st) .none kV doc pm an cdv ct) ⟨us,[]⟩=pure (ps.zip us)):Df K mg x st ps:=
 ⟨⟨f,_,mw l c kp,PySem.W.mg_of X G a,(mw (st:=st) l c kp).binds hb⟩⟩
theorem xQ{K:PySem.W.Frag}{h:Heap}{mg:Str->Option Value}{x:Str}{C:Addr}(X:K.In h)(G:h.Ns mainGlobals mg)(a:PySem.W.nsIn K mainGlobals x=some (some (.ref C)))(e:PySem.W.excIn K C pJ "ValueError.__new__" = true):XCls K mg x C:=zN (PySem.W.mg_of X G a) e
theorem BX{P:Program}{w:World}{K:PySem.W.Frag}{mg:Str->Option Value}{base:Heap}{N:List Str}{x:Str}{st:Stmt}{ps:List Str}{k:Nat}{g:ae->FOut}{f:Addr}{fd:FuncData}(U:Fun K x x st f fd)(S:FnScope N ps (az st))
    (hbody:∀ (f:Addr) (cdv:Value) (A:Around) (outer:List Env) (s:Shared) (H:Hp) (E:XK) (Ex:Value->Prop),(∀ C H',Ex C->Same H H'->E C none H')->Room k (A.deeper (envOfC x (az st) s.heap.objs.size f cdv)) →
     FSs (cxm P w K mg base N x (az st) f cdv A outer s H E) H Ex (cK st) g):FnOk P w K mg base (CXm P w) (k+1) f fd ps (spF ps.length (bj N.length g)):=
 sr U S fun cdv A outer s H E ds hr hl hx=>⟨g,hbody f cdv A outer s H E _ (fun C H' e sm=>hx C e H' sm) hr,rfl⟩
theorem kt7{K:PySem.W.Frag}{T:String}(h1:PySem.W.kitOne K (.type "NoneType") (.type T)=some (gR "NoneType" T))(h2:PySem.W.kitOne K (.type "bool") (.type T)=some (gR "bool" T))(h3:PySem.W.kitOne K (.type "int") (.type T)=some (gR "int" T))(h4:PySem.W.kitOne K (.type "str") (.type T)=some (gR "str" T))
    (h5:PySem.W.kitOne K (.type "list") (.type T)=some (gR "list" T)) (h6:PySem.W.kitOne K (.type "tuple") (.type T)=some (gR "tuple" T)) (h7:PySem.W.kitOne K (.type "dict") (.type T)=some (gR "dict" T)):KT K T:=fun t ht=>by
 simp only[List.mem_cons,List.not_mem_nil,or_false] at ht;rcases ht with rfl | rfl | rfl | rfl | rfl | rfl | rfl<;>assumption
def fZ:List D->Option (List Str)
 | []=>some []
 | .str i::r=>(fZ r).map (i::·)
 |_=>none
def jM:List Str->Bool
 | []=>true
 | [_]=>true
 |a::b::r=>PySem.Spec.ltCps a.cps.toList b.cps.toList&&jM (b::r)
def gG:List D->Res D
 | [d]=>match d.its with
  |some ys=>match fZ ys with
   |some ss=>if d.isL=true/\jM ss=true/\ss.length<=100000 then .ok (.lst .o (ss.map D.str)) else .bad
   |none=>.bad
  |none=>.bad
 |_=>.bad
def fG(ys zs:List D):List D:=(ys.zip zs).map fun p=>.tup [p.1,p.2]
def hV(fa:ae->Res (List D)):ae->Res (List D):=fun ρ=>fa ρ >>= fun es=>match es with
 | [d,e]=>if d.tag=.b\/d.isL=false\/e.tag=.b\/e.isL=false then .bad else match d.its,e.its with
  |some ys,some zs=>.ok (fG ys zs)
  |_,_=>.bad
 |_=>.bad
def dNe:D->D->Res D:=fun x y=>if qk x=true/\qk y=true then (match aU 4 x y with
 |some b=>.ok (.bl (!b))
 |none=>.bad) else eM true x y
abbrev yh2(h:Heap)(l l':Addr):Heap:=(zh1 h l).push { cls:=.type "list_iterator", data:=.fields #[.ref l',.int 0 0] }
abbrev yh3(h:Heap)(l l':Addr):Heap:=(yh2 h l l').push { cls:=.type "tuple", data:=.seq #[.ref h.objs.size,.ref (zh1 h l).objs.size] }
abbrev yh4(h:Heap)(l l':Addr):Heap:=(yh3 h l l').push { cls:=.type "tuple", data:=.seq #[.none,.none] }
abbrev yh5(h:Heap)(l l':Addr):Heap:=(yh4 h l l').push { cls:=.type "zip", data:=.fields #[.none,.bool false,.bool false,.ref (yh2 h l l').objs.size,.ref (yh3 h l l').objs.size] }
theorem vQ(l l':Addr)(xs ys:Array Value) :
    Meets (Builtin.«zip.__new__» ⟨[.type "zip", .ref l,.ref l'],[]⟩) (fun _ R s=>(s.heap.IsList l xs/\s.heap.IsList l' ys)/\R (.ok (.ret (.ref (yh4 s.heap l l').objs.size))) { s with heap:=yh5 s.heap l l' }):=
 .of_wp fun prog w A R s h=>by
  obtain ⟨hp,g,d,tk,os⟩:=s;obtain ⟨⟨hl,hl'⟩,h⟩:=h;have sb:=sub_zip;have hL:Heap.IsList (Shared.heap ⟨hp,g,d,tk,os⟩) l xs:=hl;have hL':Heap.IsList (Shared.heap ⟨zh1 hp l,g,d,tk,os⟩) l' ys:=by obtain ⟨o,e,r⟩:=hl';exact ⟨o,Heap.get?_push_of_some _ e,r⟩
  wp_walk using wpAny_pyIter_list hL,wpAny_pyIter_list hL';exact ⟨_,rfl,h⟩
theorem vR{prog:Program}{w:World}{A:Around}{E:Value->Shared->Prop}{s:Shared}{l l':Addr}{xs ys:Array Value}{Q:Value->Shared->Prop}(hl:s.heap.IsList l xs)(hl':s.heap.IsList l' ys)
    (h:∀ h',IsZip h' (s.heap.objs.size+4) (s.heap.objs.size+2) (s.heap.objs.size+3) .none->IsPair h' (s.heap.objs.size+2) (.ref s.heap.objs.size) (.ref (s.heap.objs.size+1))->IsPair h' (s.heap.objs.size+3) .none .none →
     h'.IsListIter s.heap.objs.size l 0->h'.IsListIter (s.heap.objs.size+1) l' 0->(∀ c o,s.heap.get? c=some o->h'.get? c=some o)->Q (.ref (s.heap.objs.size+4)) { s with heap:=h' }) :
    wpAny (model prog w) A (call (.type "zip") [.ref l,.ref l']) Q E s:=by
 refine callType_new F.called_zip (by decide) (F.typeCall_zip_2 _ _) (F.newCall_zip_2 _ _) (fun obj=>F.args_object_init_3 obj _ _) F.entry_zip_new (vQ l l' xs ys) ⟨⟨hl,hl'⟩,?_⟩;have y1:(zh1 s.heap l).objs.size=s.heap.objs.size+1:=Heap.size_push ..;have y2:(yh2 s.heap l l').objs.size=s.heap.objs.size+2:=by rw[Heap.size_push,y1]
 have y3:(yh3 s.heap l l').objs.size=s.heap.objs.size+3:=by rw[Heap.size_push,y2]
 have y4:(yh4 s.heap l l').objs.size=s.heap.objs.size+4:=by rw[Heap.size_push,y3]
 have u5:(yh5 s.heap l l').get? (yh4 s.heap l l').objs.size=some _:=Heap.get?_push_size _ rfl;have u4:(yh5 s.heap l l').get? (yh3 s.heap l l').objs.size=some _:=Heap.get?_push_of_some _ (Heap.get?_push_size _ rfl);have u3:(yh5 s.heap l l').get? (yh2 s.heap l l').objs.size=some _:=Heap.get?_push_of_some _ (Heap.get?_push_of_some _ (Heap.get?_push_size _ rfl))
 have u2:(yh5 s.heap l l').get? (zh1 s.heap l).objs.size=some _:=Heap.get?_push_of_some _ (Heap.get?_push_of_some _ (Heap.get?_push_of_some _ (Heap.get?_push_size _ rfl)));have u1:(yh5 s.heap l l').get? s.heap.objs.size=some _:=Heap.get?_push_of_some _ (Heap.get?_push_of_some _ (Heap.get?_push_of_some _ (Heap.get?_push_of_some _ (Heap.get?_push_size _ rfl))));rw[y2,y3,y4] at u5;rw[y1,y2] at u3
 rw[y3] at u4;rw[y1] at u2;show _/\_;rw[y4];exact ⟨⟨_,u5,rfl⟩,h _ u5 u3 u4 ⟨_,u1,rfl,rfl⟩ ⟨_,u2,rfl,rfl⟩ fun c o q=>Heap.get?_push_of_some _ (Heap.get?_push_of_some _ (Heap.get?_push_of_some _ (Heap.get?_push_of_some _ (Heap.get?_push_of_some _ q))))⟩
def Ity(K:PySem.W.Frag)(a b:Addr):It:=
 ⟨fun i H=>∃ xs ys v u,SqL K H a xs/\SqL K H b ys/\xs[i]?=some v/\ys[i]?=some u,
  fun i H y H'=>∃ p v u,H p=none/\H'=upd H p (.tup [v,u])/\y=.ref p/\(∀ xs,SqL K H a xs->xs[i]?=some v)/\(∀ ys,SqL K H b ys->ys[i]?=some u),
  fun i H=>∃ xs ys,SqL K H a xs/\SqL K H b ys/\i=min xs.length ys.length⟩
def tny(zp tI tO j1 j2 a b:Addr)(i:Nat)(h:Heap):Prop:=
 IsZip h zp tI tO .none/\IsPair h tI (.ref j1) (.ref j2)/\(∃ u v,IsPair h tO u v)/\h.IsListIter j1 a i/\h.IsListIter j2 b i
theorem El{zp tI tO j1 j2 a b:Addr}{i:Nat}{h:Heap}{u v:Value}(h1:IsZip h zp tI tO .none)(h2:IsPair h tI (.ref j1) (.ref j2))(h3:IsPair h tO u v)(h4:h.IsListIter j1 a i)(h5:h.IsListIter j2 b i) :
    ∀ b∈[zp,tI,tO,j1,j2],∃ o,h.get? b=some o/\o.cls≠.type "list" := fun b hb=>by
 obtain ⟨o4,e4,c4,_⟩:=h4;obtain ⟨o5,e5,c5,_⟩:=h5;simp only[List.mem_cons,List.not_mem_nil,or_false] at hb;rcases hb with rfl | rfl | rfl | rfl | rfl
 ·exact ⟨_,h1,(show Value.type "zip" ≠ Value.type "list" by decide)⟩
 ·exact ⟨_,h2,(show Value.type "tuple" ≠ Value.type "list" by decide)⟩
 ·exact ⟨_,h3,(show Value.type "tuple" ≠ Value.type "list" by decide)⟩
 ·exact ⟨_,e4,by rw[c4];decide⟩
 ·exact ⟨_,e5,by rw[c5];decide⟩
theorem vT{zp tI tO j1 j2 a b:Addr}{i:Nat}{h:Heap}{u v:Value}{its its':Array Value}(nd:[zp,tI,tO,j1,j2].Nodup)(hl:h.IsList a its)(hl':h.IsList b its')(h1:IsZip h zp tI tO .none)(h3:IsPair h tO u v)(h4:h.IsListIter j1 a i)(h5:h.IsListIter j2 b i) :
    ZAp zp tI tO j1 j2 [j1,a] [j2,b]/\a≠j1/\b≠j2:=by
 obtain ⟨o4,e4,c4,_⟩:=h4;obtain ⟨o5,e5,c5,_⟩:=h5;have key:∀ {c:Addr} {is:Array Value},h.IsList c is->c≠zp/\c≠tO/\c≠j1/\c≠j2:=fun {c is} hc=>by
  obtain ⟨oa,ea,ca,_⟩:=hc;refine ⟨fun z=>?_,fun z=>?_,fun z=>?_,fun z=>?_⟩
  ·rw[z,h1] at ea;cases ea;exact (show Value.type "zip" ≠ Value.type "list" by decide) ca
  ·rw[z,h3] at ea;cases ea;exact (show Value.type "tuple" ≠ Value.type "list" by decide) ca
  ·rw[z,e4] at ea;cases ea;rw[c4] at ca;exact absurd ca (by decide)
  ·rw[z,e5] at ea;cases ea;rw[c5] at ca;exact absurd ca (by decide)
 obtain ⟨n1,n2,n3,n4⟩:=key hl;obtain ⟨k1,k2,k3,k4⟩:=key hl';simp only[List.nodup_cons,List.mem_cons,List.not_mem_nil,or_false,not_or,not_false_eq_true,List.nodup_nil,and_true] at nd;obtain ⟨⟨d1,d2,d3,d4⟩,⟨d5,d6,d7⟩,⟨d8,d9⟩,d10⟩:=nd;refine ⟨⟨Ne.symm d2,Ne.symm d3,Ne.symm d4,d8,d9,d10,fun b hb=>?_,fun b hb=>?_,Ne.symm d1,d5,d6,d7⟩,n3,k4⟩
 ·simp only[List.mem_cons,List.not_mem_nil,or_false] at hb
  rcases hb with rfl | rfl
  ·exact ⟨Ne.symm d3,Ne.symm d8,d10⟩
  ·exact ⟨n1,n2,n4⟩
 ·simp only[List.mem_cons,List.not_mem_nil,or_false] at hb
  rcases hb with rfl | rfl
  ·exact ⟨Ne.symm d4,Ne.symm d9,Ne.symm d10⟩
  ·exact ⟨k1,k2,k3⟩
theorem vU{P:Program}{w:World}{K:PySem.W.Frag}{elts:List Expr}{x1}{pos:Pos}{a b zp tI tO j1 j2:Addr}(nd:[zp,tI,tO,j1,j2].Nodup):Turn P w K (.Tuple elts x1 pos) (Ity K a b) [zp,tI,tO,j1,j2] zp (tny zp tI tO j1 j2 a b) where
 mem:=List.mem_cons_self
 obj:=fun i h st b hb=>by
  obtain ⟨h1,h2,⟨u,v,h3⟩,⟨o4,h4,_,d4⟩,⟨o5,h5,_,d5⟩⟩:=st;simp only[List.mem_cons,List.not_mem_nil,or_false] at hb;rcases hb with rfl | rfl | rfl | rfl | rfl
  ·exact ⟨_,h1,fun v z=>nomatch z⟩
  ·exact ⟨_,h2,fun v z=>nomatch z⟩
  ·exact ⟨_,h3,fun v z=>nomatch z⟩
  ·exact ⟨_,h4,fun v z=>by rw[d4] at z;cases z⟩
  ·exact ⟨_,h5,fun v z=>by rw[d5] at z;cases z⟩
 keep:=fun i h h' st k=>by
  obtain ⟨h1,h2,⟨u,v,h3⟩,⟨o4,h4,r4⟩,⟨o5,h5,r5⟩⟩:=st;exact ⟨k zp (by simp) _ h1,k tI (by simp) _ h2,⟨u,v,k tO (by simp) _ h3⟩,⟨o4,k j1 (by simp) _ h4,r4⟩,⟨o5,k j2 (by simp) _ h5,r5⟩⟩
 item:=by
  intro X e1 e2 e3 hc i pins s σ H E I hf st hg;subst e1 e2 e3;obtain ⟨xs,ys,v,v',hq,hq',hv,hv'⟩:=hg;obtain ⟨h1,h2,⟨u0,v0,h3⟩,h4,h5⟩:=st;obtain ⟨its,rv,pl,hz⟩:=I.list hq;obtain ⟨its',rv',pl',hz'⟩:=I.list hq';obtain ⟨u,hu,ru⟩:=rv.get hv;obtain ⟨u',hu',ru'⟩:=rv'.get hv';have ap:=vT nd pl.isList pl'.isList h1 h3 h4 h5;have l1:i<its.toArray.size:=by
   rw[List.size_toArray];exact (List.getElem?_eq_some_iff.mp hu).1
  have l2:i<its'.toArray.size:=by
   rw[List.size_toArray];exact (List.getElem?_eq_some_iff.mp hu').1
  refine vN (I.ok.hd hc) (fun A' hh=>Draws.list hh j1 a ap.2.1 its.toArray) (fun A' hh=>Draws.list hh j2 b ap.2.2 its'.toArray) ap.1 h1 h2 h3 ⟨h4,pl.isList⟩ ⟨h5,pl'.isList⟩ l1 l2 fun vx vy g tk p1 p2 hz' ho' hs1 hs2 pr kp=>⟨_,rfl,?_⟩
  have hvx:vx=u:=by
   have p1:its.toArray[i]?=some vx:=p1;rw[List.getElem?_toArray,hu] at p1;exact (Option.some.inj p1).symm
  have hvy:vy=u':=by
   have p2:its'.toArray[i]?=some vy:=p2;rw[List.getElem?_toArray,hu'] at p2;exact (Option.some.inj p2).symm
  subst hvx;subst hvy;refine wpAny_letOwnedTupleGo_zip (s:={ s with heap:=g,toks:=tk }) hz' fun g2 hz2 sb=>?_;have lt:∀ {b o},s.heap.get? b=some o->b≠s.heap.objs.size:=fun e=>Nat.ne_of_lt (Heap.lt_size e);have kp2:∀ b o,b∉[zp,tO,j1,j2]->s.heap.get? b=some o->g2.get? b=some o:=fun b o hb e=>by
   simp only[List.mem_cons,List.not_mem_nil,or_false,not_or] at hb;exact sb.extBut _ _ hb.1 (kp b o hb.1 hb.2.1 hb.2.2.1 hb.2.2.2 e)
  have sub:∀ b∈[zp,tO,j1,j2],b∈[zp,tI,tO,j1,j2]:=fun b hb=>by
   simp only[List.mem_cons,List.not_mem_nil,or_false] at hb ⊢;rcases hb with h | h | h | h<;>simp[h]
  have prT:IsPair g2 s.heap.objs.size vx vy:=sb.extBut _ _ (Ne.symm (lt h1)) pr;have J:Inv X pins σ (upd H s.heap.objs.size (.tup [v,v'])) { s with heap:=g2,toks:=tk }:=Inv.turnLay (us:=[v,v']) I kp2 (fun b hb=>hf b (sub b hb)) (Nat.le_refl _) ⟨show 2<=sizeLine by decide,[vx,vy],.cons ru (.cons ru' .nil),⟨_,prT,rfl,_,rfl⟩⟩;refine ⟨.ref s.heap.objs.size,upd H s.heap.objs.size (.tup [v,v']),J,rfl,
   ⟨_,v,v',I.hok.fresh (Nat.le_refl _),rfl,rfl,fun ys hy=>by rw[I.list_inj hy hq];exact hv,fun ys hy=>by rw[I.list_inj hy hq'];exact hv'⟩,⟨hz2,kp2 tI _ ?_ h2,⟨_,_,sb.extBut _ _ ap.1.a1 ho'⟩,hs1.1.extBut sb.extBut ap.1.a2,hs2.1.extBut sb.extBut ap.1.a3⟩,fun b hb=>?_⟩
  ·simp only[List.mem_cons,List.not_mem_nil,or_false,not_or]
   exact ⟨ap.1.c1,ap.1.c2,ap.1.c3,ap.1.c4⟩
  ·obtain ⟨o,ho,_⟩:=El h1 h2 h3 h4 h5 b hb
   rw[aR (lt ho)];exact (hf b hb).1
 done:=by
  intro X e1 e2 e3 hc i pins s σ H E I hf st hg;subst e1 e2 e3;obtain ⟨xs,ys,hq,hq',hi⟩:=hg;obtain ⟨h1,h2,⟨u0,v0,h3⟩,h4,h5⟩:=st;obtain ⟨its,rv,pl,hz⟩:=I.list hq;obtain ⟨its',rv',pl',hz'⟩:=I.list hq';have hlen:=rv.length;have hlen':=rv'.length;have ap:=vT nd pl.isList pl'.isList h1 h3 h4 h5;have sub:∀ b∈[zp,tO,j1,j2],b∈[zp,tI,tO,j1,j2]:=fun b hb=>by
   simp only[List.mem_cons,List.not_mem_nil,or_false] at hb ⊢;rcases hb with h | h | h | h<;>simp[h]
  refine vO (I.ok.hd hc) (fun A' hh=>Draws.list hh j1 a ap.2.1 its.toArray) (fun A' hh=>Draws.list hh j2 b ap.2.2 its'.toArray) ap.1 h1 h2 h3 ⟨h4,pl.isList⟩ ⟨h5,pl'.isList⟩ ?_ fun g tk kp=>⟨rfl,Inv.turnL I (fun b o hb e=>?_) fun b hb=>hf b (sub b hb)⟩
  ·rw[List.size_toArray,<- hlen,List.size_toArray,<- hlen',hi]
   omega
  ·simp only[List.mem_cons,List.not_mem_nil,or_false,not_or] at hb
   exact kp b o hb.1 hb.2.1 hb.2.2.1 hb.2.2.2 e
 self:=fun _ _ _ _ _ st h=>wpAny_pyIter_zip st.1 h
section
variable {X:Cx}{Ex:Value->Prop}{H0:Hp}{a b:Expr}{elts:List Expr}{x1:Nat}{p pos pos':Pos}{ta:TA}{fa:ae->Res (List D)}
def Dv(K:PySem.W.Frag)(ta:TA):TI:=fun σ H R=>ta σ H fun vs H1=>∃ l l',vs=[.ref l,.ref l']/\(∃ xs,SqL K H1 l xs)/\(∃ xs,SqL K H1 l' xs)/\R (Ity K l l') H1
theorem zO(hg:Gl X "zip")(hm:X.mg "zip" = none)(ha:PA X [a,b] ta)(h1:starEach [a,b] X.env=(false,eval a X.env)::starEach [b] X.env)(h2:(backTo pos' (starEach [b] X.env)).any (·.1)=false) :
    PI X (.Tuple elts x1 pos) (.Call (.Name "zip" p) [a,b] [] pos') (Dv X.K ta):=by
 intro pins s σ H R I h;have hv:bootBuiltins "zip" = some (.type "zip"):=by decide +kernel
 refine wpAny_Call_Name_kw (gU I hg hm hv ?_ (by decide) (by decide));refine PyProof.Rows.callWith_type1 (thn (ha pos' pins s σ H _ I h) fun us s1 ⟨vs,H1,I1,r1,q1⟩=>?_) h1 h2;obtain ⟨l,l',rfl,⟨xs,hq⟩,⟨ys,hq'⟩,q⟩:=q1
 cases r1 with
 |cons ra r2=>
  cases r2 with
  |cons rb r3=>
   cases r3
   cases ra
   cases rb
   obtain ⟨its,rv,pl,_⟩:=I1.list hq;obtain ⟨its',rv',pl',_⟩:=I1.list hq';refine vR pl.isList pl'.isList fun g z1 z2 z3 z4 z5 kp=>wpAny_pyIter_zip z1 ?_;refine ⟨s1.heap.objs.size+4,[s1.heap.objs.size+4,s1.heap.objs.size+2,s1.heap.objs.size+3,s1.heap.objs.size,s1.heap.objs.size+1],_,_,H1,rfl,I1.kept (t':=s1.toks) kp,vU ?_,⟨z1,z2,⟨_,_,z3⟩,z4,z5⟩,fun c hc=>?_,q⟩
   ·simp
   ·have:s1.heap.objs.size<=c:=by
       simp only[List.mem_cons,List.not_mem_nil,or_false] at hc;rcases hc with rfl | rfl | rfl | rfl | rfl<;>first | exact Nat.le_refl _ | exact Nat.le_add_right _ _
    exact I1.fpOk this (I1.hok.fresh this)
theorem BY{K:PySem.W.Frag}{B:Hp}{l l':Addr}{us us':List V}{ds ds':List D}(h:B l=some (.lst us))(R:Reps B us ds)(h':B l'=some (.lst us'))(R':Reps B us' ds'):gD (Ity K l l') B (fG ds ds'):=by
 intro H s i;have hl:=R.length;have hl':=R'.length;refine ⟨fun d hd=>?_,fun hi=>⟨us,us',SqL.of (s _ _ h),SqL.of (s _ _ h'),?_⟩⟩
 ·simp only[fG,List.getElem?_map] at hd
  cases e:(ds.zip ds')[i]? with
  |none=>rw[e] at hd;cases hd
  |some q=>
   rw[e] at hd
   cases hd
   obtain ⟨q1,q2⟩:=List.getElem?_zip_eq_some.mp e;obtain ⟨u,hu,ru⟩:=R.get q1;obtain ⟨u',hu',ru'⟩:=R'.get q2;refine ⟨⟨us,us',u,u',SqL.of (s _ _ h),SqL.of (s _ _ h'),hu,hu'⟩,fun y H' ⟨z,v,c',z1,z2,z3,z4,z5⟩=>⟨rfl,.inr ⟨z,_,_,z1,z2,z3,rfl,?_⟩⟩⟩;have:=z4 us (SqL.of (s _ _ h));rw[hu] at this
   cases this
   have:=z5 us' (SqL.of (s _ _ h'));rw[hu'] at this
   cases this
   exact .cons ru (.cons ru' .nil)
 ·rw[hi,fG,List.length_map,List.length_zip,<- hl,<- hl']
theorem sA(hg:Gl X "zip")(hm:X.mg "zip" = none)(ha:FA X H0 Ex [a,b] fa)(h1:starEach [a,b] X.env=(false,eval a X.env)::starEach [b] X.env:=by rfl)(h2:(backTo pos' (starEach [b] X.env)).any (·.1)=false:=by rfl) :
    FI X H0 Ex (.Tuple elts x1 pos) (.Call (.Name "zip" p) [a,b] [] pos') (hV fa):=by
 refine ⟨PI.pre (zO hg hm ha.go h1 h2) ?_⟩;rintro σ H R ⟨Hs,ρ,ts,S,pp⟩;refine ⟨Hs,ρ,ts,S,(Post.bind pp).imp fun es _ p1 us H1 hl S1=>?_⟩;split at p1
 ·rename_i d d' _
  split at p1
  ·exact p1.elim
  ·rename_i hc
   have tb:d.tag≠.b:=fun z=>hc (.inl z);have il:d.isL=true:=by cases q:d.isL with | true=>rfl | false=>exact absurd (.inr (.inl q)) hc
   have tb':d'.tag≠.b:=fun z=>hc (.inr (.inr (.inl z)));have il':d'.isL=true:=by cases q:d'.isL with | true=>rfl | false=>exact absurd (.inr (.inr (.inr q))) hc
   obtain ⟨u,v,rfl⟩:=mG hl rfl;have S2:SR Hs H0 H1 (some v::some u::(tvs ts++σ)) (some d'::some d::(tds ts++ρ)):=SX.held hl S1;split at p1
   ·rename_i ys zs e e'
    obtain ⟨Hf,fp,O,F⟩:=S2;obtain ⟨l',vs',rfl,Hg,fq,O',F',_,hl',R'⟩:=O.itemsC F e' tb';obtain ⟨l,vs,rfl,Hg2,fq2,O2,F2,sm,hl2,R2⟩:=O'.itemsC F' e tb;rw[il'] at hl';rw[il] at hl2;exact ⟨l,l',rfl,⟨vs,SqL.of (F2.fh _ _ hl2)⟩,⟨vs',SqL.of (F2.fh _ _ (sm _ _ hl'))⟩,p1 _ H1 Hg2 fq2 (BY hl2 R2 (sm _ _ hl') (R'.mono sm)) O2 F2⟩
   ·exact p1.elim
 ·exact p1.elim
end
section
variable {prog:Program}{w:World}{A:Around}{E:Value->Shared->Prop}{s:Shared}{a₀:Array Keyed}{κ:KeyKind}
theorem vV{st:SortSt}{n:Nat}{Q:Option Nat->SortSt->Prop}(hO:κ.OneLt)(h0:KeysOf κ a₀)(hn:n<=a₀.size)(h1:1<=n)(hB:SBase a₀ st)(hs:SortedToK κ (arrOf st) n)(h:Q (some n) st) :
    wpS (model prog w) A E s (countRun' 0 n) Q st:=by
 rw[countRun0_eq];refine wpS_bind (wpS_ascLoopK hO h0 hn (Nat.le_refl 1) h1 hB (fun i j hij hj=>hs i j hij (by omega)) fun k hk1 hk2 _ hor=>?_);have hk:k=n:=by
  rcases hor with e | hlt
  ·exact e
  ·by_cases hkn:k=n
   ·exact hkn
   ·have a1:=hs (k - 1) k (by omega) (by omega)
    exact absurd hlt (by
     have a1:κ.blt (KK κ (arrOf st) k) (KK κ (arrOf st) (k - 1))=false:=a1
     intro hlt
     have hlt:κ.blt (KK κ (arrOf st) k) (KK κ (arrOf st) (k - 1))=true:=hlt
     rw[a1] at hlt;cases hlt)
 subst hk;dsimp only;rw[if_pos (by simp)];exact wpS_pure h
theorem sC:∀ (f n r:Nat),r<=1->minRun' f n r<=n+r
 | 0,n,r,_=>Nat.le_refl _
 |f+1,n,r,hr=>by
  rw[minRun'_succ];split
  ·exact Nat.le_refl _
  ·have:=sC f (n / 2) (max r (n % 2)) (by omega)
   omega
theorem vW{st:SortSt}{Q:Unit->SortSt->Prop}(hO:κ.OneLt)(h0:KeysOf κ a₀)(hB:SBase a₀ st)(h2:2<=a₀.size)(hA:arrOf st=a₀)(hs:SortedToK κ a₀ a₀.size)
    (h:∀ st',arrOf st'=a₀->failedOf st'=none->Q () st'):wpS (model prog w) A E s sortRuns' Q st:=by
 rw[sortRuns'_eq];refine wpS_bind (wpS_get ?_);dsimp only;have hmr:minRun' a₀.size a₀.size 0<=a₀.size:=sC _ _ _ (by omega);simp only[hB.size];refine wpS_bind (wpS_mono (wpS_forRange
  (I:=fun x c st'=>(x=0/\c=(none,0)/\st'=st)\/(1<=x/\c=(none,a₀.size)/\arrOf st'=a₀/\failedOf st'=none/\pendingOf st'=#[(0,a₀.size,0)]))
  (Q:=fun c st'=>c=(none,a₀.size)/\arrOf st'=a₀/\failedOf st'=none/\pendingOf st'=#[(0,a₀.size,0)]) ?step ?fin (.inl ⟨rfl,rfl,rfl⟩)) ?post)
 case fin=>
  rintro c st' (⟨hx,_,_⟩ | ⟨_,hc,hD⟩)
  ·omega
  ·exact ⟨hc,hD⟩
 case step=>
  rintro x c st' _ hx (⟨rfl,rfl,rfl⟩ | ⟨hx1,rfl,hD⟩)
  ·dsimp only
   rw[if_neg (by omega)];simp only[Nat.sub_zero,Nat.zero_add];refine wpS_bind (vV hO h0 (Nat.le_refl _) (by omega) hB (by rw[hA];exact hs) ?_);dsimp only;rw[if_neg (by omega)];refine wpS_bind (wpS_get ?_);have hb:(pendingOf st').back?=none:=by rw[hB.pend];rfl
   rw[hb];dsimp only;exact wpS_bind (wpS_modify (wpS_pure (.inr ⟨by omega,rfl,hA,hB.failed,by show (pendingOf st').push _=_;rw[hB.pend];rfl⟩)))
  ·dsimp only
   rw[if_pos (Nat.le_refl _)];exact wpS_pure ⟨rfl,hD⟩
 case post=>
  rintro c st' ⟨rfl,hD⟩;dsimp only;refine wpS_bind (wpS_mono (wpS_forRange (I:=fun _ c st''=>st''=st'/\c=(none,())) (Q:=fun c st''=>st''=st'/\c=(none,())) ?_ (fun _ _ hh=>hh) ⟨rfl,rfl⟩) ?_)
  ·rintro x c st'' _ _ ⟨rfl,rfl⟩
   refine wpS_bind (wpS_get ?_);rw[if_pos (by rw[hD.2.2];exact Nat.le_refl 1)];exact wpS_pure ⟨rfl,rfl⟩
  ·rintro c st'' ⟨rfl,rfl⟩
   exact wpS_pure (h _ hD.1 hD.2.1)
theorem vX(hO:κ.OneLt){a:Addr}{vs:List Value}{n:Nat}{P:Fin->Shared->Prop}(ho:s.heap.get? a=some (seqObj "list" vs.toArray n))
    (h0:KeysOf κ (pairsOf vs)) (hkk:∀ v₁ v₂ rest,vs=v₁::v₂::rest->keyKind' (v₁::v₂::rest).toArray=pure oneType') (hz:vs.length<=sizeLine) (hs:SortedToK κ (pairsOf vs) (pairsOf vs).size)
    (h:P (.done (.ret .none)) { s with heap:=sortedHeap s.heap a vs ((pairsOf vs).map (·.2)) }) :
    wpAny (model prog w) A (Builtin.«list.sort» ⟨[.ref a],[]⟩) P E s:=by
 rw[list_sort_plain];have ha:a<s.heap.objs.size:=Heap.lt_size ho;refine wpAny_bind (listItems_at ho rfl (wpAny_bind (listUpdate_at ho rfl ?_)));obtain ⟨e1,ho1⟩:∃ e1,(s.heap.update a (Obj.mapSeq fun _=>#[])).get? a=some (seqObj "list" #[] e1):=⟨_,get?_update_seq ho (fun _=>#[])⟩
 refine wpAny_bind (seqEpoch_at ho1 rfl (wpAny_bind (wpAny_newTuple (wpAny_bind (wpAny_newList (wpAny_holding ?_))))));have ho6:(((s.heap.update a (Obj.mapSeq fun _=>#[])).push (seqObj "tuple" vs.toArray 0)).push (seqObj "list" #[] 0)).get? a=some (seqObj "list" #[] e1):=by
  rw[Heap.get?_push_ne _ _ _ (by rw[size_push',Heap.size_update];exact Nat.ne_of_lt (Nat.lt_succ_of_lt ha)),Heap.get?_push_ne _ _ _ (by rw[Heap.size_update];exact Nat.ne_of_lt ha)];exact ho1
 show wpAny (model prog w) A _ P E { s with heap:=((s.heap.update a (Obj.mapSeq fun _=>#[])).push (seqObj "tuple" vs.toArray 0)).push (seqObj "list" #[] 0) };dsimp only;have hsz:vs.toArray.size=vs.length:=by simp
 by_cases h2:vs.toArray.size<2
 ·rw[if_pos h2,if_pos h2]
  refine wpAny_bind (wpAny_pure ?_);rw[StateT.run_pure];refine wpAny_bind (wpAny_pure ?_);dsimp only;refine wpAny_bind (seqEpoch_at ho6 rfl (wpAny_bind (listUpdate_at ho6 rfl ?_ (hsz2:=by rw[Array.size_map];show (pairsOf vs).size<=_;rw[pairsOf_size];exact Nat.le_succ_of_le hz))));simp only[bne_self_eq_false,Bool.false_eq_true,if_false];exact wpAny_pure h
 ·rw[if_neg h2,if_neg h2]
  obtain ⟨v₁,v₂,rest,rfl⟩:∃ v₁ v₂ rest,vs=v₁::v₂::rest:=by
   cases vs with
   |nil=>simp at h2
   |cons v₁ r=>cases r with
    |nil=>simp at h2
    |cons v₂ rest=>exact ⟨v₁,v₂,rest,rfl⟩
  rw[hkk _ _ _ rfl];refine wpAny_bind (wpAny_pure ?_);refine wpAny_bind (wpAny_mono (vW (κ:=κ) hO (a₀:=pairsOf (v₁::v₂::rest)) (st:=SortSt.mk' oneType' ((v₁::v₂::rest).toArray.zip (v₁::v₂::rest).toArray) #[] 7 none)
   (Q:=fun _ st'=>arrOf st'=pairsOf (v₁::v₂::rest)/\failedOf st'=none) h0 ⟨Array.Perm.refl _,rfl,rfl,rfl⟩ (by rw[pairsOf_size];simp) rfl hs fun st' a1 a2=>⟨a1,a2⟩) ?_ fun _ _ e=>e)
  rintro ⟨⟨⟩,st'⟩ s' ⟨rfl,hp,hf⟩;dsimp only;refine wpAny_bind (seqEpoch_at ho6 rfl (wpAny_bind (listUpdate_at ho6 rfl ?_ (hsz2:=by refine Nat.le_trans (Nat.le_of_eq ((Array.size_map ..).trans ((congrArg Array.size hp).trans (pairsOf_size _)))) (Nat.le_succ_of_le hz)))));rw[hf];simp only[bne_self_eq_false,Bool.false_eq_true,if_false];refine wpAny_pure ?_
  have:((arrOf st').map (·.2))=((pairsOf (v₁::v₂::rest)).map (·.2)):=by rw[hp]
  rw[<- this] at h;exact h
theorem zP(hO:κ.OneLt){l:Addr}{vs:List Value}{Q:Value->Shared->Prop}(hl:s.heap.IsList l vs.toArray)(h0:KeysOf κ (pairsOf vs))(hkk:∀ v₁ v₂ rest,vs=v₁::v₂::rest->keyKind' (v₁::v₂::rest).toArray=pure oneType')
    (hz:vs.length<=sizeLine) (hs:SortedToK κ (pairsOf vs) (pairsOf vs).size) (h:Q (.ref (s.heap.objs.size+1)) { s with heap:=sortedAll s.heap vs ((pairsOf vs).map (·.2)) }) :
    wpAny (model prog w) A (call (.builtin "sorted") [.ref l]) Q E s:=by
 refine Calls.call_function_entry kind_sorted plain_sorted entry_sorted (args_sorted1 _) ?_;unfold Builtin.«sorted»;refine wpAny_bind (m:=checkCount "sorted" 1 1 _) (wpAny_pure (wpAny_bind (collect_list hl (wpAny_bind (wpAny_newList ?_)))))
 have hsz:((s.heap.push (seqObj "list" #[] 0)).update s.heap.objs.size (Obj.mapSeq (·++vs.toArray))).objs.size=s.heap.objs.size+1:=by rw[Heap.size_update,size_push']
 have hoL:(((s.heap.push (seqObj "list" #[] 0)).update s.heap.objs.size (Obj.mapSeq (·++vs.toArray))).push (seqObj "list" vs.toArray 0)).get? (s.heap.objs.size+1)=some (seqObj "list" vs.toArray 0):=by rw[<- hsz];exact Heap.get?_push_size _ rfl
 show wpAny _ _ _ _ _ { s with heap:=((s.heap.push (seqObj "list" #[] 0)).update s.heap.objs.size (Obj.mapSeq (·++vs.toArray))).push (seqObj "list" vs.toArray 0) };rw[hsz];refine wpAny_bind (wpAny_holding (wpAny_call_entry slot_list_sort ⟨_,hoL,rfl⟩ entry_list_sort (vX hO hoL h0 hkk hz hs ⟨_,rfl,?_⟩) (args_list_sort _)));exact wpAny_pure ⟨_,rfl,h⟩
end
theorem sD:∀ (l:List Str),jM l=true->l.Pairwise fun a b=>PySem.Spec.ltCps a.cps.toList b.cps.toList=true
 | [],_=>.nil
 | [a],_=>List.pairwise_singleton _ a
 |a::b::r,h=>by
  have h:(PySem.Spec.ltCps a.cps.toList b.cps.toList&&jM (b::r))=true:=h;rw[Bool.and_eq_true] at h;have ih:=sD (b::r) h.2;refine List.pairwise_cons.mpr ⟨fun c hc=>?_,ih⟩;rcases List.mem_cons.mp hc with rfl | hc
  ·exact h.1
  ·have h2:=(List.pairwise_cons.mp ih).1 c hc
   have h1:=h.1;rw[ltCps_eq] at h1 h2 ⊢;exact decide_eq_true (List.lt_trans (of_decide_eq_true h1) (of_decide_eq_true h2))
theorem mH:∀ {us:List Value} {ss:List Str},Vals (ss.map V.str) us->StrsAre us ss
 | [],[],_=>.nil
 | [],_::_,h=>by cases h
 |_::_,[],h=>by cases h
 |u::us,x::ss,h=>by
  cases h with
  |cons r h=>obtain ⟨t,rfl⟩:=r;exact .cons x t (mH h)
theorem ql{H:Hp}(ns:List Str):Reps H (ns.map V.str) (ns.map D.str):=by
 induction ns with
 |nil=>exact .nil
 |cons n ns ih=>exact .cons .str ih
theorem oR{H:Hp}:∀ {us:List V} {ss:List Str},Reps H us (ss.map D.str)->us=ss.map V.str
 |_,[],.nil=>rfl
 |_,_::_,.cons a r=>by cases a;rw[oR r];rfl
theorem lM:∀ {ys:List D} {ss:List Str},fZ ys=some ss->ys=ss.map D.str
 | [],ss,h=>by cases h;rfl
 |d::ys,ss,h=>by
  cases d with
  |str x=>
   have h:(fZ ys).map (x::·)=some ss:=h
   cases e:fZ ys with
   |none=>rw[e] at h;cases h
   |some r=>rw[e] at h;cases h;rw[lM e];rfl
  |_=>cases h
section
variable {X:Cx}
theorem mI:CallR X (.builtin "sorted") (fun xs H Q=>∃ p ss,xs=[.ref p]/\SqL X.K H p (ss.map V.str)/\jM ss=true/\ss.length<=100000/\∀ l,H l=none->Q (.ref l) (upd H l (.lst (ss.map V.str)))):=by
 intro pins s σ H xs us Q I r h;obtain ⟨p,ss,rfl,hq,ho,hz0,q⟩:=h;obtain ⟨u,rfl,rx⟩:=i3 r
 cases rx
 obtain ⟨its,rv,pl,hz⟩:=I.list hq;have hS:StrsAre its ss:=mH rv;have hl:=rv.length;rw[List.length_map] at hl hz;have hsl:its.length<=sizeLine:=by rw[<- hl];exact hz
 have pw:=sD ss ho;have es:=hS.strs;have srt:SortedToK strKind (pairsOf its) (pairsOf its).size:=by
  intro i j hij hj;rw[pairsOf_size] at hj;have key:∀ k (hk:k<its.length),∃ x t,its[k]=.str x t/\ss[k]?=some x/\KK strKind (pairsOf its) k=x.cps.toList:=by
   intro k hk;obtain ⟨x,t,e⟩:=hS.all its[k] (List.getElem_mem hk);refine ⟨x,t,e,?_,?_⟩
   ·rw[<- es,List.getElem?_map,List.getElem?_eq_getElem hk,e];rfl
   ·have hk':k<(pairsOf its).size:=by rw[pairsOf_size];exact hk
    refine KK_str hk' (x:=x) (t:=t) (q:=.str x t) ?_;have:(pairsOf its).toList=its.zip its:=pairsOf_toList its;have h2:(pairsOf its).toList[k]?=some (its[k],its[k]):=by rw[this];exact List.getElem?_zip_eq_some.mpr ⟨(List.getElem?_eq_getElem hk:its[k]?=some (its[k],its[k]).1),(List.getElem?_eq_getElem hk:its[k]?=some (its[k],its[k]).2)⟩
    have h3:(pairsOf its)[k]?=some (its[k],its[k]):=by rw[<- Array.getElem?_toList];exact h2
    rw[Array.getElem?_eq_getElem hk'] at h3;rw[Option.some.inj h3,e]
  obtain ⟨x,t,ex,sx,kx⟩:=key i (by omega);obtain ⟨y,u,ey,sy,ky⟩:=key j hj;rw[kx,ky];show decide (y.cps.toList<x.cps.toList)=false;by_cases e:i=j
  ·subst e
   rw[sx] at sy
   cases sy
   exact decide_eq_false (List.lt_irrefl _)
  ·obtain ⟨i1,i2⟩:=List.getElem?_eq_some_iff.mp sx
   obtain ⟨j1,j2⟩:=List.getElem?_eq_some_iff.mp sy;have:=List.pairwise_iff_getElem.mp pw i j i1 j1 (by omega);rw[i2,j2,ltCps_eq] at this;exact decide_eq_false (List.lt_asymm (of_decide_eq_true this))
 refine zP (κ:=strKind) strKind_oneLt pl.isList hS.keysOf (fun v₁ v₂ rest e=>keyKind_strs (by rw[<- e];exact hS)) hsl srt ?_;obtain ⟨e,he⟩:=sortedAll_at s.heap its ((pairsOf its).map (·.2));have hfresh:H (s.heap.objs.size+1)=none:=I.hok.fresh (Nat.le_succ _);have hout:((pairsOf its).map (·.2)).toList=its:=by
  rw[Array.toList_map,pairsOf_toList,List.map_snd_zip (Nat.le_refl _)]
 refine ⟨.ref (s.heap.objs.size+1),_,I.laid (t':=s.toks) (fun b o h=>sortedAll_old h) (Nat.le_succ _) (?_:ObjOk X.prog X.w _ _ _ (.lst (ss.map V.str))),rfl,q _ hfresh⟩;refine ⟨?_,((pairsOf its).map (·.2)).toList,e,by rw[hout];exact rv,he⟩;rw[List.length_map];exact hz
theorem qm:∀ es,noX (gG es)=true:=by
 intro es;unfold gG;split
 ·split
  ·split
   ·split<;>rfl
   ·rfl
  ·rfl
 ·rfl
theorem uh:FCall X (.builtin "sorted") gG:=by
 refine ⟨CallR.pre mI ?_⟩;rintro us H Q ⟨Hs,H0,vs,ds,es,d,hl,S,e,k⟩;unfold gG at e;split at e
 ·rename_i d1
  split at e
  ·rename_i ys hy
   split at e
   ·rename_i ss hn
    split at e
    ·rename_i hc
     cases e
     obtain ⟨u,rfl⟩:=eA hl rfl;have S':SR Hs H0 H (some u::vs) (some d1::ds):=S;obtain ⟨a,us,rfl,ha,Hf,fp,O,F,R⟩:=S'.items hy;rw[hc.1] at ha;have hys:=lM hn;subst hys;have hus:=oR R;subst hus;exact ⟨a,ss,rfl,SqL.of ha,hc.2.1,hc.2.2,fun l hl=>k _ _ (SR.laidL O F (ql _) (fun e m=>by obtain ⟨i,_,rfl⟩:=List.mem_map.mp m;rfl) hl)⟩
    ·cases e
   ·cases e
  ·cases e
 ·cases e
end
section
variable {X:Cx}{pins:List (Addr × Obj)}{σ:St}{H:Hp}{s:Shared}
theorem Dw(I:Inv X pins σ H s)(n:Nat){a a':Addr}{d d':D}{b:Bool}(hu:X.A.units+(n+1)<cLine)(r1:Rep H (.ref a) d)(r2:Rep H (.ref a') d')(h:aU (n+1) d d'=some b):SeqAt.RcNeAt X.A s (.ref a) (.ref a') (!b):=by
 have items:∀ {us us':List V} {its its':List Value} {xs ys:List D} {b:Bool},Reps H us xs->Reps H us' ys->Vals us its->Vals us' its'->xs.length=ys.length->eN ((xs.zip ys).map fun p=>aU n p.1 p.2)=some b →
     ∃ e:Nat->Bool,(∀ j (h1:j<its.toArray.size) (h2:j<its'.toArray.size),SeqAt.EqAt X.A.in1 s its.toArray[j] its'.toArray[j] (e j))/\b=(List.range its.toArray.size).all e:=by
  intro us us' its its' xs ys b q1 q2 w1 w2 hl h;obtain ⟨e,he,hb⟩:=jL h;have l1:((xs.zip ys).map fun p=>aU n p.1 p.2).length=its.length:=by rw[List.length_map,List.length_zip,<- w1.length,q1.length];omega
  refine ⟨e,fun j h1 h2=>?_,by rw[hb,l1];rfl⟩;have j1:j<its.length:=by simpa using h1
  have j2:j<its'.length:=by simpa using h2
  have:=he j (by rw[l1];exact j1);rw[List.getElem?_map] at this
  cases ez:(xs.zip ys)[j]? with
  |none=>rw[ez] at this;cases this
  |some p=>
   rw[ez] at this;have hd:aU n p.1 p.2=some (e j):=Option.some.inj this;obtain ⟨hx,hy⟩:=List.getElem?_zip_eq_some.mp ez;obtain ⟨v1,hv1,rp1⟩:=q1.get hx;obtain ⟨v2,hv2,rp2⟩:=q2.get hy;obtain ⟨u1,hu1,rl1⟩:=w1.get hv1;obtain ⟨u2,hu2,rl2⟩:=w2.get hv2;have g1:its.toArray[j]=u1:=by rw[List.getElem?_eq_getElem j1] at hu1;simpa using Option.some.inj hu1
   have g2:its'.toArray[j]=u2:=by rw[List.getElem?_eq_getElem j2] at hu2;simpa using Option.some.inj hu2
   rw[g1,g2];exact (ug I n X.A.in1 (show X.A.units+1+n<cLine by omega) rp1 rp2 rl1 rl2 hd).1
 cases d with
 |lst t xs=>
  cases d' with
  |lst t' ys=>
   cases r1 with
   |lst h1 q1=>
    cases r2 with
    |lst h2 q2=>
     obtain ⟨its,w1,p1,_⟩:=I.list (SqL.of h1);obtain ⟨its',w2,p2,_⟩:=I.list (SqL.of h2);unfold aU at h;by_cases hl:xs.length=ys.length
     ·rw[if_pos hl] at h
      obtain ⟨e,he,hb⟩:=items q1 q2 w1 w2 hl h;rw[hb];exact SeqAt.RcNeAt.lists p1.isList p2.isList (by simp[<- w1.length,<- w2.length,q1.length,q2.length,hl]) (by omega) he
     ·rw[if_neg hl] at h
      cases h
      exact SeqAt.RcNeAt.lists_lengths p1.isList p2.isList (by simp[<- w1.length,<- w2.length,q1.length,q2.length];exact hl) (by omega)
  |_=>simp[aU] at h
 |tup xs=>
  cases d' with
  |tup ys=>
   cases r1 with
   |tup h1 q1=>
    cases r2 with
    |tup h2 q2=>
     obtain ⟨its,w1,p1,_⟩:=I.tuple (SqT.of h1);obtain ⟨its',w2,p2,_⟩:=I.tuple (SqT.of h2);unfold aU at h;by_cases hl:xs.length=ys.length
     ·rw[if_pos hl] at h
      obtain ⟨e,he,hb⟩:=items q1 q2 w1 w2 hl h;have lz:its.toArray.size=its'.toArray.size:=by simp[<- w1.length,<- w2.length,q1.length,q2.length,hl]
      have:=SeqAt.RcNeAt.tuples (s:=s) (A:=X.A) (show s.heap.IsTuple _ its.toArray from p1) (show s.heap.IsTuple _ its'.toArray from p2) (by omega) he;rw[<- lz,Nat.min_self,beq_self_eq_true,Bool.and_true] at this;rw[hb];exact this
     ·rw[if_neg hl] at h;cases h
  |_=>simp[aU] at h
 |int i=>cases r1
 |str i=>cases r1
 |_=>cases r2<;>simp[aU] at h
end
section
variable {X:Cx}
theorem BZ(hu:X.A.units+4<cLine):OpR X (compareOp .NotEq) (fun x y H Q=>∃ d d' b a a',x=.ref a/\y=.ref a'/\Rep H x d/\Rep H y d'/\aU 4 d d'=some b/\Q (.bl (!b)) H):=by
 intro pins s σ H x y v u Q I rx ry h;obtain ⟨d,d',b,a,a',rfl,rfl,r1,r2,hd,q⟩:=h
 cases rx;cases ry
 exact Dw I 3 hu r1 r2 hd _ _ _ _ ⟨.bl (!b),H,I,rfl,q⟩
theorem zQ:∀ x y,noX (dNe x y)=true:=by
 intro x y;unfold dNe;split
 ·split<;>rfl
 ·exact gE _ _ _
theorem Dx(hu:X.A.units+4<cLine):FOp X (compareOp .NotEq) dNe:=by
 refine ⟨OpR.pre (OpR.or (BZ hu) (kg (X:=X)).go) ?_⟩;rintro x y H Q ⟨Hs,H0,vs,ds,d1,d2,d,S,e,k⟩;unfold dNe at e;split at e
 ·rename_i hs
  split at e
  ·rename_i b hb
   cases e
   obtain ⟨a,rfl⟩:=lr S.drop.head hs.1;obtain ⟨a',rfl⟩:=lr S.head hs.2;exact .inl ⟨d1,d2,b,a,a',rfl,rfl,S.drop.head,S.head,hb,k _ H S.drop.drop.bl⟩
  ·cases e
 ·exact .inr ⟨Hs,H0,vs,ds,d1,d2,d,S,e,k⟩
end
section
variable {X:Cx}{Ex:Value->Prop}{H0:Hp}{e:Expr}{f:ae->Res D}{pos:Pos}
end
def Itn(K:PySem.W.Frag)(a:Addr):It:=
 ⟨fun i H=>∃ xs v,SqL K H a xs/\xs[i]?=some v,
  fun i H y H'=>∃ p v,H p=none/\H'=upd H p (.tup [.int (i:Int),v])/\y=.ref p/\(∀ xs,SqL K H a xs->xs[i]?=some v),
  fun i H=>∃ xs,SqL K H a xs/\i=xs.length⟩
def tnn(e it a:Addr)(i:Nat)(h:Heap):Prop:=(∃ old,IsEnum h e it (i:Int) old)/\h.IsListIter it a i
theorem vY{P:Program}{w:World}{K:PySem.W.Frag}{elts:List Expr}{x1}{pos:Pos}{a e it:Addr}(ne:e≠it):Turn P w K (.Tuple elts x1 pos) (Itn K a) [e,it] e (tnn e it a) where
 mem:=List.mem_cons_self
 obj:=fun i h st b hb=>by
  obtain ⟨⟨old,h1⟩,⟨o4,h4,_,d4⟩⟩:=st;simp only[List.mem_cons,List.not_mem_nil,or_false] at hb;rcases hb with rfl | rfl
  ·exact ⟨_,h1,fun v z=>nomatch z⟩
  ·exact ⟨_,h4,fun v z=>by rw[d4] at z;cases z⟩
 keep:=fun i h h' st k=>by
  obtain ⟨⟨old,h1⟩,⟨o4,h4,r4⟩⟩:=st;exact ⟨⟨old,k e (by simp) _ h1⟩,⟨o4,k it (by simp) _ h4,r4⟩⟩
 item:=by
  intro X e1 e2 e3 hc i pins s σ H E I hf st hg;subst e1 e2 e3;obtain ⟨xs,v,hq,hv⟩:=hg;obtain ⟨⟨old,h1⟩,h4⟩:=st;obtain ⟨its,rv,pl,hz⟩:=I.list hq;obtain ⟨u,hu,ru⟩:=rv.get hv;have na:a≠it/\a≠e:=by
   obtain ⟨oa,ea,ca,_⟩:=pl.isList;obtain ⟨o4,e4,c4,_⟩:=h4;refine ⟨fun z=>?_,fun z=>?_⟩
   ·rw[z,e4] at ea;cases ea;rw[c4] at ca;exact absurd ca (by decide)
   ·rw[z,h1] at ea;cases ea;exact (show Value.type "enumerate" ≠ Value.type "list" by decide) ca
  have l1:i<its.toArray.size:=by
   rw[List.size_toArray];exact (List.getElem?_eq_some_iff.mp hu).1
  have hh:=I.ok.hd hc;refine wpAny_pyNext_enum_itemD (Draws.list (prog:=X.prog) (w:=X.w) (A:=X.A.in1) hh it a na.1 its.toArray) h1 ⟨h4,pl.isList⟩ l1 ne (by simp only[List.mem_cons,List.not_mem_nil,or_false,not_or];exact ⟨ne,Ne.symm na.2⟩) fun vx g tk p1 he' hs1 pr hz' kp=>⟨_,rfl,?_⟩
  have hvx:vx=u:=by
   have p1:its.toArray[i]?=some vx:=p1;rw[List.getElem?_toArray,hu] at p1;exact (Option.some.inj p1).symm
  subst hvx;refine wpAny_letOwnedTupleGo_enum (s:={ s with heap:=g,toks:=tk+1 }) he' fun g2 hz2 sb=>?_;have lt:∀ {b o},s.heap.get? b=some o->b≠s.heap.objs.size:=fun e=>Nat.ne_of_lt (Heap.lt_size e);have kp2:∀ b o,b∉[e,it]->s.heap.get? b=some o->g2.get? b=some o:=fun b o hb q=>by
   simp only[List.mem_cons,List.not_mem_nil,or_false,not_or] at hb;exact sb.extBut _ _ hb.1 (kp b o hb.1 hb.2 q)
  have prT:g2.get? s.heap.objs.size=some { cls:=.type "tuple", data:=.seq #[.int i tk,vx] }:=sb.extBut _ _ (Ne.symm (lt h1)) pr;have J:Inv X pins σ (upd H s.heap.objs.size (.tup [.int (i:Int),v])) { s with heap:=g2,toks:=tk+1 }:=Inv.turnLay (us:=[.int (i:Int),v]) I kp2 (fun b hb=>hf b hb) (Nat.le_refl _) ⟨show 2<=sizeLine by decide,[.int i tk,vx],.cons ⟨tk,rfl⟩ (.cons ru .nil),⟨_,prT,rfl,_,rfl⟩⟩
  refine ⟨.ref s.heap.objs.size,upd H s.heap.objs.size (.tup [.int (i:Int),v]),J,rfl,
   ⟨_,v,I.hok.fresh (Nat.le_refl _),rfl,rfl,fun ys hy=>by rw[I.list_inj hy hq];exact hv⟩,⟨⟨_,by have:=hz2;simpa using this⟩,hs1.1.extBut sb.extBut (Ne.symm ne)⟩,fun b hb=>?_⟩
  simp only[List.mem_cons,List.not_mem_nil,or_false] at hb;have:∃ o,s.heap.get? b=some o:=by
   rcases hb with rfl | rfl
   ·exact ⟨_,h1⟩
   ·obtain ⟨o4,e4,_⟩:=h4;exact ⟨_,e4⟩
  obtain ⟨o,ho⟩:=this;rw[aR (lt ho)];exact (hf b (by simpa using hb)).1
 done:=by
  intro X e1 e2 e3 hc i pins s σ H E I hf st hg;subst e1 e2 e3;obtain ⟨xs,hq,hi⟩:=hg;obtain ⟨⟨old,h1⟩,h4⟩:=st;obtain ⟨its,rv,pl,hz⟩:=I.list hq;have hlen:=rv.length;have na:a≠it:=by
   obtain ⟨oa,ea,ca,_⟩:=pl.isList;obtain ⟨o4,e4,c4,_⟩:=h4;intro z;rw[z,e4] at ea;cases ea;rw[c4] at ca;exact absurd ca (by decide)
  have hsz:i=its.toArray.size:=by rw[List.size_toArray,<- hlen,hi]
  subst hsz;refine wpAny_pyNext_enum_endD (Draws.list (prog:=X.prog) (w:=X.w) (A:=X.A.in1) (I.ok.hd hc) it a na its.toArray) h1 ⟨h4,pl.isList⟩ fun g kp=>⟨rfl,Inv.turnL (tk:=s.toks) (ch:=[e,it]) I (fun b o hb q=>kp b o (fun z=>hb (by simp[z])) q) fun b hb=>hf b hb⟩
 self:=fun _ _ _ _ _ st h=>wpAny_pyIter_enum st.1.choose_spec h
section
variable {X:Cx}{Ex:Value->Prop}{H0:Hp}{a:Expr}{elts:List Expr}{x1:Nat}{p pos pos':Pos}{ta:TA}{fa:ae->Res (List D)}
def Dy(K:PySem.W.Frag)(ta:TA):TI:=fun σ H R=>ta σ H fun vs H1=>∃ l,vs=[.ref l]/\(∃ xs,SqL K H1 l xs)/\R (Itn K l) H1
theorem zR(hg:Gl X "enumerate")(hm:X.mg "enumerate" = none)(ha:PA X [a] ta)(h1:starEach [a] X.env=(false,eval a X.env)::starEach [] X.env)(h2:(backTo pos' (starEach [] X.env)).any (·.1)=false) :
    PI X (.Tuple elts x1 pos) (.Call (.Name "enumerate" p) [a] [] pos') (Dy X.K ta):=by
 intro pins s σ H R I h;have hv:bootBuiltins "enumerate" = some (.type "enumerate"):=by decide +kernel
 refine wpAny_Call_Name_kw (gU I hg hm hv ?_ (by decide) (by decide));refine PyProof.Rows.callWith_type1 (thn (ha pos' pins s σ H _ I h) fun us s1 ⟨vs,H1,I1,r1,q1⟩=>?_) h1 h2;obtain ⟨l,rfl,⟨xs,hq⟩,q⟩:=q1
 cases r1 with
 |cons ra r2=>
  cases r2
  cases ra
  obtain ⟨its,rv,pl,_⟩:=I1.list hq;refine call_enumerate_list pl.isList fun g z1 z2 z3 kp=>wpAny_pyIter_enum z1 ?_;refine ⟨s1.heap.objs.size+1,[s1.heap.objs.size+1,s1.heap.objs.size],_,_,H1,rfl,I1.kept (t':=s1.toks) kp,vY (Nat.succ_ne_self _),⟨⟨_,z1⟩,z2⟩,fun c hc=>?_,q⟩;have:s1.heap.objs.size<=c:=by
   simp only[List.mem_cons,List.not_mem_nil,or_false] at hc;rcases hc with rfl | rfl<;>first | exact Nat.le_refl _ | exact Nat.le_add_right _ _
  exact I1.fpOk this (I1.hok.fresh this)
def i8(ys:List D):List D:=ys.zipIdx.map fun p=>.tup [.int (p.2:Int),p.1]
theorem B0{K:PySem.W.Frag}{B:Hp}{l:Addr}{us:List V}{ds:List D}(h:B l=some (.lst us))(R:Reps B us ds):gD (Itn K l) B (i8 ds):=by
 intro H s i;have hl:=R.length;refine ⟨fun d hd=>?_,fun hi=>⟨us,SqL.of (s _ _ h),?_⟩⟩
 ·simp only[i8,List.getElem?_map,List.getElem?_zipIdx] at hd
  cases e:ds[i]? with
  |none=>rw[e] at hd;cases hd
  |some q=>
   rw[e] at hd;have hd:D.tup [.int ((0+i:Nat):Int),q]=d:=Option.some.inj hd;rw[Nat.zero_add] at hd;subst hd;obtain ⟨u,hu,ru⟩:=R.get e;refine ⟨⟨us,u,SqL.of (s _ _ h),hu⟩,fun y H' ⟨z,v,z1,z2,z3,z4⟩=>⟨rfl,.inr ⟨z,_,_,z1,z2,z3,rfl,?_⟩⟩⟩;have:=z4 us (SqL.of (s _ _ h));rw[hu] at this
   cases this
   exact .cons .int (.cons ru .nil)
 ·rw[hi,i8,List.length_map,List.length_zipIdx,<- hl]
def eT(fa:ae->Res (List D)):ae->Res (List D):=fun ρ=>fa ρ >>= fun es=>match es with
 | [d]=>if d.tag=.b\/d.isL=false then .bad else bT (d.its.map i8)
 |_=>.bad
theorem sE(hg:Gl X "enumerate")(hm:X.mg "enumerate" = none)(ha:FA X H0 Ex [a] fa)(h1:starEach [a] X.env=(false,eval a X.env)::starEach [] X.env:=by rfl)(h2:(backTo pos' (starEach [] X.env)).any (·.1)=false:=by rfl) :
    FI X H0 Ex (.Tuple elts x1 pos) (.Call (.Name "enumerate" p) [a] [] pos') (eT fa):=by
 refine ⟨PI.pre (zR hg hm ha.go h1 h2) ?_⟩;rintro σ H R ⟨Hs,ρ,ts,S,pp⟩;refine ⟨Hs,ρ,ts,S,(Post.bind pp).imp fun es _ p1 us H1 hl S1=>?_⟩;split at p1
 ·rename_i d _
  split at p1
  ·exact p1.elim
  ·rename_i hc
   have tb:d.tag≠.b:=fun z=>hc (.inl z);have il:d.isL=true:=by cases q:d.isL with | true=>rfl | false=>exact absurd (.inr q) hc
   obtain ⟨u,rfl⟩:=eA hl rfl;have S2:SR Hs H0 H1 (some u::(tvs ts++σ)) (some d::(tds ts++ρ)):=SX.held hl S1
   cases e:d.its with
   |none=>rw[e] at p1;exact p1.elim
   |some ys=>
    rw[e] at p1;obtain ⟨Hf,fp,O,F⟩:=S2;obtain ⟨l,vs,rfl,Hg,fq,O',F',_,hl',R'⟩:=O.itemsC F e tb;rw[il] at hl';exact ⟨l,rfl,⟨vs,SqL.of (F'.fh _ _ hl')⟩,p1 _ H1 Hg fq (B0 hl' R') O' F'⟩
 ·exact p1.elim
end
def eU(t:ae->Res Bool)(g:ae->FOut):Nat->ae->FOut
 | 0,_=>.bad
 |n+1,ρ=>aft (t ρ) fun b=>if b=true then (match g ρ with
  | .nx ρ'=>eU t g n ρ'
  | .ct ρ'=>eU t g n ρ'
  | .bk ρ'=>.nx ρ'
  |r=>r) else .nx ρ
def mJ(t:ae->Res Bool)(g:ae->FOut):ae->FOut:=eU t g 100
def nQ(i j:Nat)(fk:ae->Res D):ae->FOut:=fun ρ=>match ρ[j]? with
 |some (some (.lst .o ys))=>aft (fk ρ) fun d=>match d with
  | .int m=>match seqIndex? m ys.length with
   |some q=>match ys[q]? with
    |some y=>if y.tag=.b\/ρ.length<=i\/m < -(2 ^ 63)\/2 ^ 63<=m then .bad else .nx ((ρ.set j (some (.lst .o (ys.eraseIdx q)))).set i (some y.fz))
    |none=>.bad
   |none=>.bad
  |_=>.bad
 |_=>.bad
def ii:Nat:=2 ^ 4000
def jN:=gI (fun i j=>decide (i.natAbs<ii)&&decide (j.natAbs<ii)) fun i j=>.int (i*j)
def ju:=gI (fun _ j=>decide (j≠0)&&decide (j.natAbs<ii)) fun i j=>.int (i.fdiv j)
section
variable {X:Cx}{Ex:Value->Prop}{H0:Hp}{c e k:Expr}{f fk:ae->Res D}{pos:Pos}
theorem xR{body:List Stmt}{t:ae->Res Bool}{g:ae->FOut}(hp:Po X)(hc:FT X H0 Ex c t)(hb:FSs X H0 Ex body g):FS X H0 Ex (.While c body [] pos) (mJ t g):=by
 refine ⟨PS.pre (xr hp.go hc.go hb.go) ?_⟩;rintro D σ H ⟨Hs,ρ,S,p⟩;refine ⟨fun m σ' H'=>∃ ρ',SS Hs H0 H' σ' ρ'/\PostS Hs H0 Ex D (eU t g m ρ'),⟨100,ρ,S,p⟩,?_⟩;rintro m σ' H' ⟨ρ',⟨S,n⟩,p⟩
 cases m with
 |zero=>exact p.elim
 |succ m=>
  refine ⟨Hs,ρ',[],S,(PostS.aft p).imp fun b _ p1 H1 S1=>?_⟩
  cases b with
  |false=>rw[if_neg Bool.false_ne_true] at p1 ⊢;exact p1 _ _ ⟨S1,n⟩
  |true=>
   rw[if_pos rfl] at p1 ⊢;refine ⟨fun σ2 H2=>∃ ρ2,SS Hs H0 H2 σ2 ρ2/\PostS Hs H0 Ex D (eU t g m ρ2),fun σ2 H2 ⟨ρ2,S2,q2⟩=>⟨m,Nat.lt_succ_self _,ρ2,S2,q2⟩,Hs,ρ',⟨S1,n⟩,?_⟩
   cases e2:g ρ' with
   |nx ρ2=>rw[e2] at p1;exact fun σ2 H2 S2=>⟨ρ2,S2,p1⟩
   |ct ρ2=>rw[e2] at p1;exact fun σ2 H2 S2=>⟨ρ2,S2,p1⟩
   |bk ρ2=>rw[e2] at p1;exact p1
   |rt d=>rw[e2] at p1;exact p1
   |exc C=>rw[e2] at p1;exact p1
   |bad=>rw[e2] at p1;exact p1
theorem B1{i j:Nat}{x y:Str}{px q1 q2 q3:Pos}(hN:X.N.Nodup)(hi:X.N[i]?=some x)(hx:Loc X.env.scope x)(hw:PV X (.Name y q1) j)(hk:FE X H0 Ex k fk)
    (hbase2:attributeBase (.Name y q1) "pop" X.env (eval (.Name y q1) X.env)=eval (.Name y q1) X.env:=by rfl)
    (hfew2:((backTo q3 (starEach [k] X.env)).all (fun x=>!x.1)&&(backToKw q3 (keywordEach [] X.env)).all (fun x=>x.1.isSome)&&decide (([k]:List Expr).length+([]:List Keyword).length+(if ([]:List Keyword).isEmpty then 0 else 1)<30))=true:=by rfl)
    (hline2:(q2.endLine == q3.line)=true:=by rfl) (hplain2:(backTo q3 (starEach [] X.env)).any (·.1)=false:=by rfl) (hs2:starEach [k] X.env=(false,eval k X.env)::starEach [] X.env:=by rfl)
    (hs:swapsWith (.Call (.Attribute (.Name y q1) "pop" q2) [k] [] q3) (some (.Name x px)) pos.line X.env=pure false:=by rfl) (hf:X.fn x=true\/X.env.scope.names.lookup x=some .local:=by first | exact .inl rfl | exact .inr rfl | assumption) :
    FS X H0 Ex (.Assign [.Name x px] (.Call (.Attribute (.Name y q1) "pop" q2) [k] [] q3) pos) (nQ i j fk):=by
 refine ⟨PS.pre (uZ hN hi hx (mr PySem.F.plainAttrs_list PySem.F.slot_list_pop PySem.F.type_list_pop p8 hw.go (eG hk.go fW hs2) hbase2 hfew2 hline2 hs2 hplain2) hs hf) ?_⟩;rintro En σ H ⟨Hs,ρ,⟨S,n⟩,p⟩;unfold nQ at p;split at p
 ·rename_i ys hy
  obtain ⟨q',us',hq',hH',hl'⟩:=S.recv hy;refine ⟨.ref q',hq',.inl ⟨rfl,us',SqL.of hH'⟩,Hs,ρ,[],S,(PostS.aft p).imp fun d _ p1 v H1 S1=>?_⟩
  cases d with
  |int m=>
   have S1:SR Hs H0 H1 (some v::σ) (some (.int m)::ρ):=S1
   cases SR.isInt S1
   have p1:PostS Hs H0 Ex En (match seqIndex? m ys.length with
    |some q=>match ys[q]? with
     |some y=>if y.tag=.b\/ρ.length<=i\/m < -(2 ^ 63)\/2 ^ 63<=m then .bad else .nx ((ρ.set j (some (.lst .o (ys.eraseIdx q)))).set i (some y.fz))
     |none=>.bad
    |none=>.bad):=p1
   cases e1:seqIndex? m ys.length with
   |none=>rw[e1] at p1;exact p1.elim
   |some c=>
    rw[e1] at p1;dsimp only at p1
    cases e2:ys[c]? with
    |none=>rw[e2] at p1;exact p1.elim
    |some z=>
     rw[e2] at p1;dsimp only at p1;split at p1
     ·exact p1.elim
     ·rename_i hc
      have hz:z.tag≠.b:=fun w=>hc (.inl w);obtain ⟨a,vs,u,ha,hHa,hla,hu,S2⟩:=S1.drop.popAt n hy e2 hz;rw[hq'] at ha
      cases ha
      have n2:noB (ρ.set j (some (.lst .o (ys.eraseIdx c)))):=n.set fun d' w=>by cases w;exact fun y=>nomatch y
      have S3:=S2.frz hz;refine ⟨q',vs,m,c,u,rfl,rfl,hHa,Int.not_lt.mp fun w=>hc (.inr (.inr (.inl w))),Int.not_le.mp fun w=>hc (.inr (.inr (.inr w))),by rw[hla];exact e1,hu,?_⟩;exact p1 _ _ (SR.set0 S3 (by rw[z.fz_tag];decide) n2 (by rw[List.length_set];exact Nat.lt_of_not_le fun w=>hc (.inr (.inl w))))
  |_=>exact p1.elim
 ·exact p.elim
end
section
variable {X:Cx}
theorem qo{i:Int}(h:i.natAbs<ii):Builtin.Int.intBits i<=4000:=intBits_le_iff.mpr h
theorem zS:OpR X (binaryOp .Mult) (rI (fun i j=>i.natAbs<ii/\j.natAbs<ii) fun i j=>.int (i*j)):=opI fun _ _ _ _ _ _ _ hc q=>mul_int q (IntMulOk.of_le (qo hc.1) (qo hc.2) (by decide))
theorem sF:FOp X (binaryOp .Mult) jN:=jr zS fun i j h=>by simpa using h
theorem zT{j:Int}(h:j.natAbs<ii):j.natAbs.log2<9000:=by
 by_cases z:j.natAbs=0
 ·rw[z];decide
 ·exact Nat.lt_of_lt_of_le ((Nat.log2_lt z).mpr h) (by decide)
theorem xS:OpR X (binaryOp .FloorDiv) (rI (fun _ j=>j≠0/\j.natAbs<ii) fun i j=>.int (i.fdiv j)):=opI fun _ _ _ _ _ _ _ hc q=>floordiv_int hc.1 q (.inl (PyProof.noPylong_of_log2 (zT hc.2)))
theorem xT:FOp X (binaryOp .FloorDiv) ju:=jr xS fun i j h=>by simpa using h
end
section
variable {X:Cx}{Ex:Value->Prop}{H0:Hp}{e:Expr}{pos:Pos}
end
def frz1At(i:Nat)(ρ:ae):ae:=match ρ[i]? with
 |some (some (.lst .o xs))=>ρ.set i (some (.lst .o (D.fzs xs)))
 |_=>ρ
def jv(i:Nat)(g:ae->FOut):ae->FOut:=fun ρ=>match g ρ with
 | .nx ρ'=>.nx (frz1At i ρ')
 |r=>r
theorem SR.frz1{Hs H0 H:Hp}{vs:List (Option V)}{ds:List (Option D)}{v:V}{xs:List D}(S:SR Hs H0 H (some v::vs) (some (.lst .o xs)::ds)):SR Hs H0 H (some v::vs) (some (.lst .o (D.fzs xs))::ds):=by
 obtain ⟨Hf,fp,O,F⟩:=S
 cases O with
 |brw z h r=>cases z
 |cons h r=>
  cases h with
  |fz _ z=>cases z
  |lst h R=>
   rename_i fq a us fpx;have F2:Fine Hs H0 Hf H (fpx++(a::fq)):=F.perm (by
    rw[List.cons_append]
    exact List.perm_middle)
   exact ⟨mix Hf H fpx,a::fq,Own.cons (fp:=[a]) (fq:=fq) (.lst h (RepOs.ofReps (R.froz F.fh fun b m=>m) (iz xs))) (r.mono (dL F.fh) (Same.refl _)),F2.froz⟩
theorem SR.frz1At{Hs H0 H:Hp}{σ:St}{ρ:ae}(S:SR Hs H0 H σ ρ)(n:noB ρ)(i:Nat):SS Hs H0 H σ (frz1At i ρ):=by
 unfold Mi.frz1At;split
 ·rename_i xs hd
  obtain ⟨v,hv,S'⟩:=S.move hd (n _ (List.mem_of_getElem? hd));have S1:=S'.frz1;have hi:i<ρ.length:=(List.getElem?_eq_some_iff.mp hd).1;have S2:=SR.set S1 (fun z=>nomatch z) (i:=i) (by simpa using hi);rw[List.set_set] at S2;have e:σ.set i (some v)=σ:=by
   obtain ⟨h1,h2⟩:=List.getElem?_eq_some_iff.mp hv;rw[<- h2,List.set_getElem_self]
  rw[e] at S2;exact ⟨S2,n.set fun d' z=>by cases z;exact fun y=>nomatch y⟩
 ·exact ⟨S,n⟩
section
variable {X:Cx}{Ex:Value->Prop}{H0:Hp}{st:Stmt}{g:ae->FOut}
theorem xU(i:Nat)(h:FS X H0 Ex st g):FS X H0 Ex st (jv i g):=by
 refine ⟨PS.pre h.go ?_⟩;rintro D σ H ⟨Hs,ρ,S,p⟩;refine ⟨Hs,ρ,S,?_⟩;unfold jv at p
 cases e:g ρ with
 |nx ρ'=>rw[e] at p;exact fun σ' H' S'=>p σ' H' (S'.1.frz1At S'.2 i)
 |rt d=>rw[e] at p;exact p
 |bk ρ'=>rw[e] at p;exact p
 |ct ρ'=>rw[e] at p;exact p
 |exc C=>rw[e] at p;exact p
 |bad=>rw[e] at p;exact p
end
section
variable {X:Cx}
end
def ku(d:D)(ys:List D):Option Bool:=match eN (ys.map fun y=>(aU 3 y d).map (!·)) with
 |some b=>some (!b)
 |none=>none
def dIn(neg:Bool):D->D->Res D:=fun x y=>match y with
 | .lst _ ys=>match ku x ys with
  |some b=>.ok (.bl (neg != b))
  |none=>.bad
 |_=>.bad
def iD(i:Nat)(f:ae->Res D):ae->FOut:=fun ρ=>match ρ[i]? with
 |some (some (.lst .o xs))=>aft (f ρ) fun d=>match d with
  | .lst .o ys=>if sizeLine<xs.length+ys.length then .bad else .nx (ρ.set i (some (.lst .o (xs++ys))))
  |_=>.bad
 |_=>.bad
section
variable {X:Cx}{Ex:Value->Prop}{H0:Hp}{g:ae->FOut}{body:List Stmt}{pos:Pos}
end
section
variable {X:Cx}
theorem B2{pins:List (Addr × Obj)}{σ:St}{H:Hp}{s:Shared}(I:Inv X pins σ H s)(hu:X.A.units+4<cLine){x:V}{v:Value}{d:D}(rx:Rep H x d)(rv:RelV x v){us:List V}{ys:List D}{its:List Value}(q:Reps H us ys)(w:Vals us its){b:Bool}(hm:ku d ys=some b) :
    ∃ e:Value->Bool,(∀ y,y∈its.toArray->SeqAt.EqAt X.A.in1 s y v (e y))/\its.toArray.any e=b:=by
 classical
 unfold ku at hm;split at hm
 ·rename_i b0 hb0
  cases hm
  obtain ⟨e,he,hb⟩:=jL hb0;have hlen:(ys.map fun y=>(aU 3 y d).map (!·)).length=its.length:=by rw[List.length_map,<- w.length,q.length]
  have key:∀ j (hj:j<its.length),SeqAt.EqAt X.A.in1 s its[j] v (!e j):=by
   intro j hj;have:=he j (by rw[hlen];exact hj);rw[List.getElem?_map] at this
   cases ez:ys[j]? with
   |none=>rw[ez] at this;cases this
   |some y=>
    rw[ez] at this;have this:(aU 3 y d).map (!·)=some (e j):=Option.some.inj this
    cases ed:aU 3 y d with
    |none=>rw[ed] at this;cases this
    |some bb=>
     rw[ed] at this;have this:(!bb)=e j:=Option.some.inj this;obtain ⟨v1,hv1,rp1⟩:=q.get ez;obtain ⟨u1,hu1,rl1⟩:=w.get hv1;have g1:its[j]=u1:=by rw[List.getElem?_eq_getElem hj] at hu1;exact Option.some.inj hu1
     rw[g1,<- this,Bool.not_not];exact (ug I 3 X.A.in1 (show X.A.units+1+3<cLine by omega) rp1 rx rl1 rv ed).1
  refine ⟨fun y=>decide (∃ j,∃ hj:j<its.length,its[j]=y/\e j=false),fun y hy=>?_,?_⟩
  ·have hy:y∈its:=by simpa using hy
   dsimp only;by_cases hex:∃ j,∃ hj:j<its.length,its[j]=y/\e j=false
   ·rw[decide_eq_true hex]
    obtain ⟨j,hj,rfl,e0⟩:=hex;have:=key j hj;rw[e0] at this;exact this
   ·rw[decide_eq_false hex]
    obtain ⟨j,hj,rfl⟩:=List.getElem_of_mem hy;have:=key j hj;have e1:e j=true:=by
     cases h:e j with
     |true=>rfl
     |false=>exact absurd ⟨j,hj,rfl,h⟩ hex
    rw[e1] at this;exact this
  ·rw[hb,hlen,Bool.eq_iff_iff,Array.any_eq_true']
   constructor
   ·rintro ⟨y,hy,hd⟩
    obtain ⟨j,hj,_,e0⟩:=of_decide_eq_true hd;rw[Bool.not_eq_true',List.all_eq_false];exact ⟨j,List.mem_range.mpr hj,by rw[e0];decide⟩
   ·intro h
    rw[Bool.not_eq_true',List.all_eq_false] at h;obtain ⟨j,hj,hn⟩:=h;have hj:=List.mem_range.mp hj;refine ⟨its[j],by simp,decide_eq_true ⟨j,hj,rfl,by simpa using hn⟩⟩
 ·cases hm
theorem vZ(hu:X.A.units+4<cLine):OpR X (compareOp .NotIn) (fun x y H Q=>∃ d ys b a us,y=.ref a/\Rep H x d/\H a=some (.lst us)/\Reps H us ys/\ku d ys=some b/\Q (.bl (!b)) H):=by
 intro pins s σ H x y v u Q I rx ry h;obtain ⟨d,ys,b,a,us,rfl,r1,ha,q,hm,k⟩:=h
 cases ry
 obtain ⟨its,w,pl,_⟩:=I.list (SqL.of ha);obtain ⟨e,he,hb⟩:=B2 I hu r1 rx q w hm;exact SeqAt.notIn_listAt e pl.isList he (by rw[hb];exact ⟨.bl (!b),H,I,rfl,k⟩)
theorem zU(n:Bool):∀ x y,noX (dIn n x y)=true:=by
 intro x y;unfold dIn;split
 ·split<;>rfl
 ·rfl
theorem xV(hu:X.A.units+4<cLine):FOp X (compareOp .NotIn) (dIn true):=by
 refine ⟨OpR.pre (vZ hu) ?_⟩;rintro x y H Q ⟨Hs,H0,vs,ds,d1,d2,d,S,e,k⟩;unfold dIn at e;split at e
 ·rename_i t ys
  split at e
  ·rename_i b hb
   cases e
   have h2:=S.head
   cases h2 with
   |lst q R=>
    refine ⟨d1,ys,b,_,_,rfl,S.drop.head,q,R,hb,?_⟩;have:(true != b)=!b:=by cases b<;>rfl
    rw[<- this];exact k _ H S.drop.drop.bl
  ·cases e
 ·cases e
end
section
variable {X:Cx}{Ex:Value->Prop}{H0:Hp}{e:Expr}{f:ae->Res D}{pos:Pos}
end
theorem SR.extend{Hs H0 H:Hp}{vs:List (Option V)}{ds:List (Option D)}{v:V}{ys:List D}(S:SR Hs H0 H (some v::vs) (some (.lst .o ys)::ds))(n:noB ds){i:Nat}{xs:List D}(e:ds[i]?=some (some (.lst .o xs))) :
    ∃ p us b zs,v=.ref b/\vs[i]?=some (some (.ref p))/\H p=some (.lst us)/\us.length=xs.length/\H b=some (.lst zs)/\zs.length=ys.length/\SR Hs H0 (upd H p (.lst (us++zs))) vs (ds.set i (some (.lst .o (xs++ys)))):=by
 obtain ⟨Hf,fp,O,F⟩:=S
 cases O with
 |brw z h r=>cases z
 |cons h r=>
  rename_i f0 f1
  cases h with
  |fz _ z=>cases z
  |lst hb RB=>
   rename_i b zs fb;obtain ⟨p,fpx,fpr,e',q,pm,w⟩:=r.write n (List.nodup_append.mp F.nd).2.1 e rfl
   cases q with
   |lst q R=>
    rename_i us;have pm':(b::fb++f1).Perm (p::(fpx++fb)++(b::fpr)):=by
     refine (List.Perm.append_left (b::fb) pm).trans ?_;simp only[List.cons_append];have a1:(b::(fb++p::(fpx++fpr))).Perm (b::(p::(fb++(fpx++fpr)))):=List.Perm.cons b List.perm_middle;refine a1.trans ((List.Perm.swap p b _).trans (List.Perm.cons p ?_));have a2:(fb++(fpx++fpr)).Perm (fpx++fb++fpr):=by
      rw[<- List.append_assoc];exact List.Perm.append_right _ List.perm_append_comm
     exact (List.Perm.cons b a2).trans List.perm_middle.symm
    have F':=F.perm pm'.symm;have hpn:p∉(fpx++fb)++(b::fpr):=by
     have:=F'.nd;rw[List.cons_append] at this;exact (List.nodup_cons.mp this).1
    have hp:p∈b::fb++f1:=pm'.symm.subset (by simp);have kp:∀ (l:List Addr),(∀ a∈l,a∈(fpx++fb)++(b::fpr))->∀ a o,a∈l->H a=some o->upd H p (.lst (us++zs)) a=some o:=fun l hl a o m z=>
     gA (fun y=>by subst y;exact hpn (hl a m)) z
    have R':RepOs Hf (upd H p (.lst (us++zs))) (fpx++fb) (us++zs) (xs++ys):=
     (R.keep (Same.refl _) (kp fpx fun a m=>by simp[m])).append (RB.keep (Same.refl _) (kp fb fun a m=>by simp[m]))
    obtain ⟨fp',O',p'⟩:=w (upd H p (.lst (us++zs))) (.lst .o (xs++ys)) (p::(fpx++fb)) (kp fpr fun a m=>by simp[m]) (.lst bP R');have sl:(p::(fpx++fb)++fpr).Sublist (p::(fpx++fb)++(b::fpr)):=List.Sublist.append_left (List.sublist_cons_self b fpr) _;have F2:=(F'.subl sl).perm p';exact ⟨p,us,b,zs,rfl,e',q,R.length,hb,RB.length,Hf,fp',O',F.wrote hp F2.nd F2.own⟩
section
variable {X:Cx}{Ex:Value->Prop}{H0:Hp}{e:Expr}{f:ae->Res D}{pos:Pos}
theorem wa{i:Nat}{x:Str}{p1 p2 p3:Pos}(hv:PV X (.Name x p1) i)(he:FE X H0 Ex e f)
    (hbase:attributeBase (.Name x p1) "extend" X.env (eval (.Name x p1) X.env)=eval (.Name x p1) X.env:=by rfl)
    (hfew:((backTo p3 (starEach [e] X.env)).all (fun x=>!x.1)&&(backToKw p3 (keywordEach [] X.env)).all (fun x=>x.1.isSome)&&decide (([e]:List Expr).length+([]:List Keyword).length+(if ([]:List Keyword).isEmpty then 0 else 1)<30))=true:=by rfl)
    (hline:(p2.endLine == p3.line)=true:=by rfl) (hplain:(backTo p3 (starEach [] X.env)).any (·.1)=false:=by rfl) (hs1:starEach [e] X.env=(false,eval e X.env)::starEach [] X.env:=by rfl)
    (hsw:swapsWith (.Call (.Attribute (.Name x p1) "extend" p2) [e] [] p3) none pos.line X.env=pure false:=by rfl) :
    FS X H0 Ex (.Expr (.Call (.Attribute (.Name x p1) "extend" p2) [e] [] p3) pos) (iD i f):=by
 refine ⟨PS.pre (kY (mr PySem.F.plainAttrs_list PySem.F.slot_list_extend PySem.F.type_list_extend vm hv.go (eG he.go fW hs1) hbase hfew hline hs1 hplain) hsw) ?_⟩;rintro En σ H ⟨Hs,ρ,⟨S,n⟩,p⟩;unfold iD at p;split at p
 ·rename_i xs hx
  obtain ⟨q,us,hq,hH,hl⟩:=S.recv hx;refine ⟨.ref q,hq,.inl ⟨rfl,us,SqL.of hH⟩,Hs,ρ,[],S,(PostS.aft p).imp fun d _ p1 v H1 S1=>?_⟩;split at p1
  ·rename_i ys _
   split at p1
   ·exact p1.elim
   ·rename_i hc
    have S1:SR Hs H0 H1 (some v::σ) (some (.lst .o ys)::ρ):=S1;obtain ⟨q',us',b,zs,rfl,hq',hH',hl',hb,hzl,S2⟩:=S1.extend n hx;rw[hq] at hq'
    cases hq'
    exact ⟨q,b,us',zs,rfl,rfl,hH',hb,by rw[hl',hzl];omega,p1 σ _ ⟨S2,n.set fun d' z=>by cases z;exact fun y=>nomatch y⟩⟩
  ·exact p1.elim
 ·exact p.elim
end
def jO:List D->Option (List Key)
 | []=>some []
 | .int i::r=>(jO r).map (Sum.inl i::·)
 |_=>none
def ek(ks:List (List Key × D))(k:List Key):Bool:=ks.any fun q=>decide (q.1=k)
def cP(ks:List (List Key × D))(k:List Key)(d:D):List (List Key × D):=if ek ks k=true then ks.map (fun q=>if q.1=k then (q.1,d) else q) else ks++[(k,d)]
def kz:D->D->Res D:=fun x y=>match x,y with
 | .tup es,.dic _ ks=>match jO es with
  |some k=>.ok (.bl (ek ks k))
  |none=>.bad
 |_,_=>.bad
def pK:ae->Res D:=fun _=>.ok (.dic .o [])
def mK(i:Nat)(fk:ae->Res D)(cd:D):ae->FOut:=fun ρ=>match ρ[i]? with
 |some (some (.dic .o ks))=>aft (fk ρ) fun d=>match d with
  | .tup es=>match jO es with
   |some k=>if sizeLine<=ks.length then .bad else .nx (ρ.set i (some (.dic .o (cP ks k cd))))
   |none=>.bad
  |_=>.bad
 |_=>.bad
section
variable {X:Cx}{Ex:Value->Prop}{H0:Hp}{e:Expr}{f fk:ae->Res D}{pos:Pos}
end
theorem iO{H:Hp}:∀ {us:List V} {es:List D} {k:List Key},Reps H us es->jO es=some k->us=k.map kV
 |_,_,_,.nil,h=>by simp[jO] at h;subst h;rfl
 |_,_,k,.cons (d:=d) a r,h=>by
  cases d with
  |int b=>
   cases a
   unfold jO at h
   cases e:jO _ with
   |none=>rw[e] at h;cases h
   |some cs=>rw[e] at h;cases h;rw[iO r e];rfl
  |_=>cases h
theorem qp{H:Hp}:∀ {kvs:List (List Key × V)} {ks:List (List Key × D)} (k:List Key),RepK H kvs ks->(fL kvs k).isSome=ek ks k/\(kvs.any fun q=>decide (q.1=k))=ek ks k/\kvs.length=ks.length
 |_,_,k,.nil=>⟨rfl,rfl,rfl⟩
 |_,_,k,.cons (k:=k') h r=>by
  obtain ⟨h1,h2,h3⟩:=qp k r;refine ⟨?_,?_,by simp[h3]⟩
  ·by_cases e:k'=k
   ·rw[iJ (show _=k from e)]
    simp[ek,e]
   ·rw[gz (show ¬ _=k from e),h1]
    simp[ek,e]
  ·simp only[List.any_cons,ek] at h2 ⊢
   rw[h2]
theorem SR.laidD{Hs H0 H Hf:Hp}{fp:List Addr}{vs:List (Option V)}{ds:List (Option D)}(O:Own Hf H fp vs ds)(F:Fine Hs H0 Hf H fp){p:Addr}(hp:H p=none) :
    SR Hs H0 (upd H p (.dT [])) (some (.ref p)::vs) (some (.dic .o [])::ds):=by
 obtain ⟨hf,h0⟩:=F.fresh hp;have s:Same H (upd H p (.dT [])):=fun b o e=>by rw[aR (bC e hp)];exact e
 refine ⟨Hf,[p]++fp,.cons (.dic bP .nil) (O.mono (Same.refl _) s),?_,?_,F.fh.trans s,F.zh.trans s,F.sf,F.new⟩
 ·refine List.nodup_cons.mpr ⟨fun m=>?_,F.nd⟩
  obtain ⟨o,e⟩:=O.there p m;rw[hp] at e;cases e
 ·intro a m
  rcases List.mem_cons.mp m with e | m
  ·subst e;exact ⟨hf,h0⟩
  ·exact F.own a m
theorem oS{kvs:List (List Key × V)}{ks:List (List Key × D)}(k:List Key)(ke:kvs.map (·.1)=ks.map (·.1)):(kvs.any fun q=>decide (q.1=k))=ek ks k:=by
 unfold ek;have:=congrArg (fun l=>List.any l fun x=>decide (x=k)) ke;simp only[List.any_map] at this;exact this
theorem wc{kvs:List (List Key × V)}{ks:List (List Key × D)}(k:List Key)(v:V)(d:D)(ke:kvs.map (·.1)=ks.map (·.1)):(dJ kvs k v).map (·.1)=(cP ks k d).map (·.1):=by
 have m1:∀ (l:List (List Key × V)),(l.map fun q=>if q.1=k then (q.1,v) else q).map (·.1)=l.map (·.1):=fun l=>by
  rw[List.map_map];congr 1;funext q;show (if q.1=k then (q.1,v) else q).1=q.1;split<;>rfl
 have m2:∀ (l:List (List Key × D)),(l.map fun q=>if q.1=k then (q.1,d) else q).map (·.1)=l.map (·.1):=fun l=>by
  rw[List.map_map];congr 1;funext q;show (if q.1=k then (q.1,d) else q).1=q.1;split<;>rfl
 unfold dJ cP;rw[oS k ke];split
 ·rw[m1,m2,ke]
 ·rw[List.map_append,List.map_append,ke];rfl
theorem wd{Hf H:Hp}(k:List Key){v:V}{d:D}(hv:Rep Hf v d)(t:d.tag=.f):∀ {kvs:List (List Key × V)} {ks:List (List Key × D)} {fp:List Addr},kvs.map (·.1)=ks.map (·.1)->RepOs Hf H fp (kvs.map (·.2)) (ks.map (·.2)) →
    ∃ fq,fq.Sublist fp/\RepOs Hf H fq ((kvs.map fun q=>if q.1=k then (q.1,v) else q).map (·.2)) ((ks.map fun q=>if q.1=k then (q.1,d) else q).map (·.2)):=by
 intro kvs;induction kvs with
 |nil=>intro ks fp e r;cases ks with | nil=>cases r;exact ⟨[],.refl _,.nil⟩ | cons a b=>simp at e
 |cons p l ih=>
  intro ks fp e r
  cases ks with
  |nil=>simp at e
  |cons q m=>
   obtain ⟨k',v'⟩:=p;obtain ⟨k2,d'⟩:=q;simp only[List.map_cons,List.cons.injEq] at e;obtain ⟨rfl,e⟩:=e;simp only[List.map_cons] at r ⊢
   cases r with
   |cons h1 t1=>
    obtain ⟨fq,sub,R⟩:=ih e t1;by_cases hk:k'=k
    ·rw[if_pos hk,if_pos hk]
     exact ⟨fq,sub.trans (List.sublist_append_right _ _),RepOs.cons (fp:=[]) (.fz hv t) R⟩
    ·rw[if_neg hk,if_neg hk]
     exact ⟨_,sub.append_left _,.cons h1 R⟩
theorem yP{v:V}{d:D}(h:∀ H,Rep H v d):d.tag=.f:=by
 have:=h (fun _=>none)
 cases this<;>first | rfl | (rename_i e _;cases e) | (rename_i e;cases e)
theorem SR.dput{Hs H0 H:Hp}{vs:List (Option V)}{ds:List (Option D)}{v:V}{d:D}(S:SR Hs H0 H vs ds)(hrep:∀ H,Rep H v d)(n:noB ds){i:Nat}{ks:List (List Key × D)}(k:List Key)(e:ds[i]?=some (some (.dic .o ks))) :
    ∃ p kvs,vs[i]?=some (some (.ref p))/\H p=some (.dT kvs)/\kvs.length=ks.length/\SR Hs H0 (upd H p (.dT (dJ kvs k v))) vs (ds.set i (some (.dic .o (cP ks k d)))):=by
 obtain ⟨Hf,fp,r,F⟩:=S;obtain ⟨p,fpx,fpr,e',q,pm,w⟩:=r.write n F.nd e rfl
 cases q with
 |dic q R0=>
  rename_i kvs;obtain ⟨ke,R⟩:=R0.keys;have F':=F.perm pm.symm;have hpn:p∉fpx++fpr:=by
   have:=F'.nd;rw[List.cons_append] at this;exact (List.nodup_cons.mp this).1
  have hp:p∈fp:=pm.symm.subset (by simp);have kp:∀ (l:List Addr),(∀ a∈l,a∈fpx++fpr)->∀ a o,a∈l->H a=some o->upd H p (.dT (dJ kvs k v)) a=some o:=fun l hl a o m z=>gA (fun y=>by subst y;exact hpn (hl a m)) z;have R1:=R.keep (H':=upd H p (.dT (dJ kvs k v))) (Same.refl _) (kp fpx fun a m=>List.mem_append_left _ m)
  have hR:∃ fq,fq.Sublist fpx/\RepOs Hf (upd H p (.dT (dJ kvs k v))) fq ((dJ kvs k v).map (·.2)) ((cP ks k d).map (·.2)):=by
   unfold cP;generalize upd H p (.dT (dJ kvs k v))=H2 at R1 ⊢;unfold dJ;rw[oS k ke];split
   ·exact wd k (hrep Hf) (yP hrep) ke R1
   ·rw[List.map_append,List.map_append]
    refine ⟨fpx++[],by rw[List.append_nil];exact List.Sublist.refl _,R1.append ?_⟩;exact RepOs.cons (fp:=[]) (.fz (hrep Hf) (yP hrep)) .nil
  obtain ⟨fq,sub,R2⟩:=hR;obtain ⟨fp',O',p'⟩:=w (upd H p (.dT (dJ kvs k v))) (.dic .o (cP ks k d)) (p::fq) (kp fpr fun a m=>List.mem_append_right _ m) (.dic bP (RepOk.of (wc k v d ke) R2));have sl:((p::fq)++fpr).Sublist (p::fpx++fpr):=by
   rw[List.cons_append,List.cons_append];exact List.Sublist.cons_cons p (List.Sublist.append_right sub _)
  have F2:=(F'.subl sl).perm p';exact ⟨p,kvs,e',q,by simpa using congrArg List.length ke,Hf,fp',O',F.wrote hp F2.nd F2.own⟩
section
variable {X:Cx}{Ex:Value->Prop}{H0:Hp}{e k:Expr}{f fk:ae->Res D}{pos:Pos}
theorem sG:FE X H0 Ex (.Dict [] [] pos) pK:=by
 refine ⟨PE.pre xB ?_⟩;rintro σ H Q ⟨Hs,ρ,ts,S,p⟩;intro q hq;obtain ⟨Hf,fp,O,F⟩:=S;exact p _ _ (SR.laidD O F hq)
theorem B3(hu:X.A.units+1<cLine):OpR X (compareOp .In) (fun x y H Q=>∃ a o,y=.ref a/\DGet H a x o/\Q (.bl o.isSome) H):=by
 intro pins s σ H x y v u Q I rx ry h;obtain ⟨a,o,rfl,g,q⟩:=h
 cases ry
 exact Ei hu I g rx fun s' I'=>⟨.bl _,H,I',rfl,q⟩
theorem xW:∀ x y,noX (kz x y)=true:=by
 intro x y;unfold kz;split
 ·split<;>rfl
 ·rfl
theorem B4(hu:X.A.units+4<cLine):FOp X (compareOp .In) kz:=by
 refine ⟨OpR.pre (B3 (by omega)) ?_⟩;rintro x y H Q ⟨Hs,H0,vs,ds,d1,d2,d,S,e,kq⟩;unfold kz at e;split at e
 ·rename_i es t ks
  split at e
  ·rename_i kk hk
   cases e
   have h2:=S.head;have h1:=S.drop.head
   cases h2 with
   |dic q2 R2=>
    cases h1 with
    |tup q1 R1=>
     rename_i kvs _ us;have e1:=iO R1 hk;subst e1;refine ⟨_,_,rfl,DGet.t q2 q1,?_⟩;rw[(qp kk R2).1];exact kq _ H S.drop.drop.bl
  ·cases e
 ·cases e
theorem qt(hu:X.A.units+1<cLine):A8 X (fun o i v H Q=>∃ a H',o=.ref a/\DPut H a i v H'/\Q H'):=by
 intro pins s σ H o i v ov iv u Q I ro ri rv h;obtain ⟨a,H',rfl,g,q⟩:=h
 cases ro
 exact vn hu I g ri rv fun s' I'=>⟨H',I',q⟩
theorem zV{i:Nat}{x:Str}{p1 p2:Pos}{cv:V}{cd:D}(hu:X.A.units+4<cLine)(hv:PV X (.Name x p1) i)(he:PE X e (tC cv))(hrep:∀ H,Rep H cv cd)(hk:FE X H0 Ex k fk)
    (ha:∀ v,assign (.Subscript (.Name x p1) k p2) X.env v=(do
     let ov <- holding [v] (eval (.Name x p1) X.env)
     let iv <- holding [v,ov] (eval k X.env)
     standAt p2
     holding [v,ov,iv] (setItem ov iv v)
     release [v,ov,iv] []):=by intro _;rfl)
    (hs:swapsWithSole [.Subscript (.Name x p1) k p2] e pos.line X.env=pure false:=by rfl) (hw:swappedStores [.Subscript (.Name x p1) k p2] e X.env=pure none:=by rfl)
    (h1:(assignEach [.Subscript (.Name x p1) k p2] X.env).map (·.2)=[assign (.Subscript (.Name x p1) k p2) X.env]:=by rfl) :
    FS X H0 Ex (.Assign [.Subscript (.Name x p1) k p2] e pos) (mK i fk cd):=by
 refine ⟨PS.pre (uY he (uX hv.go hk.go (qt (by omega)) ha) hs hw h1) ?_⟩;rintro En σ H ⟨Hs,ρ,⟨S,n⟩,p⟩;unfold mK at p;split at p
 ·rename_i ks hx
  obtain ⟨v0,hv0,S0⟩:=S.get hx;have hh:=S0.head
  cases hh with
  |dic q _=>
   refine ⟨_,hv0,Hs,ρ,[],S,(PostS.aft p).imp fun d _ p1 v H1 S1=>?_⟩;split at p1
   ·rename_i es _
    split at p1
    ·rename_i kk hkk
     split at p1
     ·exact p1.elim
     ·rename_i hc
      have S1:SR Hs H0 H1 (some v::σ) (some (.tup es)::ρ):=S1;have h3:=S1.head
      cases h3 with
      |tup q3 R3=>
       have e3:=iO R3 hkk;subst e3;obtain ⟨p',kvs,hp',hH',hl',S2⟩:=S1.drop.dput hrep n kk hx;rw[hv0] at hp'
       cases hp'
       exact ⟨_,_,rfl,DPut.t hH' q3 (by rw[hl'];omega),p1 σ _ ⟨S2,n.set fun d' z=>by cases z;exact fun y=>nomatch y⟩⟩
    ·exact p1.elim
   ·exact p1.elim
 ·exact p.elim
end
section
variable {X:Cx}{Ex:Value->Prop}{H0:Hp}{e:Expr}{f:ae->Res D}{pos:Pos}
end
section
variable {Hs H0 Hf H:Hp}{fp L:List Addr}{vs:List (Option V)}{ds:List (Option D)}
end
section
variable {X:Cx}{Ex:Value->Prop}{H0:Hp}{CX:CXT}{k n:Nat}{f:Addr}{fd:FuncData}{ps:List Str}{F:List D->Res D}{x:Str}{p pos:Pos}{e:Expr}{es:List Expr}
end
def b8:List (List Key × D)->List Key->Option D
 | [],_=>none
 | (k',d)::r,k=>if k'=k then some d else b8 r k
theorem qu{H:Hp}(k:List Key):∀ {kvs:List (List Key × V)} {ks:List (List Key × D)},RepK H kvs ks->(b8 ks k=none/\fL kvs k=none)\/∃ d v,b8 ks k=some d/\fL kvs k=some v/\Rep H v d
 |_,_,.nil=>.inl ⟨rfl,rfl⟩
 |_,_,.cons (k:=k') (v:=v') (d:=d') h r=>by
  by_cases e:k'=k
  ·refine .inr ⟨d',v',?_,?_,h⟩
   ·unfold b8;rw[if_pos e]
   ·rw[iJ (show _=k from e)]
  ·rcases qu k r with ⟨h1,h2⟩ | ⟨d,v,h1,h2,h3⟩
   ·refine .inl ⟨?_,?_⟩
    ·unfold b8;rw[if_neg e];exact h1
    ·rw[gz (show ¬ _=k from e)];exact h2
   ·refine .inr ⟨d,v,?_,?_,h3⟩
    ·unfold b8;rw[if_neg e];exact h1
    ·rw[gz (show ¬ _=k from e)];exact h2
section
variable {X:Cx}{Ex:Value->Prop}{H0:Hp}{CX:CXT}{k n:Nat}{f:Addr}{fd:FuncData}{ps:List Str}{F:List D->Res D}{x:Str}{p pos:Pos}{e:Expr}{es:List Expr}
end
section
variable {X:Cx}{Ex:Value->Prop}{H0:Hp}{o e g:Expr}{fd fk fx f:ae->Res D}{apos cpos pos:Pos}
theorem Dz(base:attributeBase o "get" X.env (eval o X.env)=eval o X.env)(few:((backTo cpos (starEach [e,g] X.env)).all (fun x=>!x.1)&&(backToKw cpos (keywordEach [] X.env)).all (fun x=>x.1.isSome)
    && decide (([e,g]:List Expr).length+([]:List Keyword).length+(if ([]:List Keyword).isEmpty then 0 else 1)<30))=true) (line:(apos.endLine == cpos.line)=true) (trees:backTo cpos (starEach [e,g] X.env)=[(false,eval e X.env),(false,eval g X.env)]):M2 X o "get" apos e g cpos:=⟨base,few,line,trees⟩
end
section
variable {X:Cx}{tg:Expr}{pos:Pos}
end
def i9(fd fk fx:ae->Res D):ae->Res D:=fun ρ=>fd ρ >>= fun d=>match d with
 | .dic _ ks=>fk ρ >>= fun k=>match k with
  | .tup es=>match jO es with
   |some kk=>fx ρ >>= fun x=>match b8 ks kk with
    |some y=>if y.atom=true then .ok y else .bad
    |none=>if x.atom=true then .ok x else .bad
   |none=>.bad
  |_=>.bad
 |_=>.bad
def iP(i:Nat)(fk f:ae->Res D):ae->FOut:=fun ρ=>match ρ[i]? with
 |some (some (.dic .o ks))=>aft (f ρ) fun d=>aft (fk ρ) fun kd=>match kd with
  | .tup es=>match jO es with
   |some k=>if d.atom=false\/sizeLine<=ks.length then .bad else .nx (ρ.set i (some (.dic .o (cP ks k d))))
   |none=>.bad
  |_=>.bad
 |_=>.bad
section
variable {X:Cx}{Ex:Value->Prop}{H0:Hp}{o e g:Expr}{fd fk fx f:ae->Res D}{apos cpos pos:Pos}
theorem nR(hu:X.A.units+4<cLine)(hd:FE X H0 Ex o fd)(hk:FE X H0 Ex e fk)(hx:FE X H0 Ex g fx)(m:M2 X o "get" apos e g cpos:=by exact Dz rfl rfl rfl rfl):FE X H0 Ex (.Call (.Attribute o "get" apos) [e,g] [] cpos) (i9 fd fk fx):=by
 refine ⟨PE.pre (xC (by omega) hd.go hk.go hx.go m) ?_⟩;rintro σ H Q ⟨Hs,ρ,ts,S,p⟩;refine ⟨Hs,ρ,ts,S,(Post.bind p).imp fun d1 _ p1 v1 H1 S1=>?_⟩;split at p1
 ·rename_i tg ks _
  have hh:Rep H1 v1 (.dic tg ks):=SR.head S1
  cases hh with
  |dic q1 R1=>
   rename_i a kvs;refine ⟨a,rfl,.inr ⟨kvs,.inl q1⟩,Hs,ρ,_,S1,(Post.bind p1).imp fun d2 _ p2 v2 H2 S2=>?_⟩;split at p2
   ·rename_i es _
    split at p2
    ·rename_i kk hkk
     refine ⟨Hs,ρ,_,S2,(Post.bind p2).imp fun d3 _ p3 v3 H3 S3=>?_⟩;have S3:SR Hs H0 H3 (some v3::some v2::some (.ref a)::(tvs ts++σ)) (some d3::some (.tup es)::some (.dic tg ks)::(tds ts++ρ)):=S3;have h2:=S3.drop.head
     cases h2 with
     |tup q2 R2=>
      have e2:=iO R2 hkk;subst e2;have h3:=S3.drop.drop.head
      cases h3 with
      |dic q3 R3=>
       rename_i kvs3;refine ⟨fL kvs3 kk,DGet.t q3 q2,?_⟩;rcases qu kk R3 with ⟨g1,g2⟩ | ⟨y,w,g1,g2,g3⟩
       ·rw[g2]
        rw[g1] at p3;dsimp only at p3;split at p3
        ·rename_i ha
         exact p3 v3 H3 (SR.atom S3.drop.drop.drop (fun H=>jI S3.head ha) (l6 ha))
        ·exact p3.elim
       ·rw[g2]
        rw[g1] at p3;dsimp only at p3;split at p3
        ·rename_i ha
         exact p3 w H3 (SR.atom S3.drop.drop.drop (fun H=>jI g3 ha) (l6 ha))
        ·exact p3.elim
    ·exact p2.elim
   ·exact p2.elim
 ·exact p1.elim
theorem qv{i:Nat}{x:Str}{p1 p2:Pos}{k:Expr}(hu:X.A.units+4<cLine)(hv:PV X (.Name x p1) i)(he:FE X H0 Ex e f)(hk:FE X H0 Ex k fk)
    (ha:∀ v,assign (.Subscript (.Name x p1) k p2) X.env v=(do
     let ov <- holding [v] (eval (.Name x p1) X.env)
     let iv <- holding [v,ov] (eval k X.env)
     standAt p2
     holding [v,ov,iv] (setItem ov iv v)
     release [v,ov,iv] []):=by intro _;rfl)
    (hs:swapsWithSole [.Subscript (.Name x p1) k p2] e pos.line X.env=pure false:=by rfl) (hw:swappedStores [.Subscript (.Name x p1) k p2] e X.env=pure none:=by rfl)
    (h1:(assignEach [.Subscript (.Name x p1) k p2] X.env).map (·.2)=[assign (.Subscript (.Name x p1) k p2) X.env]:=by rfl) :
    FS X H0 Ex (.Assign [.Subscript (.Name x p1) k p2] e pos) (iP i fk f):=by
 refine ⟨PS.pre (uY he.go (uX hv.go hk.go (qt (by omega)) ha) hs hw h1) ?_⟩;rintro En σ H ⟨Hs,ρ,⟨S,n⟩,p⟩;unfold iP at p;split at p
 ·rename_i ks hx
  obtain ⟨v0,hv0,S0⟩:=S.get hx;have hh:=S0.head
  cases hh with
  |dic q _=>
   refine ⟨Hs,ρ,[],S,(PostS.aft p).imp fun d _ p1 v H1 S1=>⟨_,hv0,Hs,ρ,[(v,d)],S1,(PostS.aft p1).imp fun kd _ p2 w H2 S2=>?_⟩⟩;have S2:SR Hs H0 H2 (some w::some v::σ) (some kd::some d::ρ):=S2;split at p2
   ·rename_i es _
    split at p2
    ·rename_i kk hkk
     split at p2
     ·exact p2.elim
     ·rename_i hc
      have h3:=S2.head
      cases h3 with
      |tup q3 R3=>
       have e3:=iO R3 hkk;subst e3;have hat:d.atom=true:=by
        cases q:d.atom with
        |true=>rfl
        |false=>exact absurd (.inl q) hc
       obtain ⟨p',kvs,hp',hH',hl',S3⟩:=S2.drop.drop.dput (v:=v) (d:=d) (fun H=>jI S2.drop.head hat) n kk hx;rw[hv0] at hp'
       cases hp'
       exact ⟨_,_,rfl,DPut.t hH' q3 (by rw[hl'];exact Nat.lt_of_not_le fun z=>hc (.inr z)),p2 σ _ ⟨S3,n.set fun d' z=>by cases z;exact fun y=>nomatch y⟩⟩
    ·exact p2.elim
   ·exact p2.elim
 ·exact p.elim
end
end Mi
namespace Lw
open PySem PySem.Spec L2 Mi
open PyProof.Rows hiding St
def top(i:Nat):Stmt:=PySem.Challenge.pw_lonewalks_k12_whole_lone_weights.main.body.getD i (.Pass ⟨0,0,0,0⟩)
def jP(i j:Nat):Stmt:=match top i with
 | .ClassDef _ _ _ b _ _ _ _ _ _ _=>b.getD j (.Pass ⟨0,0,0,0⟩)
 |_=>.Pass ⟨0,0,0,0⟩
structure Ads where
 BadNet:Addr
 Net:Addr
structure Bl (K:PySem.W.Frag) (mg:Str->Option Value) (a:Ads):Prop where
 b_all:mg "all" = none
 b_bool:mg "bool" = none
 b_enumerate:mg "enumerate" = none
 b_int:mg "int" = none
 b_isinstance:mg "isinstance" = none
 b_len:mg "len" = none
 b_list:mg "list" = none
 b_max:mg "max" = none
 b_min:mg "min" = none
 b_range:mg "range" = none
 b_sorted:mg "sorted" = none
 b_zip:mg "zip" = none
 c_MOST_SIDE:∃ t,mg "MOST_SIDE" = some (.int 8 t)
 c_MOST_WALKERS:∃ t,mg "MOST_WALKERS" = some (.int 4 t)
 c_MOST_WEIGHT:∃ t,mg "MOST_WEIGHT" = some (.int 1000 t)
 k_bool:KT K "bool"
 k_int:KT K "int"
 x_BadNet:XCls K mg "BadNet" a.BadNet
 cl_Net:Cls K a.Net
 na_Net_columns:NoAttr K a.Net "columns"
 na_Net_ends:NoAttr K a.Net "ends"
 na_Net_right:NoAttr K a.Net "right"
 na_Net_rows:NoAttr K a.Net "rows"
 na_Net_starts:NoAttr K a.Net "starts"
 na_Net_up:NoAttr K a.Net "up"
variable {P:Program}{w:World}{K:PySem.W.Frag}{mg:Str->Option Value}{base:Heap}{a:Ads}
def iQ(a:Ads):ae->FOut:=
 (gIf (cY (ftB (cA (fun i j=>decide (i<=j)) (fun i j=>decide (i<=j)) (fC (.int 1)) (ad 0) (fC (.int 8))))) (fun _=>.exc (.ref a.BadNet)) aP)
def dk(a:Ads):List D->Res D:=bj 1 (iQ a)
theorem jY:FnScope ["length"] ["length"] (az (top 7)):=⟨rfl,rfl,rfl,by decide +kernel,rfl,by decide +kernel,by decide +kernel⟩
theorem pu(B:Bl K mg a)(U:Df K mg "check_side" (top 7) ["length"])  : Cal P w K mg base "check_side" 1 (dk a) 1:=by
 refine bK (k:=0) (N:=["length"]) U jY fun f cdv A outer s H E Ex hE hr=>?_;have sc:=jY;exact (av (bX (gZ (iN gO gO aj (af 0 (mv 0)) (nO rfl B.c_MOST_SIDE.choose_spec ⟨_,rfl⟩))) (av (fM B.x_BadNet hE rfl)) bn))
def ij(a:Ads):ae->FOut:=
 (ar (gIf (ft2 (eM true) (fCB a8 (ac (ad 0) ah)) (ad 1)) (fun _=>.exc (.ref a.BadNet)) aP)
 (bA (aH (ad 0)) (au 3) (ar (gIf (ft2 (eM true) (fCB a8 (ac (ad 3) ah)) (ad 2)) (fun _=>.exc (.ref a.BadNet)) aP)
 (gIf (cY (ftB (fCB ko (ac (aK 1 [] (aH (ad 3)) (au 0) aM (cA (fun i j=>decide (i<=j)) (fun i j=>decide (i<=j)) (fC (.int 0)) (ad 0) (fC (.int 1000)))) ah)))) (fun _=>.exc (.ref a.BadNet)) aP))))
def db(a:Ads):List D->Res D:=bj 4 (ij a)
theorem jw:FnScope ["lists", "count", "length", "weights"] ["lists", "count", "length"] (az (top 8)):=⟨rfl,rfl,rfl,by decide +kernel,rfl,by decide +kernel,by decide +kernel⟩
theorem nS(B:Bl K mg a)(U:Df K mg "check_steps" (top 8) ["lists", "count", "length"])  : Cal P w K mg base "check_steps" 3 (db a) 1:=by
 refine bK (k:=0) (N:=["lists", "count", "length", "weights"]) U jw fun f cdv A outer s H E Ex hE hr=>?_;have sc:=jw;exact (am (bX (bx kg (gE _) (aV cc bq rfl B.b_len (by decide +kernel) (ag (af 0 (mv 0)) ak)) (af 1 (mv 1)) (be _)) (av (fM B.x_BadNet hE rfl)) bn)
  (av (bZ cC rfl (bN (af 0 (mv 0))) (aO (i:=3) sc.nd rfl (.inl rfl)) (am (bX (bx kg (gE _) (aV cc bq rfl B.b_len (by decide +kernel) (ag (af 3 (mv 3)) ak)) (af 2 (mv 2)) (be _)) (av (fM B.x_BadNet hE rfl)) bn)
  (av (bX (gZ (kc (aV (BW rfl) xO rfl B.b_all (by decide +kernel) (ag (cX rfl (CompScope.of (own:=["weight"]) (cap:=[]) rfl (by decide +kernel) rfl rfl (by decide +kernel)) (bN (af 3 (mv 3))) (fun C cells s0 H0 ex pn hN=>⟨(aO (i:=0) hN rfl (by first | exact Or.inl rfl | exact Or.inr rfl)),bW,(xJ gO gO aj (af 0 (mv 0)) (nO rfl B.c_MOST_WEIGHT.choose_spec ⟨_,rfl⟩))⟩)) ak)))) (av (fM B.x_BadNet hE rfl)) bn))))))
def gH(a:Ads):ae->FOut:=
 (ar (gIf (cY (ftB (cA (fun i j=>decide (i<=j)) (fun i j=>decide (i<=j)) (fC (.int 1)) (fCB a8 (ac (ad 0) ah)) (fC (.int 4))))) (fun _=>.exc (.ref a.BadNet)) aP)
 (ar (aw 2 (fFz (f1 l8 (fC (.int 1)))))
 (bA (aH (ad 0)) (au 3) (ar (gIf (cY (ftB (cA (fun i j=>decide (i<j)) (fun i j=>decide (i<j)) (ad 2) (ad 3) (ad 1)))) (fun _=>.exc (.ref a.BadNet)) aP)
 (aw 2 (fFz (ad 3)))))))
def cT(a:Ads):List D->Res D:=bj 4 (gH a)
theorem jb:FnScope ["chosen", "rows", "last", "row"] ["chosen", "rows"] (az (top 9)):=⟨rfl,rfl,rfl,by decide +kernel,rfl,by decide +kernel,by decide +kernel⟩
theorem mL(B:Bl K mg a)(U:Df K mg "check_border" (top 9) ["chosen", "rows"])  : Cal P w K mg base "check_border" 2 (cT a) 1:=by
 refine bK (k:=0) (N:=["chosen", "rows", "last", "row"]) U jb fun f cdv A outer s H E Ex hE hr=>?_;have sc:=jb;exact (am (bX (gZ (iN gO gO aj (aV cc bq rfl B.b_len (by decide +kernel) (ag (af 0 (mv 0)) ak)) (nO rfl B.c_MOST_WALKERS.choose_spec ⟨_,rfl⟩))) (av (fM B.x_BadNet hE rfl)) bn)
  (am (aF (i:=2) sc.nd rfl (.inl rfl) (aQ (vD aj)))
  (av (bZ cC rfl (bN (af 0 (mv 0))) (aO (i:=3) sc.nd rfl (.inl rfl)) (am (bX (gZ (iN pD pD (af 2 (mv 2)) (af 3 (mv 3)) (af 1 (mv 1)))) (av (fM B.x_BadNet hE rfl)) bn)
  (av (aF (i:=2) sc.nd rfl (.inl rfl) (aQ (af 3 (mv 3))))))))))
def ui(a:Ads):ae->FOut:=
 (ar (dY (aq 1 (dk a) (ac (fCB a8 (ac (ad 1) ah)) ah)))
 (ar (aw 5 (fFz (fCB a8 (ac (ad 1) ah))))
 (ar (aw 6 (fFz (f2 aL (fCB a8 (ac (f2 dIx (ad 1) (fC (.int 0))) ah)) (fC (.int 1)))))
 (ar (dY (aq 1 (dk a) (ac (ad 6) ah)))
 (ar (dY (aq 3 (db a) (ac (ad 1) (ac (ad 5) (ac (f2 cR (ad 6) (fC (.int 1))) ah)))))
 (ar (dY (aq 3 (db a) (ac (ad 2) (ac (f2 cR (ad 5) (fC (.int 1))) (ac (ad 6) ah)))))
 (ar (dY (aq 2 (cT a) (ac (ad 3) (ac (ad 5) ah))))
 (ar (dY (aq 2 (cT a) (ac (ad 4) (ac (ad 5) ah))))
 (ar (gIf (ft2 (eM true) (fCB a8 (ac (ad 3) ah)) (fCB a8 (ac (ad 4) ah))) (fun _=>.exc (.ref a.BadNet)) aP)
 (ar (fB 0 a.Net "right" (aK 1 [] (aH (ad 1)) (au 0) aM (fCB ck (ac (ad 0) ah))))
 (ar (fB 0 a.Net "up" (aK 1 [] (aH (ad 2)) (au 0) aM (fCB ck (ac (ad 0) ah))))
 (ar (fB 0 a.Net "starts" (fCB ck (ac (ad 3) ah)))
 (ar (fB 0 a.Net "ends" (fCB ck (ac (ad 4) ah)))
 (ar (fB 0 a.Net "columns" (ad 6))
 (fB 0 a.Net "rows" (ad 5))))))))))))))))
def jc(a:Ads):Addr->List D->Res (List (Str × D)):=dC a.Net 7 (ui a)
theorem wf:FnScope ["self", "right", "up", "starts", "ends", "rows", "columns"] ["self", "right", "up", "starts", "ends"] (az (jP 10 0)):=⟨rfl,rfl,rfl,by decide +kernel,rfl,by decide +kernel,by decide +kernel⟩
theorem B5(B:Bl K mg a)(U:∃ f fd,Fun K "__init__" "Net.__init__" (jP 10 0) f fd/\mg "Net" = some (.ref a.Net)/\Mk K a.Net f/\Binds K fd ["self", "right", "up", "starts", "ends"] [])(c_check_border:Cal P w K mg base "check_border" 2 (cT a) 1)(c_check_side:Cal P w K mg base "check_side" 1 (dk a) 1)(c_check_steps:Cal P w K mg base "check_steps" 3 (db a) 1):Mak P w K mg base "Net" a.Net 4 (jc a) 2:=by
 refine Dt (k:=1) (N:=["self", "right", "up", "starts", "ends", "rows", "columns"]) U wf rfl fun f cdv A outer s H H0 E Ex hE hr=>?_;have sc:=wf;exact (am (iA (aE c_check_side (aT hE) (hr.mono (by decide)) rfl (ag (aV cc bq rfl B.b_len (by decide +kernel) (ag (af 1 (mv 1)) ak)) ak)))
  (am (aF (i:=5) sc.nd rfl (.inl rfl) (aQ (aV cc bq rfl B.b_len (by decide +kernel) (ag (af 1 (mv 1)) ak))))
  (am (aF (i:=6) sc.nd rfl (.inl rfl) (aQ (aI bu aS (aV cc bq rfl B.b_len (by decide +kernel) (ag (aG (af 1 (mv 1)) aj) ak)) aj)))
  (am (iA (aE c_check_side (aT hE) (hr.mono (by decide)) rfl (ag (af 6 (mv 6)) ak)))
  (am (iA (aE c_check_steps (aT hE) (hr.mono (by decide)) rfl (ag (af 1 (mv 1)) (ag (af 5 (mv 5)) (ag (aI eP (aJ _ _) (af 6 (mv 6)) aj) ak)))))
  (am (iA (aE c_check_steps (aT hE) (hr.mono (by decide)) rfl (ag (af 2 (mv 2)) (ag (aI eP (aJ _ _) (af 5 (mv 5)) aj) (ag (af 6 (mv 6)) ak)))))
  (am (iA (aE c_check_border (aT hE) (hr.mono (by decide)) rfl (ag (af 3 (mv 3)) (ag (af 5 (mv 5)) ak))))
  (am (iA (aE c_check_border (aT hE) (hr.mono (by decide)) rfl (ag (af 4 (mv 4)) (ag (af 5 (mv 5)) ak))))
  (am (bX (bx kg (gE _) (aV cc bq rfl B.b_len (by decide +kernel) (ag (af 3 (mv 3)) ak)) (aV cc bq rfl B.b_len (by decide +kernel) (ag (af 4 (mv 4)) ak)) (be _)) (av (fM B.x_BadNet hE rfl)) bn)
  (am (jt (mv 0) (cX rfl (CompScope.of (own:=["weights"]) (cap:=[]) rfl (by decide +kernel) rfl rfl (by decide +kernel)) (bN (af 1 (mv 1))) (fun C cells s0 H0 ex pn hN=>⟨(aO (i:=0) hN rfl (by first | exact Or.inl rfl | exact Or.inr rfl)),bW,(cE eZ dB rfl B.b_list (by decide +kernel) (ag (af 0 (mv 0)) ak))⟩)) B.cl_Net B.na_Net_right)
  (am (jt (mv 0) (cX rfl (CompScope.of (own:=["weights"]) (cap:=[]) rfl (by decide +kernel) rfl rfl (by decide +kernel)) (bN (af 2 (mv 2))) (fun C cells s0 H0 ex pn hN=>⟨(aO (i:=0) hN rfl (by first | exact Or.inl rfl | exact Or.inr rfl)),bW,(cE eZ dB rfl B.b_list (by decide +kernel) (ag (af 0 (mv 0)) ak))⟩)) B.cl_Net B.na_Net_up)
  (am (jt (mv 0) (cE eZ dB rfl B.b_list (by decide +kernel) (ag (af 3 (mv 3)) ak)) B.cl_Net B.na_Net_starts)
  (am (jt (mv 0) (cE eZ dB rfl B.b_list (by decide +kernel) (ag (af 4 (mv 4)) ak)) B.cl_Net B.na_Net_ends)
  (am (jt (mv 0) (af 6 (mv 6)) B.cl_Net B.na_Net_columns)
  (av (jt (mv 0) (af 5 (mv 5)) B.cl_Net B.na_Net_rows))))))))))))))))
def oU(a:Ads):ae->FOut:=
 (ar (aw 3 (bv (ac (f2 dIx (ad 2) (fC (.int 0))) ah)))
 (ar (bA (iK (ac (fC (.int 1)) (ac (f1 (ci a.Net "rows") (ad 0)) ah))) (au 4) (cZ 3 (f2 aL (f2 dIx (ad 2) (ad 4)) (f2 bB (f2 dIx (ad 3) (f2 cR (ad 4) (fC (.int 1)))) (f2 dIx (f2 dIx (f1 (ci a.Net "up") (ad 0)) (f2 cR (ad 4) (fC (.int 1)))) (ad 1))))))
 (pI 3)))
def eV(a:Ads):List D->Res D:=bj 5 (oU a)
theorem mM:FnScope ["net", "x", "arrived", "sums", "y"] ["net", "x", "arrived"] (az (top 12)):=⟨rfl,rfl,rfl,by decide +kernel,rfl,by decide +kernel,by decide +kernel⟩
theorem uj(B:Bl K mg a)(U:Df K mg "climbed" (top 12) ["net", "x", "arrived"])  : Cal P w K mg base "climbed" 3 (eV a) 1:=by
 refine bK (k:=0) (N:=["net", "x", "arrived", "sums", "y"]) U mM fun f cdv A outer s H E Ex hE hr=>?_;have sc:=mM;exact (am (aF (i:=3) sc.nd rfl (.inl rfl) (cr (ag (aG (af 2 (mv 2)) aj) ak)))
  (am (bZ cC rfl (i6 rfl B.b_range (ag aj (ag (eB (af 0 (mv 0)) B.cl_Net B.na_Net_rows) ak))) (aO (i:=4) sc.nd rfl (.inl rfl)) (av (hG (mv 3) (aI bu aS (aG (af 2 (mv 2)) (af 4 (mv 4))) (aI df (aJ _ _) (aG (af 3 (mv 3)) (aI eP (aJ _ _) (af 4 (mv 4)) aj)) (aG (aG (eB (af 0 (mv 0)) B.cl_Net B.na_Net_up) (aI eP (aJ _ _) (af 4 (mv 4)) aj)) (af 1 (mv 1))))))))
  (av (sk 3 (mv 3)))))
def fR(a:Ads):ae->FOut:=
 (ar (aw 2 (fFz (aq 3 (eV a) (ac (ad 0) (ac (fC (.int 0)) (ac (aK 1 [1] (b7 (ac (f1 (ci a.Net "rows") (ad 0)) ah)) (au 0) aM (fIf (ft2 dEq (ad 0) (ad 1)) (fC (.int 1)) (fC (.int 0)))) ah))))))
 (ar (bA (iK (ac (fC (.int 1)) (ac (f1 (ci a.Net "columns") (ad 0)) ah))) (au 3) (ar (aw 4 (fFz (aK 1 [0,2,3] (b7 (ac (f1 (ci a.Net "rows") (ad 0)) ah)) (au 0) aM (f2 bB (f2 dIx (ad 2) (ad 0)) (f2 dIx (f2 dIx (f1 (ci a.Net "right") (ad 1)) (ad 0)) (f2 cR (ad 3) (fC (.int 1))))))))
 (aw 2 (fFz (aq 3 (eV a) (ac (ad 0) (ac (ad 3) (ac (ad 4) ah))))))))
 (bc (ad 2))))
def cB(a:Ads):List D->Res D:=bj 5 (fR a)
theorem fH:FnScope ["net", "start", "sums", "x", "arrived"] ["net", "start"] (az (top 13)):=⟨rfl,rfl,rfl,by decide +kernel,rfl,by decide +kernel,by decide +kernel⟩
theorem jo(B:Bl K mg a)(U:Df K mg "sums_on_last_column" (top 13) ["net", "start"])(c_climbed:Cal P w K mg base "climbed" 3 (eV a) 1):Cal P w K mg base "sums_on_last_column" 2 (cB a) 2:=by
 refine bK (k:=1) (N:=["net", "start", "sums", "x", "arrived"]) U fH fun f cdv A outer s H E Ex hE hr=>?_;have sc:=fH
 exact (am (aF (i:=2) sc.nd rfl (.inr rfl) (aQ (aE c_climbed (aT hE) (hr.mono (by decide)) rfl (ag (af 0 (mv 0)) (ag aj (ag (cX rfl (CompScope.of (own:=["y"]) (cap:=[("start", 1)]) rfl (by decide +kernel) rfl rfl (by decide +kernel)) (cW rfl B.b_range (ag (eB (af 0 (mv 0)) B.cl_Net B.na_Net_rows) ak)) (fun C cells s0 H0 ex pn hN=>⟨(aO (i:=0) hN rfl (by first | exact Or.inl rfl | exact Or.inr rfl)),bW,(qf (bx (eO (hu4 hr)) c0 (af 0 (mv 0)) (af 1 (mv 1)) (be _)) aj aj)⟩)) ak))))))
  (am (bZ cC rfl (i6 rfl B.b_range (ag aj (ag (eB (af 0 (mv 0)) B.cl_Net B.na_Net_columns) ak))) (aO (i:=3) sc.nd rfl (.inr rfl)) (am (iC (dZ (i:=4) sc.nd rfl (.inl rfl) rfl (CompScope.of (own:=["y"]) (cap:=[("net", 0),("sums", 2),("x", 3)]) rfl (by decide +kernel) rfl rfl (by decide +kernel)) (cW rfl B.b_range (ag (eB (af 0 (mv 0)) B.cl_Net B.na_Net_rows) ak)) (fun C cells s0 H0 ex pn hN=>⟨(aO (i:=0) hN rfl (by first | exact Or.inl rfl | exact Or.inr rfl)),bW,(aI df (aJ _ _) (aG (af 2 (mv 2)) (af 0 (mv 0))) (aG (aG (eB (af 1 (mv 1)) B.cl_Net B.na_Net_right) (af 0 (mv 0))) (aI eP (aJ _ _) (af 3 (mv 3)) aj)))⟩)))
  (av (aF (i:=2) sc.nd rfl (.inr rfl) (aQ (aE c_climbed (aT hE) (hr.mono (by decide)) rfl (ag (af 0 (mv 0)) (ag (af 3 (mv 3)) (ag (af 4 (mv 4)) ak)))))))))
  (av (a7 (af 2 (mv 2))))))
def sI(a:Ads):ae->FOut:=
 (ar (aw 1 (bv ah))
 (ar (bA (aH (f1 (ci a.Net "starts") (ad 0))) (au 2) (ar (aw 3 (fFz (aq 2 (cB a) (ac (ad 0) (ac (ad 2) ah)))))
 (cZ 1 (aK 1 [3] (aH (f1 (ci a.Net "ends") (ad 0))) (au 0) aM (f2 dIx (ad 1) (ad 0))))))
 (pI 1)))
def lu(a:Ads):List D->Res D:=bj 4 (sI a)
theorem qz:FnScope ["net", "found", "start", "sums"] ["net"] (az (top 14)):=⟨rfl,rfl,rfl,by decide +kernel,rfl,by decide +kernel,by decide +kernel⟩
theorem xX(B:Bl K mg a)(U:Df K mg "table" (top 14) ["net"])(c_sums_on_last_column:Cal P w K mg base "sums_on_last_column" 2 (cB a) 2):Cal P w K mg base "table" 1 (lu a) 3:=by
 refine bK (k:=2) (N:=["net", "found", "start", "sums"]) U qz fun f cdv A outer s H E Ex hE hr=>?_;have sc:=qz;exact (am (aF (i:=1) sc.nd rfl (.inl rfl) (cr ak))
  (am (bZ cC rfl (bN (eB (af 0 (mv 0)) B.cl_Net B.na_Net_starts)) (aO (i:=2) sc.nd rfl (.inl rfl)) (am (aF (i:=3) sc.nd rfl (.inr rfl) (aQ (aE c_sums_on_last_column (aT hE) (hr.mono (by decide)) rfl (ag (af 0 (mv 0)) (ag (af 2 (mv 2)) ak)))))
  (av (hG (mv 1) (cX rfl (CompScope.of (own:=["end"]) (cap:=[("sums", 3)]) rfl (by decide +kernel) rfl rfl (by decide +kernel)) (bN (eB (af 0 (mv 0)) B.cl_Net B.na_Net_ends)) (fun C cells s0 H0 ex pn hN=>⟨(aO (i:=0) hN rfl (by first | exact Or.inl rfl | exact Or.inr rfl)),bW,(aG (af 1 (mv 1)) (af 0 (mv 0)))⟩))))))
  (av (sk 1 (mv 1)))))
def hW(a:Ads):ae->FOut:=
 (ar (bA (eT (ac (ad 0) ah)) (bG [1,2]) (gIf (ft2 (eM true) (f2 dIx (ad 2) (fC (.int 0))) (fC (.int 0))) (bc (ad 1)) aP))
 (bc (fC .non)))
def bz(a:Ads):List D->Res D:=bj 3 (hW a)
theorem gu:FnScope ["rows", "number", "row"] ["rows"] (az (top 15)):=⟨rfl,rfl,rfl,by decide +kernel,rfl,by decide +kernel,by decide +kernel⟩
theorem j4(B:Bl K mg a)(U:Df K mg "first_row_to_use" (top 15) ["rows"])  : Cal P w K mg base "first_row_to_use" 1 (bz a) 1:=by
 refine bK (k:=0) (N:=["rows", "number", "row"]) U gu fun f cdv A outer s H E Ex hE hr=>?_;have sc:=gu;exact (am (bZ cC rfl (sE rfl B.b_enumerate (ag (af 0 (mv 0)) ak)) (gY (is:=[1,2]) rfl (cg (i:=1) (cL (i:=1) sc.nd rfl (.inl rfl)) (cg (i:=2) (cL (i:=2) sc.nd rfl (.inl rfl)) fQ))) (av (bX (bx kg (gE _) (aG (af 2 (mv 2)) aj) aj (be _)) (av (a7 (af 1 (mv 1)))) bn)))
  (av (a7 jp)))
def oV(a:Ads):ae->FOut:=
 (bc (aK 1 [0,1,2] (iK (ac (fC (.int 1)) (ac (fCB a8 (ac (ad 0) ah)) ah))) (au 0) aM (f2 ju (f2 cR (f2 jN (f2 dIx (ad 2) (fC (.int 0))) (f2 dIx (ad 1) (ad 0))) (f2 jN (f2 dIx (ad 1) (fC (.int 0))) (f2 dIx (ad 2) (ad 0)))) (ad 3))))
def eW(a:Ads):List D->Res D:=bj 3 (oV a)
theorem mO:FnScope ["row", "top", "divisor"] ["row", "top", "divisor"] (az (top 16)):=⟨rfl,rfl,rfl,by decide +kernel,rfl,by decide +kernel,by decide +kernel⟩
theorem uk(B:Bl K mg a)(U:Df K mg "reduced" (top 16) ["row", "top", "divisor"])  : Cal P w K mg base "reduced" 3 (eW a) 1:=by
 refine bK (k:=0) (N:=["row", "top", "divisor"]) U mO fun f cdv A outer s H E Ex hE hr=>?_;have sc:=mO
 exact (av (a7 (cX rfl (CompScope.of (own:=["k"]) (cap:=[("row", 0),("top", 1),("divisor", 2)]) rfl (by decide +kernel) rfl rfl (by decide +kernel)) (i6 rfl B.b_range (ag aj (ag (aV cc bq rfl B.b_len (by decide +kernel) (ag (af 0 (mv 0)) ak)) ak))) (fun C cells s0 H0 ex pn hN=>⟨(aO (i:=0) hN rfl (by first | exact Or.inl rfl | exact Or.inr rfl)),bW,(aI xT (aJ _ _) (aI eP (aJ _ _) (aI sF (aJ _ _) (aG (af 2 (mv 2)) aj) (aG (af 1 (mv 1)) (af 0 (mv 0)))) (aI sF (aJ _ _) (aG (af 1 (mv 1)) aj) (aG (af 2 (mv 2)) (af 0 (mv 0))))) (af 3 (mv 3)))⟩))))
def yQ(a:Ads):ae->FOut:=
 (ar (aw 1 (fCB ck (ac (ad 0) ah)))
 (ar (aw 2 (fFz (fC (.int 1))))
 (ar (aw 3 (fFz (fC (.int 1))))
 (ar (mJ (ft2 dGt (fCB a8 (ac (ad 1) ah)) (fC (.int 0))) (ar (aw 4 (fFz (aq 1 (bz a) (ac (ad 1) ah))))
 (ar (gIf (ft2 (kn false) (ad 4) (fC .non)) (bc (fC (.int 0))) aP)
 (ar (gIf (ft2 dEq (f2 cS (ad 4) (fC (.int 2))) (fC (.int 1))) (aw 2 (fFz (f1 l8 (ad 2)))) aP)
 (ar (nQ 5 1 (ad 4))
 (ar (fun ρ=>(jv 1 (aw 1 (aK 1 [3,5] (aH (ad 1)) (au 0) aM (ce 3 (eW a) (ac (ad 0) (ac (ad 2) (ac (ad 1) ah))))))) (frzAt 1 ρ))
 (aw 3 (fFz (f2 dIx (ad 5) (fC (.int 0)))))))))))
 (bc (f2 bB (ad 2) (ad 3)))))))
def pL(a:Ads):List D->Res D:=bj 6 (yQ a)
theorem wg:FnScope ["square", "rows", "turn", "last", "number", "top"] ["square"] (az (top 17)):=⟨rfl,rfl,rfl,by decide +kernel,rfl,by decide +kernel,by decide +kernel⟩
theorem B6(B:Bl K mg a)(U:Df K mg "det" (top 17) ["square"])(c_first_row_to_use:Cal P w K mg base "first_row_to_use" 1 (bz a) 1)(c_reduced:Cal P w K mg base "reduced" 3 (eW a) 1):Cal P w K mg base "det" 1 (pL a) 2:=by
 refine bK (k:=1) (N:=["square", "rows", "turn", "last", "number", "top"]) U wg fun f cdv A outer s H E Ex hE hr=>?_;have sc:=wg;exact (am (aF (i:=1) sc.nd rfl (.inl rfl) (cE eZ dB rfl B.b_list (by decide +kernel) (ag (af 0 (mv 0)) ak)))
  (am (aF (i:=2) sc.nd rfl (.inl rfl) (aQ aj))
  (am (aF (i:=3) sc.nd rfl (.inr rfl) (aQ aj))
  (am (xR cC (bx mB (aJ _ _) (aV cc bq rfl B.b_len (by decide +kernel) (ag (af 1 (mv 1)) ak)) aj (be _)) (am (aF (i:=4) sc.nd rfl (.inl rfl) (aQ (aE c_first_row_to_use (aT hE) (hr.mono (by decide)) rfl (ag (af 1 (mv 1)) ak))))
  (am (bX (bx vJ (qj _) (af 4 (mv 4)) jp (be _)) (av (a7 aj)) bn)
  (am (bX (bx (eO (hu4 hr)) c0 (aI eQ (aJ _ _) (af 4 (mv 4)) aj) aj (be _)) (av (aF (i:=2) sc.nd rfl (.inl rfl) (aQ (vD (af 2 (mv 2)))))) bn)
  (am (B1 (i:=5) sc.nd rfl (.inr rfl) (mv 1) (af 4 (mv 4)))
  (am (ka 1 (xU 1 (dZ (i:=1) sc.nd rfl (.inl rfl) rfl (CompScope.of (own:=["row"]) (cap:=[("last", 3),("top", 5)]) rfl (by decide +kernel) rfl rfl (by decide +kernel)) (bN (af 1 (mv 1))) (fun C cells s0 H0 ex pn hN=>⟨(aO (i:=0) hN rfl (by first | exact Or.inl rfl | exact Or.inr rfl)),bW,(gF c_reduced (hr.mono (by decide)) rfl (ag (af 0 (mv 0)) (ag (af 2 (mv 2)) (ag (af 1 (mv 1)) ak))))⟩))))
  (av (aF (i:=3) sc.nd rfl (.inr rfl) (aQ (aG (af 5 (mv 5)) aj))))))))))
  (av (a7 (aI df (aJ _ _) (af 2 (mv 2)) (af 3 (mv 3)))))))))
def jZ(a:Ads):ae->FOut:=
 (bc (aq 1 (pL a) (ac (aq 1 (lu a) (ac (ad 0) ah)) ah)))
def cN(a:Ads):List D->Res D:=bj 1 (jZ a)
theorem jx:FnScope ["net"] ["net"] (az (top 18)):=⟨rfl,rfl,rfl,by decide +kernel,rfl,by decide +kernel,by decide +kernel⟩
theorem nT(B:Bl K mg a)(U:Df K mg "lone_weight" (top 18) ["net"])(c_det:Cal P w K mg base "det" 1 (pL a) 2)(c_table:Cal P w K mg base "table" 1 (lu a) 3):Cal P w K mg base "lone_weight" 1 (cN a) 4:=by
 refine bK (k:=3) (N:=["net"]) U jx fun f cdv A outer s H E Ex hE hr=>?_;have sc:=jx;exact (av (a7 (aE c_det (aT hE) (hr.mono (by decide)) rfl (ag (aE c_table (aT hE) (hr.mono (by decide)) rfl (ag (af 0 (mv 0)) ak)) ak))))
def jd(a:Ads):ae->FOut:=
 (bc (aK 1 [] (aH (ad 0)) (au 0) aM (fCB gQ (ac (ad 0) (ac (fC (.int 1)) ah)))))
def cF(a:Ads):List D->Res D:=bj 1 (jd a)
theorem iR:FnScope ["weights"] ["weights"] (az (top 19)):=⟨rfl,rfl,rfl,by decide +kernel,rfl,by decide +kernel,by decide +kernel⟩
theorem md(B:Bl K mg a)(U:Df K mg "ones_for_open" (top 19) ["weights"])  : Cal P w K mg base "ones_for_open" 1 (cF a) 1:=by
 refine bK (k:=0) (N:=["weights"]) U iR fun f cdv A outer s H E Ex hE hr=>?_;have sc:=iR
 exact (av (a7 (cX rfl (CompScope.of (own:=["weight"]) (cap:=[]) rfl (by decide +kernel) rfl rfl (by decide +kernel)) (bN (af 0 (mv 0))) (fun C cells s0 H0 ex pn hN=>⟨(aO (i:=0) hN rfl (by first | exact Or.inl rfl | exact Or.inr rfl)),bW,(aV (su rfl) oM rfl B.b_min (by decide +kernel) (ag (af 0 (mv 0)) (ag aj ak)))⟩))))
def mP(a:Ads):ae->FOut:=
 (ar (aw 1 (fFz (aK 1 [] (aH (f1 (ci a.Net "right") (ad 0))) (au 0) aM (ce 1 (cF a) (ac (ad 0) ah)))))
 (ar (aw 2 (fFz (aK 1 [] (aH (f1 (ci a.Net "up") (ad 0))) (au 0) aM (ce 1 (cF a) (ac (ad 0) ah)))))
 (bc (aq 1 (cN a) (ac (lm a.Net 4 (jc a) (ac (ad 1) (ac (ad 2) (ac (f1 (ci a.Net "starts") (ad 0)) (ac (f1 (ci a.Net "ends") (ad 0)) ah))))) ah)))))
def ge(a:Ads):List D->Res D:=bj 3 (mP a)
theorem lN:FnScope ["net", "right", "up"] ["net"] (az (top 20)):=⟨rfl,rfl,rfl,by decide +kernel,rfl,by decide +kernel,by decide +kernel⟩
theorem rO(B:Bl K mg a)(U:Df K mg "how_many" (top 20) ["net"])(c_Net:Mak P w K mg base "Net" a.Net 4 (jc a) 2)(c_lone_weight:Cal P w K mg base "lone_weight" 1 (cN a) 4)(c_ones_for_open:Cal P w K mg base "ones_for_open" 1 (cF a) 1):Cal P w K mg base "how_many" 1 (ge a) 5:=by
 refine bK (k:=4) (N:=["net", "right", "up"]) U lN fun f cdv A outer s H E Ex hE hr=>?_;have sc:=lN
 exact (am (iC (dZ (i:=1) sc.nd rfl (.inl rfl) rfl (CompScope.of (own:=["weights"]) (cap:=[]) rfl (by decide +kernel) rfl rfl (by decide +kernel)) (bN (eB (af 0 (mv 0)) B.cl_Net B.na_Net_right)) (fun C cells s0 H0 ex pn hN=>⟨(aO (i:=0) hN rfl (by first | exact Or.inl rfl | exact Or.inr rfl)),bW,(gF c_ones_for_open (hr.mono (by decide)) rfl (ag (af 0 (mv 0)) ak))⟩)))
  (am (iC (dZ (i:=2) sc.nd rfl (.inl rfl) rfl (CompScope.of (own:=["weights"]) (cap:=[]) rfl (by decide +kernel) rfl rfl (by decide +kernel)) (bN (eB (af 0 (mv 0)) B.cl_Net B.na_Net_up)) (fun C cells s0 H0 ex pn hN=>⟨(aO (i:=0) hN rfl (by first | exact Or.inl rfl | exact Or.inr rfl)),bW,(gF c_ones_for_open (hr.mono (by decide)) rfl (ag (af 0 (mv 0)) ak))⟩)))
  (av (a7 (aE c_lone_weight (aT hE) (hr.mono (by decide)) rfl (ag (sw c_Net (aT hE) (hr.mono (by decide)) rfl (ag (af 1 (mv 1)) (ag (af 2 (mv 2)) (ag (eB (af 0 (mv 0)) B.cl_Net B.na_Net_starts) (ag (eB (af 0 (mv 0)) B.cl_Net B.na_Net_ends) ak))))) ak))))))
def gJ(a:Ads):ae->FOut:=
 (ar (gIf (ft2 dLt (ad 1) (fCB a8 (ac (ad 0) ah))) (bc (f2 dIx (ad 0) (ad 1))) aP)
 (bc (fC (.int 0))))
def aA(a:Ads):List D->Res D:=bj 2 (gJ a)
theorem je:FnScope ["script", "k"] ["script", "k"] (az (top 22)):=⟨rfl,rfl,rfl,by decide +kernel,rfl,by decide +kernel,by decide +kernel⟩
theorem mQ(B:Bl K mg a)(U:Df K mg "_law_cell_at" (top 22) ["script", "k"])  : Cal P w K mg base "_law_cell_at" 2 (aA a) 1:=by
 refine bK (k:=0) (N:=["script", "k"]) U je fun f cdv A outer s H E Ex hE hr=>?_;have sc:=je;exact (am (bX (bx t8 (aJ _ _) (af 1 (mv 1)) (aV cc bq rfl B.b_len (by decide +kernel) (ag (af 0 (mv 0)) ak)) (be _)) (av (a7 (aG (af 0 (mv 0)) (af 1 (mv 1))))) bn)
  (av (a7 aj)))
def mR(a:Ads):ae->FOut:=
 (ar (aw 3 (fFz (bv (ac (fC (.int 48271)) (ac (fC (.int 69621)) (ac (fC (.int 16807)) (ac (fC (.int 39373)) (ac (fC (.int 30269)) (ac (fC (.int 40014)) (ac (fC (.int 40692)) (ac (fC (.int 50021)) (ac (fC (.int 61687)) (ac (fC (.int 71993)) (ac (fC (.int 83869)) (ac (fC (.int 95561)) (ac (fC (.int 30307)) ah))))))))))))))))
 (ar (aw 4 (fFz (f2 bB (f2 aL (f2 cS (ad 0) (fC (.int 2147483647))) (fC (.int 12345))) (f2 dIx (ad 3) (f2 cS (ad 1) (fC (.int 13)))))))
 (ar (aw 4 (fFz (f2 aL (f2 bB (ad 4) (f2 aL (f2 bB (fC (.int 2)) (f2 mz (ad 1) (fC (.int 13)))) (fC (.int 1)))) (f2 bB (fC (.int 977)) (ad 1)))))
 (bc (f2 cS (f2 mz (f2 cS (ad 4) (fC (.int 1000000007))) (fC (.int 7))) (ad 2))))))
def b9(a:Ads):List D->Res D:=bj 5 (mR a)
theorem lO:FnScope ["cell", "k", "many", "some", "number"] ["cell", "k", "many"] (az (top 23)):=⟨rfl,rfl,rfl,by decide +kernel,rfl,by decide +kernel,by decide +kernel⟩
theorem rP(B:Bl K mg a)(U:Df K mg "_law_mix" (top 23) ["cell", "k", "many"])  : Cal P w K mg base "_law_mix" 3 (b9 a) 1:=by
 refine bK (k:=0) (N:=["cell", "k", "many", "some", "number"]) U lO fun f cdv A outer s H E Ex hE hr=>?_;have sc:=lO;exact (am (aF (i:=3) sc.nd rfl (.inl rfl) (aQ (cr (ag aj (ag aj (ag aj (ag aj (ag aj (ag aj (ag aj (ag aj (ag aj (ag aj (ag aj (ag aj (ag aj ak))))))))))))))))
  (am (aF (i:=4) sc.nd rfl (.inl rfl) (aQ (aI df (aJ _ _) (aI bu aS (aI eQ (aJ _ _) (af 0 (mv 0)) aj) aj) (aG (af 3 (mv 3)) (aI eQ (aJ _ _) (af 1 (mv 1)) aj)))))
  (am (aF (i:=4) sc.nd rfl (.inl rfl) (aQ (aI bu aS (aI df (aJ _ _) (af 4 (mv 4)) (aI bu aS (aI df (aJ _ _) aj (aI se (aJ _ _) (af 1 (mv 1)) aj)) aj)) (aI df (aJ _ _) aj (af 1 (mv 1))))))
  (av (a7 (aI eQ (aJ _ _) (aI se (aJ _ _) (aI eQ (aJ _ _) (af 4 (mv 4)) aj) aj) (af 2 (mv 2))))))))
def kA(a:Ads):ae->FOut:=
 (bc (l7 (f1 (nP "int") (ad 0)) (ub (f1 (nP "bool") (ad 0)))))
def dl(a:Ads):List D->Res D:=bj 1 (kA a)
theorem j0:FnScope ["found"] ["found"] (az (top 24)):=⟨rfl,rfl,rfl,by decide +kernel,rfl,by decide +kernel,by decide +kernel⟩
theorem pv(B:Bl K mg a)(U:Df K mg "_law_whole" (top 24) ["found"])  : Cal P w K mg base "_law_whole" 1 (dl a) 1:=by
 refine bK (k:=0) (N:=["found"]) U j0 fun f cdv A outer s H E Ex hE hr=>?_;have sc:=j0;exact (av (a7 (vC (vI B.k_int (af 0 (mv 0)) rfl B.b_isinstance rfl B.b_int (by decide +kernel)) (vB (BM (vI B.k_bool (af 0 (mv 0)) rfl B.b_isinstance rfl B.b_bool (by decide +kernel)))))))
def gK(a:Ads):ae->FOut:=
 (ar (aw 3 (eJ (ac (ad 2) ah)))
 (ar (aw 4 (bv ah))
 (ar (bA (b7 (ac (ad 1) ah)) (au 5) (eK 4 3 (aq 3 (b9 a) (ac (ad 0) (ac (f2 bB (fC (.int 7)) (ad 5)) (ac (fCB a8 (ac (ad 3) ah)) ah))))))
 (bc (fCB eh (ac (ad 4) ah))))))
def cb(a:Ads):List D->Res D:=bj 6 (gK a)
theorem jf:FnScope ["cell", "many", "rows", "left", "found", "k"] ["cell", "many", "rows"] (az (top 25)):=⟨rfl,rfl,rfl,by decide +kernel,rfl,by decide +kernel,by decide +kernel⟩
theorem mS(B:Bl K mg a)(U:Df K mg "_law_rows_by" (top 25) ["cell", "many", "rows"])(c__law_mix:Cal P w K mg base "_law_mix" 3 (b9 a) 1):Cal P w K mg base "_law_rows_by" 3 (cb a) 2:=by
 refine bK (k:=1) (N:=["cell", "many", "rows", "left", "found", "k"]) U jf fun f cdv A outer s H E Ex hE hr=>?_;have sc:=jf;exact (am (aF (i:=3) sc.nd rfl (.inl rfl) (oO rfl rfl B.b_range rfl B.b_list (ag (af 2 (mv 2)) ak)))
  (am (aF (i:=4) sc.nd rfl (.inl rfl) (cr ak))
  (am (bZ cC rfl (cW rfl B.b_range (ag (af 1 (mv 1)) ak)) (aO (i:=5) sc.nd rfl (.inl rfl)) (av (vL (mv 4) (mv 3) (aE c__law_mix (aT hE) (hr.mono (by decide)) rfl (ag (af 0 (mv 0)) (ag (aI df (aJ _ _) aj (af 5 (mv 5))) (ag (aV cc bq rfl B.b_len (by decide +kernel) (ag (af 3 (mv 3)) ak)) ak)))))))
  (av (a7 (aV ud qh rfl B.b_sorted (by decide +kernel) (ag (af 4 (mv 4)) ak)))))))
def fm(a:Ads):ae->FOut:=
 (ar (aw 3 (fFz (aq 3 (b9 a) (ac (ad 0) (ac (ad 1) (ac (ad 2) ah))))))
 (ar (gIf (ft2 dEq (ad 3) (fC (.int 0))) (bc (fC (.int 0))) aP)
 (ar (gIf (ft2 dEq (ad 3) (fC (.int 1))) (bc (f2 dIx (bv (ac (fC (.int 1000)) (ac (f2 cS (ad 0) (fC (.int 1001))) ah))) (aq 3 (b9 a) (ac (ad 0) (ac (f2 aL (ad 1) (fC (.int 500))) (ac (fC (.int 2)) ah)))))) aP)
 (bc (f2 aL (fC (.int 1)) (aq 3 (b9 a) (ac (ad 0) (ac (f2 aL (ad 1) (fC (.int 900))) (ac (fC (.int 5)) ah)))))))))
def bO(a:Ads):List D->Res D:=bj 4 (fm a)
theorem jg:FnScope ["cell", "k", "shut", "kind"] ["cell", "k", "shut"] (az (top 26)):=⟨rfl,rfl,rfl,by decide +kernel,rfl,by decide +kernel,by decide +kernel⟩
theorem mT(B:Bl K mg a)(U:Df K mg "_law_step_by" (top 26) ["cell", "k", "shut"])(c__law_mix:Cal P w K mg base "_law_mix" 3 (b9 a) 1):Cal P w K mg base "_law_step_by" 3 (bO a) 2:=by
 refine bK (k:=1) (N:=["cell", "k", "shut", "kind"]) U jg fun f cdv A outer s H E Ex hE hr=>?_;have sc:=jg;exact (am (aF (i:=3) sc.nd rfl (.inl rfl) (aQ (aE c__law_mix (aT hE) (hr.mono (by decide)) rfl (ag (af 0 (mv 0)) (ag (af 1 (mv 1)) (ag (af 2 (mv 2)) ak))))))
  (am (bX (bx (eO (hu4 hr)) c0 (af 3 (mv 3)) aj (be _)) (av (a7 aj)) bn)
  (am (bX (bx (eO (hu4 hr)) c0 (af 3 (mv 3)) aj (be _)) (av (a7 (aG (cr (ag aj (ag (aI eQ (aJ _ _) (af 0 (mv 0)) aj) ak))) (aE c__law_mix (aT hE) (hr.mono (by decide)) rfl (ag (af 0 (mv 0)) (ag (aI bu aS (af 1 (mv 1)) aj) (ag aj ak))))))) bn)
  (av (a7 (aI bu aS aj (aE c__law_mix (aT hE) (hr.mono (by decide)) rfl (ag (af 0 (mv 0)) (ag (aI bu aS (af 1 (mv 1)) aj) (ag aj ak))))))))))
def gf(a:Ads):ae->FOut:=
 (ar (aw 4 (fFz (f2 aL (fC (.int 1)) (f2 cS (aq 2 (aA a) (ac (ad 0) (ac (fC (.int 0)) ah))) (ad 1)))))
 (ar (aw 5 (fFz (f2 aL (fC (.int 1)) (f2 cS (aq 2 (aA a) (ac (ad 0) (ac (fC (.int 1)) ah))) (ad 1)))))
 (ar (aw 6 (fFz (aq 2 (aA a) (ac (ad 0) (ac (fC (.int 2)) ah)))))
 (ar (aw 7 (fFz (aK 1 [3,4,6] (b7 (ac (ad 5) ah)) (au 0) aM (aK 1 [0,1,3] (b7 (ac (f2 cR (ad 2) (fC (.int 1))) ah)) (au 0) aM (ce 3 (bO a) (ac (ad 3) (ac (f2 aL (f2 bB (fC (.int 10)) (ad 1)) (ad 0)) (ac (ad 2) ah))))))))
 (ar (aw 6 (fFz (aq 2 (aA a) (ac (ad 0) (ac (fC (.int 3)) ah)))))
 (ar (aw 8 (fFz (aK 1 [3,4,6] (b7 (ac (f2 cR (ad 5) (fC (.int 1))) ah)) (au 0) aM (aK 1 [0,1,3] (b7 (ac (ad 2) ah)) (au 0) aM (ce 3 (bO a) (ac (ad 3) (ac (f2 aL (f2 aL (fC (.int 200)) (f2 bB (fC (.int 10)) (ad 1))) (ad 0)) (ac (ad 2) ah))))))))
 (ar (aw 9 (fFz (f2 aL (fC (.int 1)) (f2 cS (aq 2 (aA a) (ac (ad 0) (ac (fC (.int 4)) ah))) (fCB gQ (ac (ad 2) (ac (ad 5) ah)))))))
 (ar (aw 10 (fFz (aq 3 (cb a) (ac (aq 2 (aA a) (ac (ad 0) (ac (fC (.int 5)) ah))) (ac (ad 9) (ac (ad 5) ah))))))
 (ar (aw 11 (fFz (aq 3 (cb a) (ac (aq 2 (aA a) (ac (ad 0) (ac (fC (.int 6)) ah))) (ac (ad 9) (ac (ad 5) ah))))))
 (ar (gIf (ft2 dGt (f2 cS (aq 2 (aA a) (ac (ad 0) (ac (fC (.int 7)) ah))) (fC (.int 3))) (fC (.int 0))) (ar (aw 10 (fFz (eJ (ac (ad 9) ah))))
 (aw 11 (fFz (aK 1 [5,9] (b7 (ac (ad 9) ah)) (au 0) aM (f2 aL (f2 cR (ad 1) (ad 2)) (ad 0)))))) aP)
 (bc (bY (ac (ad 7) (ac (ad 8) (ac (ad 10) (ac (ad 11) ah))))))))))))))))
def cq(a:Ads):List D->Res D:=bj 12 (gf a)
theorem iS:FnScope ["script", "most", "walkers", "shut", "columns", "rows", "cell", "right", "up", "many", "starts", "ends"] ["script", "most", "walkers", "shut"] (az (top 27)):=⟨rfl,rfl,rfl,by decide +kernel,rfl,by decide +kernel,by decide +kernel⟩
theorem me(B:Bl K mg a)(U:Df K mg "_law_parts_by" (top 27) ["script", "most", "walkers", "shut"])(c__law_cell_at:Cal P w K mg base "_law_cell_at" 2 (aA a) 1)(c__law_rows_by:Cal P w K mg base "_law_rows_by" 3 (cb a) 2)(c__law_step_by:Cal P w K mg base "_law_step_by" 3 (bO a) 2):Cal P w K mg base "_law_parts_by" 4 (cq a) 3:=by
 refine bK (k:=2) (N:=["script", "most", "walkers", "shut", "columns", "rows", "cell", "right", "up", "many", "starts", "ends"]) U iS fun f cdv A outer s H E Ex hE hr=>?_;have sc:=iS;exact (am (aF (i:=4) sc.nd rfl (.inr rfl) (aQ (aI bu aS aj (aI eQ (aJ _ _) (aE c__law_cell_at (aT hE) (hr.mono (by decide)) rfl (ag (af 0 (mv 0)) (ag aj ak))) (af 1 (mv 1))))))
  (am (aF (i:=5) sc.nd rfl (.inr rfl) (aQ (aI bu aS aj (aI eQ (aJ _ _) (aE c__law_cell_at (aT hE) (hr.mono (by decide)) rfl (ag (af 0 (mv 0)) (ag aj ak))) (af 1 (mv 1))))))
  (am (aF (i:=6) sc.nd rfl (.inr rfl) (aQ (aE c__law_cell_at (aT hE) (hr.mono (by decide)) rfl (ag (af 0 (mv 0)) (ag aj ak)))))
  (am (iC (dZ (i:=7) sc.nd rfl (.inl rfl) rfl (CompScope.of (own:=["y"]) (cap:=[("shut", 3),("columns", 4),("cell", 6)]) rfl (by decide +kernel) rfl rfl (by decide +kernel)) (cW rfl B.b_range (ag (af 5 (mv 5)) ak)) (fun C cells s0 H0 ex pn hN=>⟨(aO (i:=0) hN rfl (by first | exact Or.inl rfl | exact Or.inr rfl)),bW,(cX rfl (CompScope.of (own:=["x"]) (cap:=[("y", 0),("shut", 1),("cell", 3)]) rfl (by decide +kernel) rfl rfl (by decide +kernel)) (cW rfl B.b_range (ag (aI eP (aJ _ _) (af 2 (mv 2)) aj) ak)) (fun C cells s0 H0 ex pn hN=>⟨(aO (i:=0) hN rfl (by first | exact Or.inl rfl | exact Or.inr rfl)),bW,(gF c__law_step_by (hr.mono (by decide)) rfl (ag (af 3 (mv 3)) (ag (aI bu aS (aI df (aJ _ _) aj (af 1 (mv 1))) (af 0 (mv 0))) (ag (af 2 (mv 2)) ak))))⟩))⟩)))
  (am (aF (i:=6) sc.nd rfl (.inr rfl) (aQ (aE c__law_cell_at (aT hE) (hr.mono (by decide)) rfl (ag (af 0 (mv 0)) (ag aj ak)))))
  (am (iC (dZ (i:=8) sc.nd rfl (.inl rfl) rfl (CompScope.of (own:=["y"]) (cap:=[("shut", 3),("columns", 4),("cell", 6)]) rfl (by decide +kernel) rfl rfl (by decide +kernel)) (cW rfl B.b_range (ag (aI eP (aJ _ _) (af 5 (mv 5)) aj) ak)) (fun C cells s0 H0 ex pn hN=>⟨(aO (i:=0) hN rfl (by first | exact Or.inl rfl | exact Or.inr rfl)),bW,(cX rfl (CompScope.of (own:=["x"]) (cap:=[("y", 0),("shut", 1),("cell", 3)]) rfl (by decide +kernel) rfl rfl (by decide +kernel)) (cW rfl B.b_range (ag (af 2 (mv 2)) ak)) (fun C cells s0 H0 ex pn hN=>⟨(aO (i:=0) hN rfl (by first | exact Or.inl rfl | exact Or.inr rfl)),bW,(gF c__law_step_by (hr.mono (by decide)) rfl (ag (af 3 (mv 3)) (ag (aI bu aS (aI bu aS aj (aI df (aJ _ _) aj (af 1 (mv 1)))) (af 0 (mv 0))) (ag (af 2 (mv 2)) ak))))⟩))⟩)))
  (am (aF (i:=9) sc.nd rfl (.inr rfl) (aQ (aI bu aS aj (aI eQ (aJ _ _) (aE c__law_cell_at (aT hE) (hr.mono (by decide)) rfl (ag (af 0 (mv 0)) (ag aj ak))) (aV (su rfl) oM rfl B.b_min (by decide +kernel) (ag (af 2 (mv 2)) (ag (af 5 (mv 5)) ak)))))))
  (am (aF (i:=10) sc.nd rfl (.inl rfl) (aQ (aE c__law_rows_by (aT hE) (hr.mono (by decide)) rfl (ag (aE c__law_cell_at (aT hE) (hr.mono (by decide)) rfl (ag (af 0 (mv 0)) (ag aj ak))) (ag (af 9 (mv 9)) (ag (af 5 (mv 5)) ak))))))
  (am (aF (i:=11) sc.nd rfl (.inl rfl) (aQ (aE c__law_rows_by (aT hE) (hr.mono (by decide)) rfl (ag (aE c__law_cell_at (aT hE) (hr.mono (by decide)) rfl (ag (af 0 (mv 0)) (ag aj ak))) (ag (af 9 (mv 9)) (ag (af 5 (mv 5)) ak))))))
  (am (bX (bx mB (aJ _ _) (aI eQ (aJ _ _) (aE c__law_cell_at (aT hE) (hr.mono (by decide)) rfl (ag (af 0 (mv 0)) (ag aj ak))) aj) aj (be _)) (am (aF (i:=10) sc.nd rfl (.inl rfl) (aQ (oO rfl rfl B.b_range rfl B.b_list (ag (af 9 (mv 9)) ak))))
  (av (iC (dZ (i:=11) sc.nd rfl (.inl rfl) rfl (CompScope.of (own:=["k"]) (cap:=[("rows", 5),("many", 9)]) rfl (by decide +kernel) rfl rfl (by decide +kernel)) (cW rfl B.b_range (ag (af 9 (mv 9)) ak)) (fun C cells s0 H0 ex pn hN=>⟨(aO (i:=0) hN rfl (by first | exact Or.inl rfl | exact Or.inr rfl)),bW,(aI bu aS (aI eP (aJ _ _) (af 1 (mv 1)) (af 2 (mv 2))) (af 0 (mv 0)))⟩))))) bn)
  (av (a7 (dh (ag (af 7 (mv 7)) (ag (af 8 (mv 8)) (ag (af 10 (mv 10)) (ag (af 11 (mv 11)) ak)))))))))))))))))
def mU(a:Ads):ae->FOut:=
 (ar (xL 1 2 (ac (aK 1 [] (aH (f2 dIx (ad 0) (fC (.int 0)))) (au 0) aM (fCB ck (ac (ad 0) ah))) (ac (aK 1 [] (aH (f2 dIx (ad 0) (fC (.int 1)))) (au 0) aM (fCB ck (ac (ad 0) ah))) ah)))
 (bc (lm a.Net 4 (jc a) (ac (ad 1) (ac (ad 2) (ac (fCB ck (ac (f2 dIx (ad 0) (fC (.int 2))) ah)) (ac (fCB ck (ac (f2 dIx (ad 0) (fC (.int 3))) ah)) ah)))))))
def gh(a:Ads):List D->Res D:=bj 3 (mU a)
theorem lP:FnScope ["parts", "right", "up"] ["parts"] (az (top 28)):=⟨rfl,rfl,rfl,by decide +kernel,rfl,by decide +kernel,by decide +kernel⟩
theorem rQ(B:Bl K mg a)(U:Df K mg "_law_net" (top 28) ["parts"])(c_Net:Mak P w K mg base "Net" a.Net 4 (jc a) 2):Cal P w K mg base "_law_net" 1 (gh a) 4:=by
 refine bK (k:=3) (N:=["parts", "right", "up"]) U lP fun f cdv A outer s H E Ex hE hr=>?_;have sc:=lP
 exact (am (BQ (i:=1) (j:=2) rfl sc.nd rfl rfl (by decide) rfl rfl (ag (cX rfl (CompScope.of (own:=["row"]) (cap:=[]) rfl (by decide +kernel) rfl rfl (by decide +kernel)) (bN (aG (af 0 (mv 0)) aj)) (fun C cells s0 H0 ex pn hN=>⟨(aO (i:=0) hN rfl (by first | exact Or.inl rfl | exact Or.inr rfl)),bW,(cE eZ dB rfl B.b_list (by decide +kernel) (ag (af 0 (mv 0)) ak))⟩)) (ag (cX rfl (CompScope.of (own:=["row"]) (cap:=[]) rfl (by decide +kernel) rfl rfl (by decide +kernel)) (bN (aG (af 0 (mv 0)) aj)) (fun C cells s0 H0 ex pn hN=>⟨(aO (i:=0) hN rfl (by first | exact Or.inl rfl | exact Or.inr rfl)),bW,(cE eZ dB rfl B.b_list (by decide +kernel) (ag (af 0 (mv 0)) ak))⟩)) ak)) rfl)
  (av (a7 (sw c_Net (aT hE) (hr.mono (by decide)) rfl (ag (af 1 (mv 1)) (ag (af 2 (mv 2)) (ag (cE eZ dB rfl B.b_list (by decide +kernel) (ag (aG (af 0 (mv 0)) aj) ak)) (ag (cE eZ dB rfl B.b_list (by decide +kernel) (ag (aG (af 0 (mv 0)) aj) ak)) ak))))))))
def lQ(a:Ads):ae->FOut:=
 (ar (gIf (fX (ft2 dEq (ad 3) (fC (.str "r"))) (ft2 dLt (ad 1) (fCB a8 (ac (f2 dIx (f2 dIx (ad 0) (fC (.int 0))) (fC (.int 0))) ah)))) (bc (f2 dIx (f2 dIx (f2 dIx (ad 0) (fC (.int 0))) (ad 2)) (ad 1))) aP)
 (ar (gIf (fX (ft2 dEq (ad 3) (fC (.str "u"))) (ft2 dLt (ad 2) (fCB a8 (ac (f2 dIx (ad 0) (fC (.int 1))) ah)))) (bc (f2 dIx (f2 dIx (f2 dIx (ad 0) (fC (.int 1))) (ad 2)) (ad 1))) aP)
 (bc (fC (.int 0)))))
def bI(a:Ads):List D->Res D:=bj 4 (lQ a)
theorem kC:FnScope ["parts", "x", "y", "letter"] ["parts", "x", "y", "letter"] (az (top 29)):=⟨rfl,rfl,rfl,by decide +kernel,rfl,by decide +kernel,by decide +kernel⟩
theorem qB(B:Bl K mg a)(U:Df K mg "_law_step" (top 29) ["parts", "x", "y", "letter"])  : Cal P w K mg base "_law_step" 4 (bI a) 1:=by
 refine bK (k:=0) (N:=["parts", "x", "y", "letter"]) U kC fun f cdv A outer s H E Ex hE hr=>?_;have sc:=kC;exact (am (bX (FW.ft (mF (bx (eO (hu4 hr)) c0 (af 3 (mv 3)) fE (be _)) (lh (bx t8 (aJ _ _) (af 1 (mv 1)) (aV cc bq rfl B.b_len (by decide +kernel) (ag (aG (aG (af 0 (mv 0)) aj) aj) ak)) (be _))))) (av (a7 (aG (aG (aG (af 0 (mv 0)) aj) (af 2 (mv 2))) (af 1 (mv 1))))) bn)
  (am (bX (FW.ft (mF (bx (eO (hu4 hr)) c0 (af 3 (mv 3)) fE (be _)) (lh (bx t8 (aJ _ _) (af 2 (mv 2)) (aV cc bq rfl B.b_len (by decide +kernel) (ag (aG (af 0 (mv 0)) aj) ak)) (be _))))) (av (a7 (aG (aG (aG (af 0 (mv 0)) aj) (af 2 (mv 2))) (af 1 (mv 1))))) bn)
  (av (a7 aj))))
def lR(a:Ads):ae->FOut:=
 (ar (gIf (jJ (cY (ftB (cA (fun i j=>decide (i<=j)) (fun i j=>decide (i<=j)) (fC (.int 0)) (ad 1) (fCB a8 (ac (f2 dIx (f2 dIx (ad 0) (fC (.int 0))) (fC (.int 0))) ah))))) (cY (ftB (cA (fun i j=>decide (i<=j)) (fun i j=>decide (i<j)) (fC (.int 0)) (ad 2) (fCB a8 (ac (f2 dIx (ad 0) (fC (.int 0))) ah)))))) (bc (fC .non)) aP)
 (ar (aw 4 (bv (ac (bY (ac (ad 1) (ac (ad 2) ah))) ah)))
 (ar (aw 5 (fFz (fC (.int 1))))
 (ar (bA (aH (ad 3)) (au 6) (ar (aw 7 (fFz (aq 4 (bI a) (ac (ad 0) (ac (ad 1) (ac (ad 2) (ac (ad 6) ah)))))))
 (ar (gIf (ft2 dEq (ad 7) (fC (.int 0))) (bc (fC .non)) aP)
 (ar (aw 5 (fFz (f2 bB (ad 5) (ad 7))))
 (ar (gIf (ft2 dEq (ad 6) (fC (.str "r"))) (aw 1 (fFz (f2 aL (ad 1) (fC (.int 1))))) (aw 2 (fFz (f2 aL (ad 2) (fC (.int 1))))))
 (cZ 4 (bY (ac (ad 1) (ac (ad 2) ah)))))))))
 (fun ρ=>(bc (bY (ac (ad 4) (ac (ad 5) ah)))) (frzAt 4 ρ))))))
def cD(a:Ads):List D->Res D:=bj 8 (lR a)
theorem kD:FnScope ["parts", "x", "y", "walk", "found", "total", "letter", "step"] ["parts", "x", "y", "walk"] (az (top 30)):=⟨rfl,rfl,rfl,by decide +kernel,rfl,by decide +kernel,by decide +kernel⟩
theorem qC(B:Bl K mg a)(U:Df K mg "_law_went" (top 30) ["parts", "x", "y", "walk"])(c__law_step:Cal P w K mg base "_law_step" 4 (bI a) 1):Cal P w K mg base "_law_went" 4 (cD a) 2:=by
 refine bK (k:=1) (N:=["parts", "x", "y", "walk", "found", "total", "letter", "step"]) U kD fun f cdv A outer s H E Ex hE hr=>?_;have sc:=kD
 exact (am (bX (FW.ft (ua (gZ (iN gO gO aj (af 1 (mv 1)) (aV cc bq rfl B.b_len (by decide +kernel) (ag (aG (aG (af 0 (mv 0)) aj) aj) ak)))) (vA (gZ (iN gO pD aj (af 2 (mv 2)) (aV cc bq rfl B.b_len (by decide +kernel) (ag (aG (af 0 (mv 0)) aj) ak))))))) (av (a7 jp)) bn)
  (am (aF (i:=4) sc.nd rfl (.inl rfl) (cr (ag (dh (ag (af 1 (mv 1)) (ag (af 2 (mv 2)) ak))) ak)))
  (am (aF (i:=5) sc.nd rfl (.inl rfl) (aQ aj))
  (am (bZ cC rfl (bN (af 3 (mv 3))) (aO (i:=6) sc.nd rfl (.inl rfl)) (am (aF (i:=7) sc.nd rfl (.inl rfl) (aQ (aE c__law_step (aT hE) (hr.mono (by decide)) rfl (ag (af 0 (mv 0)) (ag (af 1 (mv 1)) (ag (af 2 (mv 2)) (ag (af 6 (mv 6)) ak)))))))
  (am (bX (bx (eO (hu4 hr)) c0 (af 7 (mv 7)) aj (be _)) (av (a7 jp)) bn)
  (am (aF (i:=5) sc.nd rfl (.inl rfl) (aQ (aI df (aJ _ _) (af 5 (mv 5)) (af 7 (mv 7)))))
  (am (bX (bx (eO (hu4 hr)) c0 (af 6 (mv 6)) fE (be _)) (av (aF (i:=1) sc.nd rfl (.inl rfl) (aQ (aI bu aS (af 1 (mv 1)) aj)))) (av (aF (i:=2) sc.nd rfl (.inl rfl) (aQ (aI bu aS (af 2 (mv 2)) aj)))))
  (av (hG (mv 4) (dh (ag (af 1 (mv 1)) (ag (af 2 (mv 2)) ak))))))))))
  (av (ka 4 (a7 (dh (ag (af 4 (mv 4)) (ag (af 5 (mv 5)) ak))))))))))
def mV(a:Ads):ae->FOut:=
 (ar (aw 3 (fFz (bv (ac (bY (ac (ad 1) (ac (fC (.str "")) ah))) ah))))
 (ar (bA (b7 (ac (f2 aL (f2 cR (f2 dIx (ad 2) (fC (.int 0))) (f2 dIx (ad 1) (fC (.int 0)))) (fCB lj (ac (fC (.int 0)) (ac (f2 cR (f2 dIx (ad 2) (fC (.int 1))) (f2 dIx (ad 1) (fC (.int 1)))) ah)))) ah)) (au 4) (ar (aw 5 (bv ah))
 (ar (bA (aH (ad 3)) (bG [6,7]) (bA (aH (fC (.str "ru"))) (au 8) (ar (aw 9 (fFz (bY (ac (f2 aL (f2 dIx (ad 6) (fC (.int 0))) (fCB dw (ac (f2 dEq (ad 8) (fC (.str "r"))) ah))) (ac (f2 aL (f2 dIx (ad 6) (fC (.int 1))) (fCB dw (ac (f2 dEq (ad 8) (fC (.str "u"))) ah))) ah)))))
 (ar (aw 10 (fFz (l7 (f2 dLe (f2 dIx (ad 9) (fC (.int 0))) (f2 dIx (ad 2) (fC (.int 0)))) (f2 dLe (f2 dIx (ad 9) (fC (.int 1))) (f2 dIx (ad 2) (fC (.int 1)))))))
 (gIf (fX (ftB (ad 10)) (ft2 dGt (aq 4 (bI a) (ac (ad 0) (ac (f2 dIx (ad 6) (fC (.int 0))) (ac (f2 dIx (ad 6) (fC (.int 1))) (ac (ad 8) ah))))) (fC (.int 0)))) (cZ 5 (bY (ac (ad 9) (ac (f2 aL (ad 7) (ad 8)) ah)))) aP)))))
 (fun ρ=>(aw 3 (fFz (ad 5))) (frzAt 5 ρ)))))
 (bc (fCB gG (ac (aK 2 [2] (aH (ad 3)) (bG [0,1]) (ft2 dEq (ad 0) (ad 2)) (ad 1)) ah)))))
def gi(a:Ads):List D->Res D:=bj 11 (mV a)
theorem lS:FnScope ["parts", "here", "end", "rows", "turn", "longer", "place", "walk", "letter", "there", "inside"] ["parts", "here", "end"] (az (top 31)):=⟨rfl,rfl,rfl,by decide +kernel,rfl,by decide +kernel,by decide +kernel⟩
theorem rR(B:Bl K mg a)(U:Df K mg "_law_all" (top 31) ["parts", "here", "end"])(c__law_step:Cal P w K mg base "_law_step" 4 (bI a) 1):Cal P w K mg base "_law_all" 3 (gi a) 2:=by
 refine bK (k:=1) (N:=["parts", "here", "end", "rows", "turn", "longer", "place", "walk", "letter", "there", "inside"]) U lS fun f cdv A outer s H E Ex hE hr=>?_;have sc:=lS;exact (am (aF (i:=3) sc.nd rfl (.inl rfl) (aQ (cr (ag (dh (ag (af 1 (mv 1)) (ag fE ak))) ak))))
  (am (bZ cC rfl (cW rfl B.b_range (ag (aI bu aS (aI eP (aJ _ _) (aG (af 2 (mv 2)) aj) (aG (af 1 (mv 1)) aj)) (aV (zJ rfl) vE rfl B.b_max (by decide +kernel) (ag aj (ag (aI eP (aJ _ _) (aG (af 2 (mv 2)) aj) (aG (af 1 (mv 1)) aj)) ak)))) ak)) (aO (i:=4) sc.nd rfl (.inl rfl)) (am (aF (i:=5) sc.nd rfl (.inl rfl) (cr ak))
  (am (bZ cC rfl (bN (af 3 (mv 3))) (gY (is:=[6,7]) rfl (cg (i:=6) (cL (i:=6) sc.nd rfl (.inl rfl)) (cg (i:=7) (cL (i:=7) sc.nd rfl (.inl rfl)) fQ))) (av (bZ cC rfl (bN fE) (aO (i:=8) sc.nd rfl (.inl rfl)) (am (aF (i:=9) sc.nd rfl (.inl rfl) (aQ (dh (ag (aI bu aS (aG (af 6 (mv 6)) aj) (cE kf iL rfl B.b_int (by decide +kernel) (ag (jq (eO (hu4 hr)) c0 (af 8 (mv 8)) fE (be _)) ak))) (ag (aI bu aS (aG (af 6 (mv 6)) aj) (cE kf iL rfl B.b_int (by decide +kernel) (ag (jq (eO (hu4 hr)) c0 (af 8 (mv 8)) fE (be _)) ak))) ak)))))
  (am (aF (i:=10) sc.nd rfl (.inl rfl) (aQ (vC (jq t9 (aJ _ _) (aG (af 9 (mv 9)) aj) (aG (af 2 (mv 2)) aj) (be _)) (vB (jq t9 (aJ _ _) (aG (af 9 (mv 9)) aj) (aG (af 2 (mv 2)) aj) (be _))))))
  (av (bX (FW.ft (mF (kc (af 10 (mv 10))) (lh (bx mB (aJ _ _) (aE c__law_step (aT hE) (hr.mono (by decide)) rfl (ag (af 0 (mv 0)) (ag (aG (af 6 (mv 6)) aj) (ag (aG (af 6 (mv 6)) aj) (ag (af 8 (mv 8)) ak))))) aj (be _))))) (av (hG (mv 5) (dh (ag (af 9 (mv 9)) (ag (aI bu aS (af 7 (mv 7)) (af 8 (mv 8))) ak))))) bn)))))))
  (av (ka 5 (aF (i:=3) sc.nd rfl (.inl rfl) (aQ (af 5 (mv 5)))))))))
  (av (a7 (aV uh qm rfl B.b_sorted (by decide +kernel) (ag (cX rfl (CompScope.of (own:=["place", "walk"]) (cap:=[("end", 2)]) rfl (by decide +kernel) rfl rfl (by decide +kernel)) (bN (af 3 (mv 3))) (fun C cells s0 H0 ex pn hN=>⟨(gY (is:=[0,1]) rfl (cg (i:=0) (cL (i:=0) hN rfl (by first | exact Or.inl rfl | exact Or.inr rfl)) (cg (i:=1) (cL (i:=1) hN rfl (by first | exact Or.inl rfl | exact Or.inr rfl)) fQ))),(zH (bx (eO (hu4 hr)) c0 (af 0 (mv 0)) (af 2 (mv 2)) (be _))),(af 1 (mv 1))⟩)) ak))))))
def fN(a:Ads):ae->FOut:=
 (ar (aw 2 (fFz (fCB a8 (ac (f2 dIx (f2 dIx (ad 0) (fC (.int 0))) (fC (.int 0))) ah))))
 (ar (aw 3 (fFz (bv (ac (bY (ac (bv ah) (ac (bv ah) ah))) ah))))
 (ar (bA (aH (f2 dIx (ad 0) (fC (.int 2)))) (au 4) (ar (aw 5 (bv ah))
 (ar (bA (aH (f2 dIx (ad 0) (fC (.int 3)))) (au 6) (cZ 5 (fIf (ft2 dGe (ad 6) (ad 4)) (aq 3 (gi a) (ac (ad 0) (ac (bY (ac (fC (.int 0)) (ac (ad 4) ah))) (ac (bY (ac (ad 2) (ac (ad 6) ah))) ah)))) (bv ah))))
 (ar (aw 7 (bv ah))
 (ar (fun ρ=>(bA (aH (ad 3)) (bG [8,9]) (bA (eT (ac (ad 5) ah)) (bG [10,11]) (gIf (fX (ft2 (dIn true) (ad 10) (ad 9)) (ft2 dLe (fCB a8 (ac (ad 7) ah)) (ad 1))) (iD 7 (aK 1 [8,9,10] (aH (ad 11)) (au 0) aM (bY (ac (f2 aL (ad 1) (bv (ac (ad 0) ah))) (ac (f2 aL (ad 2) (bv (ac (ad 3) ah))) ah))))) aP))) (frzAt 5 ρ))
 (ar (fun ρ=>(aw 3 (fFz (ad 7))) (frzAt 7 ρ))
 (gIf (ft2 dGt (fCB a8 (ac (ad 3) ah)) (ad 1)) (bc (fC .non)) aP)))))))
 (bc (ad 3)))))
def cx(a:Ads):List D->Res D:=bj 12 (fN a)
theorem io:FnScope ["parts", "most", "columns", "rows", "start", "lists", "end", "longer", "company", "used", "k", "texts"] ["parts", "most"] (az (top 32)):=⟨rfl,rfl,rfl,by decide +kernel,rfl,by decide +kernel,by decide +kernel⟩
theorem lG(B:Bl K mg a)(U:Df K mg "_law_companies" (top 32) ["parts", "most"])(c__law_all:Cal P w K mg base "_law_all" 3 (gi a) 2):Cal P w K mg base "_law_companies" 2 (cx a) 3:=by
 refine bK (k:=2) (N:=["parts", "most", "columns", "rows", "start", "lists", "end", "longer", "company", "used", "k", "texts"]) U io fun f cdv A outer s H E Ex hE hr=>?_;have sc:=io;exact (am (aF (i:=2) sc.nd rfl (.inl rfl) (aQ (aV cc bq rfl B.b_len (by decide +kernel) (ag (aG (aG (af 0 (mv 0)) aj) aj) ak))))
  (am (aF (i:=3) sc.nd rfl (.inl rfl) (aQ (cr (ag (dh (ag (cr ak) (ag (cr ak) ak))) ak))))
  (am (bZ cC rfl (bN (aG (af 0 (mv 0)) aj)) (aO (i:=4) sc.nd rfl (.inl rfl)) (am (aF (i:=5) sc.nd rfl (.inl rfl) (cr ak))
  (am (bZ cC rfl (bN (aG (af 0 (mv 0)) aj)) (aO (i:=6) sc.nd rfl (.inl rfl)) (av (hG (mv 5) (qf (bx Dq (aJ _ _) (af 6 (mv 6)) (af 4 (mv 4)) (be _)) (aE c__law_all (aT hE) (hr.mono (by decide)) rfl (ag (af 0 (mv 0)) (ag (dh (ag aj (ag (af 4 (mv 4)) ak))) (ag (dh (ag (af 2 (mv 2)) (ag (af 6 (mv 6)) ak))) ak)))) (cr ak)))))
  (am (aF (i:=7) sc.nd rfl (.inl rfl) (cr ak))
  (am (ka 5 (bZ cC rfl (bN (af 3 (mv 3))) (gY (is:=[8,9]) rfl (cg (i:=8) (cL (i:=8) sc.nd rfl (.inr rfl)) (cg (i:=9) (cL (i:=9) sc.nd rfl (.inr rfl)) fQ))) (av (bZ cC rfl (sE rfl B.b_enumerate (ag (af 5 (mv 5)) ak)) (gY (is:=[10,11]) rfl (cg (i:=10) (cL (i:=10) sc.nd rfl (.inr rfl)) (cg (i:=11) (cL (i:=11) sc.nd rfl (.inl rfl)) fQ))) (av (bX (FW.ft (mF (bx (xV (hu4 hr)) (zU _) (af 10 (mv 10)) (af 9 (mv 9)) rfl) (lh (bx t9 (aJ _ _) (aV cc bq rfl B.b_len (by decide +kernel) (ag (af 7 (mv 7)) ak)) (af 1 (mv 1)) (be _))))) (av (wa (mv 7) (cX rfl (CompScope.of (own:=["walk"]) (cap:=[("company", 8),("used", 9),("k", 10)]) rfl (by decide +kernel) rfl rfl (by decide +kernel)) (bN (af 11 (mv 11))) (fun C cells s0 H0 ex pn hN=>⟨(aO (i:=0) hN rfl (by first | exact Or.inl rfl | exact Or.inr rfl)),bW,(dh (ag (aI bu aS (af 1 (mv 1)) (cr (ag (af 0 (mv 0)) ak))) (ag (aI bu aS (af 2 (mv 2)) (cr (ag (af 3 (mv 3)) ak))) ak)))⟩)))) bn))))))
  (am (ka 7 (aF (i:=3) sc.nd rfl (.inl rfl) (aQ (af 7 (mv 7)))))
  (av (bX (bx mB (aJ _ _) (aV cc bq rfl B.b_len (by decide +kernel) (ag (af 3 (mv 3)) ak)) (af 1 (mv 1)) (be _)) (av (a7 jp)) bn))))))))
  (av (a7 (af 3 (mv 3)))))))
def j3(a:Ads):ae->FOut:=
 (bc (aK 2 [0] (hV (ac (f2 dIx (ad 0) (fC (.int 2))) (ac (ad 1) ah))) (bG [0,1]) aM (f2 dIx (ce 4 (cD a) (ac (ad 2) (ac (fC (.int 0)) (ac (ad 0) (ac (ad 1) ah))))) (fC (.int 0)))))
def eD(a:Ads):List D->Res D:=bj 2 (j3 a)
theorem jy:FnScope ["parts", "company"] ["parts", "company"] (az (top 33)):=⟨rfl,rfl,rfl,by decide +kernel,rfl,by decide +kernel,by decide +kernel⟩
theorem nU(B:Bl K mg a)(U:Df K mg "_law_places" (top 33) ["parts", "company"])(c__law_went:Cal P w K mg base "_law_went" 4 (cD a) 2):Cal P w K mg base "_law_places" 2 (eD a) 3:=by
 refine bK (k:=2) (N:=["parts", "company"]) U jy fun f cdv A outer s H E Ex hE hr=>?_;have sc:=jy
 exact (av (a7 (cX rfl (CompScope.of (own:=["start", "walk"]) (cap:=[("parts", 0)]) rfl (by decide +kernel) rfl rfl (by decide +kernel)) (sA rfl B.b_zip (ag (aG (af 0 (mv 0)) aj) (ag (af 1 (mv 1)) ak))) (fun C cells s0 H0 ex pn hN=>⟨(gY (is:=[0,1]) rfl (cg (i:=0) (cL (i:=0) hN rfl (by first | exact Or.inl rfl | exact Or.inr rfl)) (cg (i:=1) (cL (i:=1) hN rfl (by first | exact Or.inl rfl | exact Or.inr rfl)) fQ))),bW,(aG (gF c__law_went (hr.mono (by decide)) rfl (ag (af 2 (mv 2)) (ag aj (ag (af 0 (mv 0)) (ag (af 1 (mv 1)) ak))))) aj)⟩))))
def lT(a:Ads):ae->FOut:=
 (ar (aw 1 pK)
 (ar (bA (aH (ad 0)) (au 2) (bA (aH (ad 2)) (au 3) (ar (gIf (ft2 kz (ad 3) (ad 1)) (bc (fC (.bl false))) aP)
 (mK 1 (ad 3) (.bl true)))))
 (bc (fC (.bl true)))))
def fI(a:Ads):List D->Res D:=bj 4 (lT a)
theorem kE:FnScope ["rows", "seen", "row", "place"] ["rows"] (az (top 34)):=⟨rfl,rfl,rfl,by decide +kernel,rfl,by decide +kernel,by decide +kernel⟩
theorem qD(B:Bl K mg a)(U:Df K mg "_law_lone" (top 34) ["rows"])  : Cal P w K mg base "_law_lone" 1 (fI a) 1:=by
 refine bK (k:=0) (N:=["rows", "seen", "row", "place"]) U kE fun f cdv A outer s H E Ex hE hr=>?_;have sc:=kE;exact (am (aF (i:=1) sc.nd rfl (.inl rfl) sG)
  (am (bZ cC rfl (bN (af 0 (mv 0))) (aO (i:=2) sc.nd rfl (.inl rfl)) (av (bZ cC rfl (bN (af 2 (mv 2))) (aO (i:=3) sc.nd rfl (.inl rfl)) (am (bX (bx (B4 (hu4 hr)) xW (af 3 (mv 3)) (af 1 (mv 1)) rfl) (av (a7 jG)) bn)
  (av (zV (hu4 hr) (mv 1) yK (fun _=>.bl) (af 3 (mv 3))))))))
  (av (a7 jG))))
def lU(a:Ads):ae->FOut:=
 (ar (aw 2 pK)
 (ar (iP 2 (bY (ac (fC (.int 0)) (ac (f2 dIx (f2 dIx (ad 0) (fC (.int 2))) (fC (.int 0))) ah))) (fC (.int 1)))
 (ar (bA (iK (ac (f2 dIx (f2 dIx (ad 0) (fC (.int 2))) (fC (.int 0))) (ac (fCB a8 (ac (f2 dIx (ad 0) (fC (.int 0))) ah)) ah))) (au 3) (bA (b7 (ac (f2 aL (fCB a8 (ac (f2 dIx (f2 dIx (ad 0) (fC (.int 0))) (fC (.int 0))) ah)) (fC (.int 1))) ah)) (au 4) (ar (aw 5 (fFz (i9 (ad 2) (bY (ac (ad 4) (ac (ad 3) ah))) (fC (.int 0)))))
 (bA (aH (fC (.str "ru"))) (au 6) (ar (aw 7 (fFz (aq 4 (bI a) (ac (ad 0) (ac (ad 4) (ac (ad 3) (ac (ad 6) ah)))))))
 (ar (aw 8 (fFz (bY (ac (f2 aL (ad 4) (fCB dw (ac (f2 dEq (ad 6) (fC (.str "r"))) ah))) (ac (f2 aL (ad 3) (fCB dw (ac (f2 dEq (ad 6) (fC (.str "u"))) ah))) ah)))))
 (gIf (ft2 dGt (ad 7) (fC (.int 0))) (iP 2 (ad 8) (f2 aL (i9 (ad 2) (ad 8) (fC (.int 0))) (f2 bB (ad 5) (f2 dIx (bv (ac (ad 7) (ac (fC (.int 1)) ah))) (fCB dw (ac (ad 1) ah)))))) aP)))))))
 (bc (i9 (ad 2) (bY (ac (fCB a8 (ac (f2 dIx (f2 dIx (ad 0) (fC (.int 0))) (fC (.int 0))) ah)) (ac (f2 dIx (f2 dIx (ad 0) (fC (.int 3))) (fC (.int 0))) ah))) (fC (.int 0)))))))
def fJ(a:Ads):List D->Res D:=bj 9 (lU a)
theorem kF:FnScope ["parts", "plain", "sums", "y", "x", "here", "letter", "step", "there"] ["parts", "plain"] (az (top 35)):=⟨rfl,rfl,rfl,by decide +kernel,rfl,by decide +kernel,by decide +kernel⟩
theorem qE(B:Bl K mg a)(U:Df K mg "_law_sums" (top 35) ["parts", "plain"])(c__law_step:Cal P w K mg base "_law_step" 4 (bI a) 1):Cal P w K mg base "_law_sums" 2 (fJ a) 2:=by
 refine bK (k:=1) (N:=["parts", "plain", "sums", "y", "x", "here", "letter", "step", "there"]) U kF fun f cdv A outer s H E Ex hE hr=>?_;have sc:=kF;exact (am (aF (i:=2) sc.nd rfl (.inl rfl) sG)
  (am (qv (hu4 hr) (mv 2) aj (dh (ag aj (ag (aG (aG (af 0 (mv 0)) aj) aj) ak))))
  (am (bZ cC rfl (i6 rfl B.b_range (ag (aG (aG (af 0 (mv 0)) aj) aj) (ag (aV cc bq rfl B.b_len (by decide +kernel) (ag (aG (af 0 (mv 0)) aj) ak)) ak))) (aO (i:=3) sc.nd rfl (.inl rfl)) (av (bZ cC rfl (cW rfl B.b_range (ag (aI bu aS (aV cc bq rfl B.b_len (by decide +kernel) (ag (aG (aG (af 0 (mv 0)) aj) aj) ak)) aj) ak)) (aO (i:=4) sc.nd rfl (.inl rfl)) (am (aF (i:=5) sc.nd rfl (.inl rfl) (aQ (nR (hu4 hr) (af 2 (mv 2)) (dh (ag (af 4 (mv 4)) (ag (af 3 (mv 3)) ak))) aj)))
  (av (bZ cC rfl (bN fE) (aO (i:=6) sc.nd rfl (.inl rfl)) (am (aF (i:=7) sc.nd rfl (.inl rfl) (aQ (aE c__law_step (aT hE) (hr.mono (by decide)) rfl (ag (af 0 (mv 0)) (ag (af 4 (mv 4)) (ag (af 3 (mv 3)) (ag (af 6 (mv 6)) ak)))))))
  (am (aF (i:=8) sc.nd rfl (.inl rfl) (aQ (dh (ag (aI bu aS (af 4 (mv 4)) (cE kf iL rfl B.b_int (by decide +kernel) (ag (jq (eO (hu4 hr)) c0 (af 6 (mv 6)) fE (be _)) ak))) (ag (aI bu aS (af 3 (mv 3)) (cE kf iL rfl B.b_int (by decide +kernel) (ag (jq (eO (hu4 hr)) c0 (af 6 (mv 6)) fE (be _)) ak))) ak)))))
  (av (bX (bx mB (aJ _ _) (af 7 (mv 7)) aj (be _)) (av (qv (hu4 hr) (mv 2) (aI bu aS (nR (hu4 hr) (af 2 (mv 2)) (af 8 (mv 8)) aj) (aI df (aJ _ _) (af 5 (mv 5)) (aG (cr (ag (af 7 (mv 7)) (ag aj ak))) (cE kf iL rfl B.b_int (by decide +kernel) (ag (af 1 (mv 1)) ak))))) (af 8 (mv 8)))) bn))))))))))
  (av (a7 (nR (hu4 hr) (af 2 (mv 2)) (dh (ag (aV cc bq rfl B.b_len (by decide +kernel) (ag (aG (aG (af 0 (mv 0)) aj) aj) ak)) (ag (aG (aG (af 0 (mv 0)) aj) aj) ak))) aj))))))
def g_law(a:Ads):ae->FOut:=
 (ar (gIf (ft2 dEq (f2 cS (aq 2 (aA a) (ac (ad 0) (ac (fC (.int 8)) ah))) (fC (.int 3))) (fC (.int 1))) (ar (aw 1 (fFz (aq 4 (cq a) (ac (ad 0) (ac (fC (.int 8)) (ac (fC (.int 1)) (ac (fC (.int 8)) ah)))))))
 (aw 2 (fFz (bv (ac (aq 2 (fJ a) (ac (ad 1) (ac (fC (.bl false)) ah))) (ac (aq 2 (fJ a) (ac (ad 1) (ac (fC (.bl true)) ah))) ah)))))) (ar (aw 1 (fFz (aq 4 (cq a) (ac (ad 0) (ac (fC (.int 4)) (ac (fC (.int 4)) (ac (fC (.int 8)) ah)))))))
 (ar (aw 3 (fFz (aq 2 (cx a) (ac (ad 1) (ac (fC (.int 300)) ah)))))
 (ar (gIf (ft2 (kn false) (ad 3) (fC .non)) (bc (fC (.bl true))) aP)
 (ar (aw 2 (fFz (bv (ac (fC (.int 0)) (ac (fC (.int 0)) ah)))))
 (bA (aH (ad 3)) (bG [4,5]) (gIf (ftB (aq 1 (fI a) (ac (aq 2 (eD a) (ac (ad 1) (ac (ad 4) ah))) ah))) (ar (aw 6 (fFz (fC (.int 1))))
 (ar (bA (hV (ac (f2 dIx (ad 1) (fC (.int 2))) (ac (ad 4) ah))) (bG [7,8]) (aw 6 (fFz (f2 bB (ad 6) (f2 dIx (aq 4 (cD a) (ac (ad 1) (ac (fC (.int 0)) (ac (ad 7) (ac (ad 8) ah))))) (fC (.int 1)))))))
 (aw 2 (fFz (bv (ac (f2 aL (f2 dIx (ad 2) (fC (.int 0))) (ad 6)) (ac (f2 aL (f2 dIx (ad 2) (fC (.int 1))) (fC (.int 1))) ah))))))) aP)))))))
 (ar (aw 9 (fFz (aq 1 (gh a) (ac (ad 1) ah))))
 (ar (bA (b7 (ac (fC (.int 2)) ah)) (au 10) (ar (aw 11 (fFz (bv (ac (aq 1 (cN a) (ac (ad 9) ah)) (ac (aq 1 (ge a) (ac (ad 9) ah)) ah)))))
 (gIf (jJ (cY (ftB (aq 1 (dl a) (ac (f2 dIx (ad 11) (fC (.int 0))) ah)))) (jJ (cY (ftB (aq 1 (dl a) (ac (f2 dIx (ad 11) (fC (.int 1))) ah)))) (ft2 dNe (ad 11) (ad 2)))) (bc (fC (.bl false))) aP)))
 (bc (fC (.bl true))))))
def pM(a:Ads):List D->Res D:=bj 12 (g_law a)
theorem wj:FnScope ["script", "parts", "due", "rows", "company", "ends", "total", "start", "walk", "net", "lap", "found"] ["script"] (az (top 36)):=⟨rfl,rfl,rfl,by decide +kernel,rfl,by decide +kernel,by decide +kernel⟩
theorem zW(B:Bl K mg a){f:Addr}{fd:FuncData}(U:Fun K "law" "law" (top 36) f fd)(c__law_cell_at:Cal P w K mg base "_law_cell_at" 2 (aA a) 1)(c__law_companies:Cal P w K mg base "_law_companies" 2 (cx a) 3)(c__law_lone:Cal P w K mg base "_law_lone" 1 (fI a) 1)(c__law_net:Cal P w K mg base "_law_net" 1 (gh a) 4)(c__law_parts_by:Cal P w K mg base "_law_parts_by" 4 (cq a) 3)(c__law_places:Cal P w K mg base "_law_places" 2 (eD a) 3)(c__law_sums:Cal P w K mg base "_law_sums" 2 (fJ a) 2)(c__law_went:Cal P w K mg base "_law_went" 4 (cD a) 2)(c__law_whole:Cal P w K mg base "_law_whole" 1 (dl a) 1)(c_how_many:Cal P w K mg base "how_many" 1 (ge a) 5)(c_lone_weight:Cal P w K mg base "lone_weight" 1 (cN a) 4):FnOk P w K mg base (CXm P w) 6 f fd ["script"] (spF 1 (pM a)):=by
 refine BX (k:=5) (N:=["script", "parts", "due", "rows", "company", "ends", "total", "start", "walk", "net", "lap", "found"]) U wj fun f cdv A outer s H E Ex hE hr=>?_;have sc:=wj
 exact (am (bX (bx (eO (hu4 hr)) c0 (aI eQ (aJ _ _) (aE c__law_cell_at (aT hE) (hr.mono (by decide)) rfl (ag (af 0 (mv 0)) (ag aj ak))) aj) aj (be _)) (am (aF (i:=1) sc.nd rfl (.inl rfl) (aQ (aE c__law_parts_by (aT hE) (hr.mono (by decide)) rfl (ag (af 0 (mv 0)) (ag aj (ag aj (ag aj ak)))))))
  (av (aF (i:=2) sc.nd rfl (.inl rfl) (aQ (cr (ag (aE c__law_sums (aT hE) (hr.mono (by decide)) rfl (ag (af 1 (mv 1)) (ag jG ak))) (ag (aE c__law_sums (aT hE) (hr.mono (by decide)) rfl (ag (af 1 (mv 1)) (ag jG ak))) ak))))))) (am (aF (i:=1) sc.nd rfl (.inl rfl) (aQ (aE c__law_parts_by (aT hE) (hr.mono (by decide)) rfl (ag (af 0 (mv 0)) (ag aj (ag aj (ag aj ak)))))))
  (am (aF (i:=3) sc.nd rfl (.inl rfl) (aQ (aE c__law_companies (aT hE) (hr.mono (by decide)) rfl (ag (af 1 (mv 1)) (ag aj ak)))))
  (am (bX (bx vJ (qj _) (af 3 (mv 3)) jp (be _)) (av (a7 jG)) bn)
  (am (aF (i:=2) sc.nd rfl (.inl rfl) (aQ (cr (ag aj (ag aj ak)))))
  (av (bZ cC rfl (bN (af 3 (mv 3))) (gY (is:=[4,5]) rfl (cg (i:=4) (cL (i:=4) sc.nd rfl (.inl rfl)) (cg (i:=5) (cL (i:=5) sc.nd rfl (.inl rfl)) fQ))) (av (bX (kc (aE c__law_lone (aT hE) (hr.mono (by decide)) rfl (ag (aE c__law_places (aT hE) (hr.mono (by decide)) rfl (ag (af 1 (mv 1)) (ag (af 4 (mv 4)) ak))) ak))) (am (aF (i:=6) sc.nd rfl (.inl rfl) (aQ aj))
  (am (bZ cC rfl (sA rfl B.b_zip (ag (aG (af 1 (mv 1)) aj) (ag (af 4 (mv 4)) ak))) (gY (is:=[7,8]) rfl (cg (i:=7) (cL (i:=7) sc.nd rfl (.inl rfl)) (cg (i:=8) (cL (i:=8) sc.nd rfl (.inl rfl)) fQ))) (av (aF (i:=6) sc.nd rfl (.inl rfl) (aQ (aI df (aJ _ _) (af 6 (mv 6)) (aG (aE c__law_went (aT hE) (hr.mono (by decide)) rfl (ag (af 1 (mv 1)) (ag aj (ag (af 7 (mv 7)) (ag (af 8 (mv 8)) ak))))) aj))))))
  (av (aF (i:=2) sc.nd rfl (.inl rfl) (aQ (cr (ag (aI bu aS (aG (af 2 (mv 2)) aj) (af 6 (mv 6))) (ag (aI bu aS (aG (af 2 (mv 2)) aj) aj) ak)))))))) bn)))))))))
  (am (aF (i:=9) sc.nd rfl (.inl rfl) (aQ (aE c__law_net (aT hE) (hr.mono (by decide)) rfl (ag (af 1 (mv 1)) ak))))
  (am (bZ cC rfl (cW rfl B.b_range (ag aj ak)) (aO (i:=10) sc.nd rfl (.inl rfl)) (am (aF (i:=11) sc.nd rfl (.inl rfl) (aQ (cr (ag (aE c_lone_weight (aT hE) (hr.mono (by decide)) rfl (ag (af 9 (mv 9)) ak)) (ag (aE c_how_many (aT hE) (hr.mono (by decide)) rfl (ag (af 9 (mv 9)) ak)) ak)))))
  (av (bX (FW.ft (ua (gZ (kc (aE c__law_whole (aT hE) (hr.mono (by decide)) rfl (ag (aG (af 11 (mv 11)) aj) ak)))) (ua (gZ (kc (aE c__law_whole (aT hE) (hr.mono (by decide)) rfl (ag (aG (af 11 (mv 11)) aj) ak)))) (vA (bx (Dx (hu4 hr)) zQ (af 11 (mv 11)) (af 2 (mv 2)) (be _)))))) (av (a7 jG)) bn))))
  (av (a7 jG)))))
theorem ar1{p:List Value->Prop}(h:∀ a:Value,p [a]):∀ us:List Value,us.length=1->p us:=by
 intro us hl
 cases us with
 |nil=>cases hl
 |cons a us=>
 cases us with
 |nil=>exact h a
 |cons z us=>simp at hl
theorem ar2{p:List Value->Prop}(h:∀ a b:Value,p [a,b]):∀ us:List Value,us.length=2->p us:=by
 intro us hl
 cases us with
 |nil=>cases hl
 |cons a us=>
 cases us with
 |nil=>cases hl
 |cons b us=>
 cases us with
 |nil=>exact h a b
 |cons z us=>simp at hl
theorem ar3{p:List Value->Prop}(h:∀ a b c:Value,p [a,b,c]):∀ us:List Value,us.length=3->p us:=by
 intro us hl
 cases us with
 |nil=>cases hl
 |cons a us=>
 cases us with
 |nil=>cases hl
 |cons b us=>
 cases us with
 |nil=>cases hl
 |cons c us=>
 cases us with
 |nil=>exact h a b c
 |cons z us=>simp at hl
theorem ar4{p:List Value->Prop}(h:∀ a b c d:Value,p [a,b,c,d]):∀ us:List Value,us.length=4->p us:=by
 intro us hl
 cases us with
 |nil=>cases hl
 |cons a us=>
 cases us with
 |nil=>cases hl
 |cons b us=>
 cases us with
 |nil=>cases hl
 |cons c us=>
 cases us with
 |nil=>cases hl
 |cons d us=>
 cases us with
 |nil=>exact h a b c d
 |cons z us=>simp at hl
theorem ar5{p:List Value->Prop}(h:∀ a b c d e:Value,p [a,b,c,d,e]):∀ us:List Value,us.length=5->p us:=by
 intro us hl
 cases us with
 |nil=>cases hl
 |cons a us=>
 cases us with
 |nil=>cases hl
 |cons b us=>
 cases us with
 |nil=>cases hl
 |cons c us=>
 cases us with
 |nil=>cases hl
 |cons d us=>
 cases us with
 |nil=>cases hl
 |cons e us=>
 cases us with
 |nil=>exact h a b c d e
 |cons z us=>simp at hl
theorem B7(main:∀ a ns,List.length ns<=63->pM a [.scr ns]=.ok (.bl true)){l:PySem.W.OpenLaw}{w:World}{K:PySem.W.Frag}{h:Heap}{mg:Str->Option Value}{fa:Addr}(X:K.In h)(G:h.Ns mainGlobals mg)(hfa:mg "law" = some (.ref fa))
    {A_0 A_1:Addr}
    {f_1:Addr} {od_1 an_1:Option Addr} {sl_1:Array (Option Value)} {oc_1 kV_1 dc_1 pm_1 cd_1 ct_1:Value}
    {f_law:Addr} {od_law an_law:Option Addr} {sl_law:Array (Option Value)} {oc_law kV_law dc_law pm_law cd_law ct_law:Value}
    {t_MOST_SIDE:Tok}
    {t_MOST_WALKERS:Tok}
    {t_MOST_WEIGHT:Tok}
    (g_0:PySem.W.nsIn K mainGlobals "BadNet" = some (some (.ref A_0)))
    (e_0:PySem.W.excIn K A_0 pJ "ValueError.__new__" = true)
    (g_1:PySem.W.nsIn K mainGlobals "Net" = some (some (.ref A_1)))
    (i_1:PySem.W.findIn K (.ref A_1) "__init__" = some (some (.ref f_1)))
    (n_1:PySem.W.isFn K (.ref f_1)=true)
    (l_1:K.lookup f_1=some ⟨oc_1,od_1,.func (PySem.W.fnOf "__init__" "Net.__init__" (eI (jP 10 0)) (cK (jP 10 0)) (az (jP 10 0)) .none kV_1 dc_1 pm_1 an_1 cd_1 ct_1),sl_1⟩)
    (c_1:PySem.W.codeIn K cd_1 "Net.__init__" = true)
    (k_1:PySem.W.keepIn K (.ref f_1)=true)
    (pg_1:PySem.W.plainGet K A_1 Str.empty=true)
    (hd_1:PySem.W.hasDictIn K A_1=true)
    (po_1:PySem.W.plainOver K A_1=true)
    (sa_1:PySem.W.findIn K (.ref A_1) "__setattr__" = some (some (.builtin "object.__setattr__")))
    (mk_1:PySem.W.makesIn K A_1=true)
    (kc_1:PySem.W.keepIn K (.ref A_1)=true)
    (na_Net_columns:PySem.W.findIn K (.ref A_1) "columns" = some none)
    (na_Net_ends:PySem.W.findIn K (.ref A_1) "ends" = some none)
    (na_Net_right:PySem.W.findIn K (.ref A_1) "right" = some none)
    (na_Net_rows:PySem.W.findIn K (.ref A_1) "rows" = some none)
    (na_Net_starts:PySem.W.findIn K (.ref A_1) "starts" = some none)
    (na_Net_up:PySem.W.findIn K (.ref A_1) "up" = some none)
    (U_17:Df K mg "check_side" (top 7) ["length"])
    (U_18:Df K mg "check_steps" (top 8) ["lists", "count", "length"])
    (U_16:Df K mg "check_border" (top 9) ["chosen", "rows"])
    (U_19:Df K mg "climbed" (top 12) ["net", "x", "arrived"])
    (U_27:Df K mg "sums_on_last_column" (top 13) ["net", "start"])
    (U_28:Df K mg "table" (top 14) ["net"])
    (U_21:Df K mg "first_row_to_use" (top 15) ["rows"])
    (U_26:Df K mg "reduced" (top 16) ["row", "top", "divisor"])
    (U_20:Df K mg "det" (top 17) ["square"])
    (U_24:Df K mg "lone_weight" (top 18) ["net"])
    (U_25:Df K mg "ones_for_open" (top 19) ["weights"])
    (U_22:Df K mg "how_many" (top 20) ["net"])
    (U_3:Df K mg "_law_cell_at" (top 22) ["script", "k"])
    (U_6:Df K mg "_law_mix" (top 23) ["cell", "k", "many"])
    (U_15:Df K mg "_law_whole" (top 24) ["found"])
    (U_10:Df K mg "_law_rows_by" (top 25) ["cell", "many", "rows"])
    (U_12:Df K mg "_law_step_by" (top 26) ["cell", "k", "shut"])
    (U_8:Df K mg "_law_parts_by" (top 27) ["script", "most", "walkers", "shut"])
    (U_7:Df K mg "_law_net" (top 28) ["parts"])
    (U_11:Df K mg "_law_step" (top 29) ["parts", "x", "y", "letter"])
    (U_14:Df K mg "_law_went" (top 30) ["parts", "x", "y", "walk"])
    (U_2:Df K mg "_law_all" (top 31) ["parts", "here", "end"])
    (U_4:Df K mg "_law_companies" (top 32) ["parts", "most"])
    (U_9:Df K mg "_law_places" (top 33) ["parts", "company"])
    (U_5:Df K mg "_law_lone" (top 34) ["rows"])
    (U_13:Df K mg "_law_sums" (top 35) ["parts", "plain"])
    (g_law:PySem.W.nsIn K mainGlobals "law" = some (some (.ref f_law)))
    (l_law:K.lookup f_law=some ⟨oc_law,od_law,.func (PySem.W.fnOf "law" "law" (eI (top 36)) (cK (top 36)) (az (top 36)) .none kV_law dc_law pm_law an_law cd_law ct_law),sl_law⟩)
    (c_law:PySem.W.codeIn K cd_law "law" = true)
    (k_law:PySem.W.keepIn K (.ref f_law)=true)
    (b_all:PySem.W.nsIn K mainGlobals "all" = some none)
    (b_bool:PySem.W.nsIn K mainGlobals "bool" = some none)
    (b_enumerate:PySem.W.nsIn K mainGlobals "enumerate" = some none)
    (b_int:PySem.W.nsIn K mainGlobals "int" = some none)
    (b_isinstance:PySem.W.nsIn K mainGlobals "isinstance" = some none)
    (b_len:PySem.W.nsIn K mainGlobals "len" = some none)
    (b_list:PySem.W.nsIn K mainGlobals "list" = some none)
    (b_max:PySem.W.nsIn K mainGlobals "max" = some none)
    (b_min:PySem.W.nsIn K mainGlobals "min" = some none)
    (b_range:PySem.W.nsIn K mainGlobals "range" = some none)
    (b_sorted:PySem.W.nsIn K mainGlobals "sorted" = some none)
    (b_zip:PySem.W.nsIn K mainGlobals "zip" = some none)
    (v_MOST_SIDE:PySem.W.nsIn K mainGlobals "MOST_SIDE" = some (some (.int 8 t_MOST_SIDE)))
    (v_MOST_WALKERS:PySem.W.nsIn K mainGlobals "MOST_WALKERS" = some (some (.int 4 t_MOST_WALKERS)))
    (v_MOST_WEIGHT:PySem.W.nsIn K mainGlobals "MOST_WEIGHT" = some (some (.int 1000 t_MOST_WEIGHT)))
    (kt_bool_NoneType:PySem.W.kitOne K (.type "NoneType") (.type "bool")=some false)
    (kt_bool_bool:PySem.W.kitOne K (.type "bool") (.type "bool")=some true)
    (kt_bool_int:PySem.W.kitOne K (.type "int") (.type "bool")=some false)
    (kt_bool_str:PySem.W.kitOne K (.type "str") (.type "bool")=some false)
    (kt_bool_list:PySem.W.kitOne K (.type "list") (.type "bool")=some false)
    (kt_bool_tuple:PySem.W.kitOne K (.type "tuple") (.type "bool")=some false)
    (kt_bool_dict:PySem.W.kitOne K (.type "dict") (.type "bool")=some false)
    (kt_int_NoneType:PySem.W.kitOne K (.type "NoneType") (.type "int")=some false)
    (kt_int_bool:PySem.W.kitOne K (.type "bool") (.type "int")=some true)
    (kt_int_int:PySem.W.kitOne K (.type "int") (.type "int")=some true)
    (kt_int_str:PySem.W.kitOne K (.type "str") (.type "int")=some false)
    (kt_int_list:PySem.W.kitOne K (.type "list") (.type "int")=some false)
    (kt_int_tuple:PySem.W.kitOne K (.type "tuple") (.type "int")=some false)
    (kt_int_dict:PySem.W.kitOne K (.type "dict") (.type "int")=some false)
    (nl:kr K=true) :
    ∃ Fl:List D->Res D,(∀ ns:List Int,ns.length<=63->Fl [.scr ns]=.ok (.bl true))/\kr K=true/\∃ fd:FuncData,(∀ (s:Shared) (v:Value),BindsTo s fd ⟨[v],[]⟩ [("script", v)])/\∀ base:Heap,K.In base->base.Ns mainGlobals mg->FnOk l.prog w K mg base (CXm l.prog w) 6 fa fd ["script"] (spF 1 Fl):=by
 have B:Bl K mg ⟨A_0,A_1⟩:=⟨PySem.W.mg_none_of X G b_all,PySem.W.mg_none_of X G b_bool,PySem.W.mg_none_of X G b_enumerate,PySem.W.mg_none_of X G b_int,PySem.W.mg_none_of X G b_isinstance,PySem.W.mg_none_of X G b_len,PySem.W.mg_none_of X G b_list,PySem.W.mg_none_of X G b_max,PySem.W.mg_none_of X G b_min,PySem.W.mg_none_of X G b_range,PySem.W.mg_none_of X G b_sorted,PySem.W.mg_none_of X G b_zip,⟨_,PySem.W.mg_of X G v_MOST_SIDE⟩,⟨_,PySem.W.mg_of X G v_MOST_WALKERS⟩,⟨_,PySem.W.mg_of X G v_MOST_WEIGHT⟩,kt7 kt_bool_NoneType kt_bool_bool kt_bool_int kt_bool_str kt_bool_list kt_bool_tuple kt_bool_dict,kt7 kt_int_NoneType kt_int_bool kt_int_int kt_int_str kt_int_list kt_int_tuple kt_int_dict,xQ X G g_0 e_0,⟨pg_1,hd_1,po_1,sa_1⟩,na_Net_columns,na_Net_ends,na_Net_right,na_Net_rows,na_Net_starts,na_Net_up⟩
 have F_Net:=mw (st:=jP 10 0) l_1 c_1 k_1;have b_Net:=F_Net.binds (ps:=["self", "right", "up", "starts", "ends"]) (fun _ _ _ _ _ _=>ar5 fun _ _ _ _ _=>rfl);have e:=hfa.symm.trans (PySem.W.mg_of X G g_law)
 cases e
 have UL:=mw (st:=top 36) l_law c_law k_law;refine ⟨pM ⟨A_0,A_1⟩,main ⟨A_0,A_1⟩,nl,PySem.W.fnOf "law" "law" (eI (top 36)) (cK (top 36)) (az (top 36)) .none kV_law dc_law pm_law an_law cd_law ct_law,fun s v=>.of_eq rfl,fun base _ _=>?_⟩;have C_17:=pu (P:=l.prog) (w:=w) (base:=base) B U_17 ;have C_18:=nS (P:=l.prog) (w:=w) (base:=base) B U_18 ;have C_16:=mL (P:=l.prog) (w:=w) (base:=base) B U_16 
 have C_1:=B5 (P:=l.prog) (w:=w) (base:=base) B ⟨f_1,_,F_Net,PySem.W.mg_of X G g_1,⟨mk_1,i_1,n_1,kc_1⟩,b_Net⟩ C_16 C_17 C_18;have C_19:=uj (P:=l.prog) (w:=w) (base:=base) B U_19 ;have C_27:=jo (P:=l.prog) (w:=w) (base:=base) B U_27 C_19;have C_28:=xX (P:=l.prog) (w:=w) (base:=base) B U_28 C_27;have C_21:=j4 (P:=l.prog) (w:=w) (base:=base) B U_21 
 have C_26:=uk (P:=l.prog) (w:=w) (base:=base) B U_26 ;have C_20:=B6 (P:=l.prog) (w:=w) (base:=base) B U_20 C_21 C_26;have C_24:=nT (P:=l.prog) (w:=w) (base:=base) B U_24 C_20 C_28;have C_25:=md (P:=l.prog) (w:=w) (base:=base) B U_25 ;have C_22:=rO (P:=l.prog) (w:=w) (base:=base) B U_22 C_1 C_24 C_25;have C_3:=mQ (P:=l.prog) (w:=w) (base:=base) B U_3 
 have C_6:=rP (P:=l.prog) (w:=w) (base:=base) B U_6 ;have C_15:=pv (P:=l.prog) (w:=w) (base:=base) B U_15 ;have C_10:=mS (P:=l.prog) (w:=w) (base:=base) B U_10 C_6;have C_12:=mT (P:=l.prog) (w:=w) (base:=base) B U_12 C_6;have C_8:=me (P:=l.prog) (w:=w) (base:=base) B U_8 C_3 C_10 C_12;have C_7:=rQ (P:=l.prog) (w:=w) (base:=base) B U_7 C_1;have C_11:=qB (P:=l.prog) (w:=w) (base:=base) B U_11 
 have C_14:=qC (P:=l.prog) (w:=w) (base:=base) B U_14 C_11;have C_2:=rR (P:=l.prog) (w:=w) (base:=base) B U_2 C_11;have C_4:=lG (P:=l.prog) (w:=w) (base:=base) B U_4 C_2;have C_9:=nU (P:=l.prog) (w:=w) (base:=base) B U_9 C_14;have C_5:=qD (P:=l.prog) (w:=w) (base:=base) B U_5 ;have C_13:=qE (P:=l.prog) (w:=w) (base:=base) B U_13 C_11
 exact zW (P:=l.prog) (w:=w) (base:=base) B UL C_3 C_4 C_5 C_7 C_8 C_9 C_13 C_14 C_15 C_22 C_24
end Lw
namespace Lw
open PySem PySem.W
section
variable {tb:String->Option Builtin}{p:Program}{w:World}{n₀:Nat}{ann:Option Value}
def um(tb:String->Option Builtin)(p:Program)(w:World)(n₀:Nat)(ann:Option Value):Nat->SharedT->Thread->Option SharedT
 | 0,_,_=>none
 |n+1,s,t=>match through t with
  |true=>some s
  |false=>match stepOk n₀ ann t with
   |false=>none
   |true=>match stepT (denote tb) p w s t with
    |some (s',t')=>um tb p w n₀ ann n s' t'
    |none=>none
theorem zX(n:Nat):∀ (s r:SharedT) (t:Thread),um tb p w n₀ ann n s t=some r->topRun tb p w n₀ ann n s.abs t=some r.abs:=by
 induction n with
 |zero=>intro s r t h;cases h
 |succ n ih=>
  intro s r t h;unfold um at h;unfold topRun
  cases ht:through t with
  |true=>rw[ht] at h;cases h;rfl
  |false=>
   rw[ht] at h
   cases hk:stepOk n₀ ann t with
   |false=>rw[hk] at h;cases h
   |true=>
    rw[hk] at h
    cases hs:stepT (denote tb) p w s t with
    |none=>rw[hs] at h;cases h
    |some x=>
     rw[hs] at h;have e:=stepT_spec hs;dsimp only;rw[e];exact ih _ _ _ h
end
def uo(P:Params):BT:=(boot_heap P).objs.toList.zipIdx.foldl (fun t x=>t.ins x.2 x.1) .nil
def nV(tb:String->Option Builtin)(p:Program)(w:World)(N n:Nat)(life:Life)(ann:Option Value)(os:OsState):Option SharedT:=um tb p w n ann N ⟨uo w.params,n,life,Array.mk [],boot_drawn,boot_toks,os⟩ (topStub p)
theorem B8{p q:Program}{loose:List Str}{Xt:Shared->Bool}{α:Type}{Yf:Shared->α}{Ya:World->α}{N n:Nat}{life:Life}{ann:Option Value}
    (e:opening p=plainProg p.main.scope.names) (hN:Nat.ble 600 N=true) (f:∀ s,fenceModules? p s=some s)
    (ht:∀ P,absHeap (uo P) n life=boot_heap P)
    (size:∀ P,((boot_heap P).isNs mainGlobals,(boot_heap P).objs.size,(boot_heap P).nsMap mainGlobals "__annotations__")=(true,n,ann))
    (h1:∀ (w:World) (os:OsState),(nV treeTable p w N n life ann os).map (fun r=>(staticsOk (importedModules p.main.body) (boot_heap w.params) r.abs.heap&&namesBound p r.abs.heap&&gensDone r.abs&&laidKept (boot_heap w.params) r.abs.heap,Yf r.abs))=some (true,Ya w))
    (h2:∀ (w:World) (os:OsState),(nV treeTable p w N n life ann os).map (fun r=>(openSeen q loose (importedModules p.main.body) Xt true r.abs).1)=some (openGood q loose).1)
    (h3:∀ (w:World) (os:OsState),(nV treeTable p w N n life ann os).map (fun r=>(openSeen q loose (importedModules p.main.body) Xt true r.abs).2)=some (openGood q loose).2):LeftO p q loose Xt Yf Ya N:=fun w=>by
 obtain ⟨⟨hp,gs,d,k,os⟩,e1,e2⟩:=Option.map_eq_some_iff.mp (boot_open e hN f w);obtain ⟨rfl,rfl,rfl,rfl⟩:hp=boot_heap w.params/\gs=Array.mk []/\d=boot_drawn/\k=boot_toks:=by simpa using e2
 obtain ⟨z1,z2,z3⟩:_/\_/\_:=by simpa only[Prod.mk.injEq] using size w.params
 obtain ⟨r,hr,e3⟩:=Option.map_eq_some_iff.mp (h1 w os);obtain ⟨l1,l3⟩:_/\_:=by simpa only[Prod.mk.injEq] using e3
 have h2:=h2 w os;have h3:=h3 w os;rw[hr] at h2 h3;have l2:=Prod.ext (Option.some.inj h2) (Option.some.inj h3);have t:=zX _ _ _ _ hr;have a:(⟨uo w.params,n,life,Array.mk [],boot_drawn,boot_toks,os⟩:SharedT).abs=⟨boot_heap w.params,Array.mk [],boot_drawn,boot_toks,os⟩:=by unfold SharedT.abs;rw[ht]
 rw[a] at t;have tf:topFrom treeTable p w N ⟨boot_heap w.params,Array.mk [],boot_drawn,boot_toks,os⟩=some r.abs:=by
  unfold topFrom;dsimp only;rw[z1,z2,z3,t];show (match staticsOk (importedModules p.main.body) (boot_heap w.params) r.abs.heap&&namesBound p r.abs.heap&&gensDone r.abs&&laidKept (boot_heap w.params) r.abs.heap with | true=>_ | false=>_)=_;rw[l1]
 unfold openEnds;rw[e1];show (topFrom treeTable p w N _).map _=_;rw[tf];exact congrArg some (Prod.ext l2 l3)
end Lw
namespace Lw
open PySem L2 Mi
abbrev vS(s:String)(t:Tok):Value:=.str (.ofString s) t
abbrev eS(P:Params)(s:String)(t:Tok)(v:Value):DictEntry:=⟨PyData.keyHash P (.ofString s),.str (.ofString s) t,v⟩
abbrev fD(n q:String)(st:Stmt)(dV kV doc pm:Value)(an:Option Addr)(cdv ct:Value):FuncData:=PySem.W.fnOf (.ofString n) (.ofString q) (eI st) (cK st) (az st) dV kV doc pm an cdv ct
abbrev fO(n q:String)(st:Stmt)(m:String)(t c:Nat):Obj:=⟨.type "function", none,.func (fD n q st .none .none .none (vS m t) none (.ref c) .none),#[]⟩
abbrev tO(l:List Value):Obj:=⟨.type "tuple", none,.seq l.toArray 0,#[]⟩
abbrev cO(n:String)(t1:Nat)(q:String)(t2 t3 l c r1 r2:Nat)(a b d e:Value)(i j t4:Nat):Obj:=⟨.type "code", none,.fields #[vS n t1,vS q t2,vS "/claim/cut.py" t3,.int l 0,.int c 0,.int 0 0,.int 0 0,.int 3 0,.ref r1,.bool true,.int 181 0,.ref r2,a,b,d,e,.int i 0,.int j 0,vS "/claim/cut.py" t4],#[]⟩
def khKeep:List Nat:=[1,2,4,5,6,7,8,9,10,12,13,14,15,16,17,18,19,20,22,23,24,25,26,27,28,29,30,31,32,33,34,35,36]
def khN:Nat:=3098
def uq:List Nat:=2::3::23::24::36::37::45::46::50::51::57::58::69::70::72::73::83::84::88::89::93::94::100::101::105::106::110::111::117::118::122::123::127::128::134::135::141::142::148::149::155::156::162::163::167::168::172::173::179::180::186::187::191::192::196::197::201::202::208::209::215::216::222::223::[]
def khK:Params->PySem.W.Frag:=fun P=>(nat_lit 2,⟨.none,none,.dict #[] 0,#[]⟩)::(nat_lit 3,⟨.type "dict", none,.dict #[eS P "__name__" 165 (vS "law_lonewalks_k12_whole_lone_weights" 351),eS P "__doc__" 166 .none,eS P "__package__" 167 .none,eS P "__loader__" 168 (.builtin "__main__.__loader__#opaque"),eS P "__spec__" 169 .none,eS P "__annotations__" 170 (.ref 6),eS P "__builtins__" 171 (.ref 4),eS P "__file__" 173 (vS "/claim/cut.py" 172),eS P "__cached__" 174 .none,eS P "WalkError" 206 (.ref 24),eS P "BadNet" 222 (.ref 37),eS P "MOST_SIDE" 226 (.int 8 225),eS P "MOST_WEIGHT" 228 (.int 1000 227),eS P "MOST_WALKERS" 230 (.int 4 229),eS P "check_side" 237 (.ref 46),eS P "check_steps" 243 (.ref 51),eS P "check_border" 253 (.ref 58),eS P "Net" 285 (.ref 73),eS P "climbed" 298 (.ref 84),eS P "sums_on_last_column" 304 (.ref 89),eS P "table" 310 (.ref 94),eS P "first_row_to_use" 319 (.ref 101),eS P "reduced" 325 (.ref 106),eS P "det" 331 (.ref 111),eS P "lone_weight" 338 (.ref 118),eS P "ones_for_open" 344 (.ref 123),eS P "how_many" 350 (.ref 128),eS P "_law_cell_at" 360 (.ref 135),eS P "_law_mix" 371 (.ref 142),eS P "_law_whole" 378 (.ref 149),eS P "_law_rows_by" 390 (.ref 156),eS P "_law_step_by" 400 (.ref 163),eS P "_law_parts_by" 406 (.ref 168),eS P "_law_net" 412 (.ref 173),eS P "_law_step" 422 (.ref 180),eS P "_law_went" 436 (.ref 187),eS P "_law_all" 442 (.ref 192),eS P "_law_companies" 448 (.ref 197),eS P "_law_places" 454 (.ref 202),eS P "_law_lone" 464 (.ref 209),eS P "_law_sums" 479 (.ref 216),eS P "law" 497 (.ref 223)] 42,#[]⟩)::(nat_lit 23,⟨.type "dict", none,.dict #[eS P "__module__" 196 (vS "lonewalks.errors" 187),eS P "__firstlineno__" 200 (.int 2 199),eS P "__static_attributes__" 201 (.ref 22),eS P "__weakref__" 203 (.ref 25),eS P "__doc__" 204 .none] 3,#[]⟩)::(nat_lit 24,⟨.type "type", none,.cls ⟨.ofString "WalkError", [.type "ValueError"],[.ref 24,.type "ValueError", .type "Exception", .type "BaseException", .type "object"],23,.ofString "WalkError", true,[],[.ref 37],false,none,false⟩,#[(some (.ref 15)),none,(some (vS "WalkError" 189)),(some (vS "WalkError" 197)),(some (.builtin "ValueError.__new__")),(some (.bool true))]⟩)::(nat_lit 36,⟨.type "dict", none,.dict #[eS P "__module__" 214 (vS "lonewalks.errors" 187),eS P "__firstlineno__" 218 (.int 4 217),eS P "__static_attributes__" 219 (.ref 35),eS P "__doc__" 220 .none] 2,#[]⟩)::(nat_lit 37,⟨.type "type", none,.cls ⟨.ofString "BadNet", [.ref 24],[.ref 37,.ref 24,.type "ValueError", .type "Exception", .type "BaseException", .type "object"],36,.ofString "BadNet", true,[],[],false,none,false⟩,#[(some (.ref 28)),none,(some (vS "BadNet" 207)),(some (vS "BadNet" 215)),(some (.builtin "ValueError.__new__")),(some (.bool true))]⟩)::(nat_lit 45,cO "check_side" 231 "check_side" 232 233 10 1 40 41 .none (.ref 42) (.ref 43) (.ref 44) 235 10 236)::(nat_lit 46,fO "check_side" "check_side" (top 7) "lonewalks.nets" 223 45)::(nat_lit 50,cO "check_steps" 238 "check_steps" 239 240 13 3 47 48 .none .none .none (.ref 49) 241 13 242)::(nat_lit 51,fO "check_steps" "check_steps" (top 8) "lonewalks.nets" 223 50)::(nat_lit 57,cO "check_border" 244 "check_border" 245 246 21 2 52 53 .none (.ref 54) (.ref 55) (.ref 56) 251 21 252)::(nat_lit 58,fO "check_border" "check_border" (top 9) "lonewalks.nets" 223 57)::(nat_lit 69,cO "__init__" 266 "Net.__init__" 267 268 31 5 66 67 .none .none .none (.ref 68) 269 31 270)::(nat_lit 70,fO "__init__" "Net.__init__" (jP 10 0) "lonewalks.nets" 223 69)::(nat_lit 72,⟨.type "dict", none,.dict #[eS P "__module__" 261 (vS "lonewalks.nets" 223),eS P "__firstlineno__" 265 (.int 29 264),eS P "__init__" 271 (.ref 70),eS P "__static_attributes__" 278 (.ref 71),eS P "__dict__" 280 (.ref 74),eS P "__weakref__" 282 (.ref 75),eS P "__doc__" 283 .none] 4,#[]⟩)::(nat_lit 73,⟨.type "type", none,.cls ⟨.ofString "Net", [.type "object"],[.ref 73,.type "object"],72,.ofString "Net", true,[],[],false,none,false⟩,#[none,none,(some (vS "Net" 254)),(some (vS "Net" 262)),(some (.builtin "object.__new__")),(some (.bool true))]⟩)::(nat_lit 83,cO "climbed" 288 "climbed" 289 290 49 3 78 79 .none (.ref 80) (.ref 81) (.ref 82) 296 49 297)::(nat_lit 84,fO "climbed" "climbed" (top 12) "lonewalks.counts" 286 83)::(nat_lit 88,cO "sums_on_last_column" 299 "sums_on_last_column" 300 301 54 2 85 86 .none .none .none (.ref 87) 302 54 303)::(nat_lit 89,fO "sums_on_last_column" "sums_on_last_column" (top 13) "lonewalks.counts" 286 88)::(nat_lit 93,cO "table" 305 "table" 306 307 60 1 90 91 .none .none .none (.ref 92) 308 60 309)::(nat_lit 94,fO "table" "table" (top 14) "lonewalks.counts" 286 93)::(nat_lit 100,cO "first_row_to_use" 311 "first_row_to_use" 312 313 66 1 95 96 .none (.ref 97) (.ref 98) (.ref 99) 317 66 318)::(nat_lit 101,fO "first_row_to_use" "first_row_to_use" (top 15) "lonewalks.counts" 286 100)::(nat_lit 105,cO "reduced" 320 "reduced" 321 322 71 3 102 103 .none .none .none (.ref 104) 323 71 324)::(nat_lit 106,fO "reduced" "reduced" (top 16) "lonewalks.counts" 286 105)::(nat_lit 110,cO "det" 326 "det" 327 328 73 1 107 108 .none .none .none (.ref 109) 329 73 330)::(nat_lit 111,fO "det" "det" (top 17) "lonewalks.counts" 286 110)::(nat_lit 117,cO "lone_weight" 332 "lone_weight" 333 334 87 1 112 113 .none (.ref 114) (.ref 115) (.ref 116) 336 87 337)::(nat_lit 118,fO "lone_weight" "lone_weight" (top 18) "lonewalks.counts" 286 117)::(nat_lit 122,cO "ones_for_open" 339 "ones_for_open" 340 341 89 1 119 120 .none .none .none (.ref 121) 342 89 343)::(nat_lit 123,fO "ones_for_open" "ones_for_open" (top 19) "lonewalks.counts" 286 122)::(nat_lit 127,cO "how_many" 345 "how_many" 346 347 91 1 124 125 .none .none .none (.ref 126) 348 91 349)::(nat_lit 128,fO "how_many" "how_many" (top 20) "lonewalks.counts" 286 127)::(nat_lit 134,cO "_law_cell_at" 353 "_law_cell_at" 354 355 96 2 129 130 .none (.ref 131) (.ref 132) (.ref 133) 358 96 359)::(nat_lit 135,fO "_law_cell_at" "_law_cell_at" (top 22) "law_lonewalks_k12_whole_lone_weights" 351 134)::(nat_lit 141,cO "_law_mix" 361 "_law_mix" 362 363 100 3 136 137 .none (.ref 138) (.ref 139) (.ref 140) 369 100 370)::(nat_lit 142,fO "_law_mix" "_law_mix" (top 23) "law_lonewalks_k12_whole_lone_weights" 351 141)::(nat_lit 148,cO "_law_whole" 372 "_law_whole" 373 374 105 1 143 144 .none (.ref 145) (.ref 146) (.ref 147) 376 105 377)::(nat_lit 149,fO "_law_whole" "_law_whole" (top 24) "law_lonewalks_k12_whole_lone_weights" 351 148)::(nat_lit 155,cO "_law_rows_by" 379 "_law_rows_by" 380 381 107 3 150 151 .none (.ref 152) (.ref 153) (.ref 154) 388 107 389)::(nat_lit 156,fO "_law_rows_by" "_law_rows_by" (top 25) "law_lonewalks_k12_whole_lone_weights" 351 155)::(nat_lit 162,cO "_law_step_by" 391 "_law_step_by" 392 393 113 3 157 158 .none (.ref 159) (.ref 160) (.ref 161) 398 113 399)::(nat_lit 163,fO "_law_step_by" "_law_step_by" (top 26) "law_lonewalks_k12_whole_lone_weights" 351 162)::(nat_lit 167,cO "_law_parts_by" 401 "_law_parts_by" 402 403 120 4 164 165 .none .none .none (.ref 166) 404 120 405)::(nat_lit 168,fO "_law_parts_by" "_law_parts_by" (top 27) "law_lonewalks_k12_whole_lone_weights" 351 167)::(nat_lit 172,cO "_law_net" 407 "_law_net" 408 409 134 1 169 170 .none .none .none (.ref 171) 410 134 411)::(nat_lit 173,fO "_law_net" "_law_net" (top 28) "law_lonewalks_k12_whole_lone_weights" 351 172)::(nat_lit 179,cO "_law_step" 413 "_law_step" 414 415 137 4 174 175 .none (.ref 176) (.ref 177) (.ref 178) 420 137 421)::(nat_lit 180,fO "_law_step" "_law_step" (top 29) "law_lonewalks_k12_whole_lone_weights" 351 179)::(nat_lit 186,cO "_law_went" 423 "_law_went" 424 425 143 4 181 182 .none (.ref 183) (.ref 184) (.ref 185) 434 143 435)::(nat_lit 187,fO "_law_went" "_law_went" (top 30) "law_lonewalks_k12_whole_lone_weights" 351 186)::(nat_lit 191,cO "_law_all" 437 "_law_all" 438 439 159 3 188 189 .none .none .none (.ref 190) 440 159 441)::(nat_lit 192,fO "_law_all" "_law_all" (top 31) "law_lonewalks_k12_whole_lone_weights" 351 191)::(nat_lit 196,cO "_law_companies" 443 "_law_companies" 444 445 171 2 193 194 .none .none .none (.ref 195) 446 171 447)::(nat_lit 197,fO "_law_companies" "_law_companies" (top 32) "law_lonewalks_k12_whole_lone_weights" 351 196)::(nat_lit 201,cO "_law_places" 449 "_law_places" 450 451 187 2 198 199 .none .none .none (.ref 200) 452 187 453)::(nat_lit 202,fO "_law_places" "_law_places" (top 33) "law_lonewalks_k12_whole_lone_weights" 351 201)::(nat_lit 208,cO "_law_lone" 455 "_law_lone" 456 457 189 1 203 204 .none (.ref 205) (.ref 206) (.ref 207) 462 189 463)::(nat_lit 209,fO "_law_lone" "_law_lone" (top 34) "law_lonewalks_k12_whole_lone_weights" 351 208)::(nat_lit 215,cO "_law_sums" 465 "_law_sums" 466 467 197 2 210 211 .none (.ref 212) (.ref 213) (.ref 214) 477 197 478)::(nat_lit 216,fO "_law_sums" "_law_sums" (top 35) "law_lonewalks_k12_whole_lone_weights" 351 215)::(nat_lit 222,cO "law" 480 "law" 481 482 209 1 217 218 .none (.ref 219) (.ref 220) (.ref 221) 495 209 496)::(nat_lit 223,fO "law" "law" (top 36) "law_lonewalks_k12_whole_lone_weights" 351 222)::[]
def vw:Program:={ PySem.Challenge.pw_lonewalks_k12_whole_lone_weights with main:={ PySem.Challenge.pw_lonewalks_k12_whole_lone_weights.main with body:=khKeep.map top } }
end Lw
namespace Lw
open PySem PySem.W PyProof.Rows
abbrev khL:Life:={ debug:=0,thresholds:=[2000,10,10] }
abbrev khX(s:Shared):Bool:=xlAt vw [] s&&recOk (RowW.records (OpenRow.toRowW (OpenLaw.row PySem.Challenge.rw_lonewalks_k12_whole_lone_weights))) s
abbrev khH:Hook:=kHook khK uq (fun _=>by kernel_rfl)
set_option maxRecDepth 100000
theorem left1(w:World)(os:OsState):(nV treeTable (OpenLaw.row PySem.Challenge.rw_lonewalks_k12_whole_lone_weights).prog w khN 11 khL (some (.ref 6)) os).map (fun r=>(staticsOk (importedModules (OpenLaw.row PySem.Challenge.rw_lonewalks_k12_whole_lone_weights).prog.main.body) (boot_heap w.params) r.abs.heap&&namesBound (OpenLaw.row PySem.Challenge.rw_lonewalks_k12_whole_lone_weights).prog r.abs.heap&&gensDone r.abs&&laidKept (boot_heap w.params) r.abs.heap,khH.obs r.abs))=some (true,khH.val w):=by
 rewrite[Fast.te5923862056798008813,Fast.te2368527892694137696,Fast.te14364793385576792824];kernel_rfl
theorem DA(w:World)(os:OsState):(nV treeTable (OpenLaw.row PySem.Challenge.rw_lonewalks_k12_whole_lone_weights).prog w khN 11 khL (some (.ref 6)) os).map (fun r=>(openSeen vw [] (importedModules (OpenLaw.row PySem.Challenge.rw_lonewalks_k12_whole_lone_weights).prog.main.body) khX true r.abs).1)=some (openGood vw []).1:=by
 rewrite[Fast.te4187177175401517315,Fast.te5923862056798008813,Fast.te2368527892694137696,Fast.te14364793385576792824];kernel_rfl
theorem DB(w:World)(os:OsState):(nV treeTable (OpenLaw.row PySem.Challenge.rw_lonewalks_k12_whole_lone_weights).prog w khN 11 khL (some (.ref 6)) os).map (fun r=>(openSeen vw [] (importedModules (OpenLaw.row PySem.Challenge.rw_lonewalks_k12_whole_lone_weights).prog.main.body) khX true r.abs).2)=some (openGood vw []).2:=by
 rewrite[Fast.te4187177175401517315,Fast.te5923862056798008813,Fast.te2368527892694137696,Fast.te14364793385576792824];kernel_rfl
theorem left:LeftO (OpenLaw.row PySem.Challenge.rw_lonewalks_k12_whole_lone_weights).prog vw [] khX khH.obs khH.val khN:=
 B8 (n:=11) (life:=khL) (ann:=some (.ref 6)) (by kernel_rfl) (by kernel_rfl) (fun s=>by kernel_rfl) (fun P=>by kernel_rfl) (fun P=>by kernel_rfl) left1 DA DB
end Lw
namespace Lw
open Mi PySem
section
theorem bok{α β:Type}(a:α)(f:α->Res β):(Res.ok a >>= f)=f a:=rfl
theorem Em{α β:Type}(f:α->Res β):((Res.bad:Res α) >>= f)=.bad:=rfl
theorem Eo{α β:Type}(C:Value)(f:α->Res β):((Res.exc C:Res α) >>= f)=.exc C:=rfl
theorem aok{α:Type}(a:α)(k:α->FOut):aft (Res.ok a) k=k a:=rfl
theorem Ep{α:Type}(C:Value)(k:α->FOut):aft (Res.exc C:Res α) k=.exc C:=rfl
theorem lv(i:Int):(D.int i).tag=.f:=rfl
theorem zY(i:Str):(D.str i).tag=.f:=rfl
theorem B9(i:Bool):(D.bl i).tag=.f:=rfl
theorem zZ:D.non.tag=.f:=rfl
theorem z6(i:List D):(D.tup i).tag=.f:=rfl
theorem nW(t:Tg)(i:List D):(D.lst t i).tag=t:=rfl
theorem z7(t:Tg)(C:Addr)(i):(D.ins t C i).tag=t:=rfl
theorem z8(i:List Int):(D.scr i).tag=.f:=rfl
theorem wl(i:Int):(D.int i).rd=.int i:=rfl
theorem wm(i:Str):(D.str i).rd=.str i:=rfl
theorem yR(i:Bool):(D.bl i).rd=.bl i:=rfl
theorem Ca:D.non.rd=.non:=rfl
theorem wn(i:List D):(D.tup i).rd=.tup i:=rfl
theorem wo(i:List D):(D.lst .f i).rd=.lst .f i:=rfl
theorem wp(i:List D):(D.lst .o i).rd=.lst .b i:=rfl
theorem wq(i:List Int):(D.scr i).rd=.scr i:=rfl
theorem sJ(C:Addr)(i):(D.ins .f C i).rd=.ins .f C i:=rfl
theorem Cb(p C:Addr)(i):(D.slf p C i).rd=.ins .b C i:=rfl
theorem ay(i:Int):(D.int i).fz=.int i:=rfl
theorem dR(i:Str):(D.str i).fz=.str i:=rfl
theorem iu(i:Bool):(D.bl i).fz=.bl i:=rfl
theorem gj:D.non.fz=.non:=rfl
theorem dD(i:List D):(D.tup i).fz=.tup (D.fzs i):=rfl
theorem aW(t:Tg)(i:List D):(D.lst t i).fz=.lst .f (D.fzs i):=rfl
theorem gm(t:Tg)(C:Addr)(i):(D.ins t C i).fz=.ins .f C i:=rfl
theorem aC:D.fzs []=[]:=rfl
theorem ao(x:D)(r:List D):D.fzs (x::r)=x.fz::D.fzs r:=rfl
theorem lx(i j:Int):aL (.int i) (.int j)=.ok (.int (i+j)):=rfl
theorem yS(i j:Int):cR (.int i) (.int j)=.ok (.int (i - j)):=rfl
theorem jQ(i j:Int)(h:-(2 ^ 64)<j/\j<2 ^ 64):bB (.int i) (.int j)=.ok (.int (i*j)):=by
 unfold bB gI;simp only;rw[if_pos (by rw[Bool.or_eq_true];right;rw[Bool.and_eq_true,decide_eq_true_eq,decide_eq_true_eq];exact h)]
theorem jz(i j:Int)(h:-(2 ^ 64)<i/\i<2 ^ 64):bB (.int i) (.int j)=.ok (.int (i*j)):=by
 unfold bB gI;simp only;rw[if_pos (by rw[Bool.or_eq_true];left;rw[Bool.and_eq_true,decide_eq_true_eq,decide_eq_true_eq];exact h)]
theorem gS(i j:Int)(h:0<j):cS (.int i) (.int j)=.ok (.int (i % j)):=by
 unfold cS gI;simp only;rw[if_pos (by simpa using h)]
theorem wr(i j:Int)(h:0<j/\j<1073741824):mz (.int i) (.int j)=.ok (.int (i / j)):=by
 unfold mz gI;simp only;rw[if_pos (by rw[Bool.and_eq_true,decide_eq_true_eq,decide_eq_true_eq];exact h)]
theorem wu(ns:List Int):a8 [.scr ns]=.ok (.int ns.length):=rfl
theorem Cc(i j:Int):dLt (.int i) (.int j)=.ok (.bl (decide (i<j))):=rfl
theorem Cd(i j:Int):dLe (.int i) (.int j)=.ok (.bl (decide (i<=j))):=rfl
theorem xY(i j:Int):dGt (.int i) (.int j)=.ok (.bl (decide (j<i))):=rfl
theorem Ce(i j:Int):dGe (.int i) (.int j)=.ok (.bl (decide (j<=i))):=rfl
theorem bnf(b:Bool):(false != b)=b:=by cases b<;>rfl
theorem yT(i j:Int):dEq (.int i) (.int j)=.ok (.bl (decide (i=j))):=congrArg (fun b=>Res.ok (D.bl b)) (bnf _)
theorem yU(i j:Str):dEq (.str i) (.str j)=.ok (.bl (decide (i=j))):=congrArg (fun b=>Res.ok (D.bl b)) (bnf _)
theorem ut(i j:Int):eM true (.int i) (.int j)=.ok (.bl (!decide (i=j))):=congrArg (fun b=>Res.ok (D.bl b)) (by cases decide (i=j)<;>rfl)
theorem jh(b:Bool):asB (.bl b)=.ok b:=rfl
theorem ntb{t:Tg}(h:(t == .b)=false):t≠.b:=by
 intro z;subst z
 cases h
theorem Cf:(Tg.f == Tg.b)=false:=rfl
theorem Cg:(Tg.o == Tg.b)=false:=rfl
theorem c7(i:Nat)(ρ:ae)(d:D)(h:ρ[i]?=some (some d)):ad i ρ=.ok d.rd:=by unfold ad;rw[h]
end
end Lw
local macro_rules | `(tactic| simp_arith [$ts,*])=>`(tactic| simp only[Lw.bok,Lw.Em,Lw.Eo,Lw.aok,Lw.Ep,Mi.bj,Mi.ar,Mi.gIf,Mi.aw,Mi.bc,Mi.aP,Mi.ft2,Mi.ftB,Mi.cY,Mi.f2,Mi.f1,Mi.fC,Mi.fFz,Mi.ad,Mi.fCB,Mi.ac,Mi.ah,Mi.bv,Mi.bY,Mi.nb,List.all_cons,List.all_nil,List.length_cons,List.length_nil,List.map_cons,List.map_nil,Lw.lv,Lw.zY,Lw.B9,Lw.zZ,Lw.z6,Lw.nW,Lw.z7,Lw.z8,Lw.wl,Lw.wm,Lw.yR,Lw.Ca,Lw.wn,Lw.wo,Lw.wp,Lw.wq,Lw.sJ,Lw.Cb,Lw.ay,Lw.dR,Lw.iu,Lw.gj,Lw.dD,Lw.aW,Lw.gm,Lw.aC,Lw.ao,Lw.lx,Lw.yS,Lw.Cc,Lw.Cd,Lw.xY,Lw.Ce,Lw.yT,Lw.yU,Lw.ut,Lw.jh,Lw.Cf,Lw.Cg,List.getElem?_cons_zero,List.getElem?_cons_succ,List.set_cons_zero,List.set_cons_succ,List.replicate,List.cons_append,List.nil_append,reduceCtorEq,false_or,or_false,or_self,if_false,if_true,ite_true,ite_false,Nat.reduceAdd,Nat.reduceSub,Nat.reduceLeDiff,Nat.zero_add,Bool.and_true,Bool.true_and,Bool.not_true,Bool.not_false,decide_true,decide_false,$ts,*])
namespace Lw
open Mi PySem
def cell(ns:List Int)(k:Nat):Int:=(ns[k]?).getD 0
theorem sL(a:Ads)(ns:List Int)(k:Nat):aA a [.scr ns,.int k]=.ok (.int (cell ns k)):=by
 by_cases h:(k:Int)<ns.length
 ·have hk:k<ns.length:=by lia
  have hx:L2.atI ns (k:Int)=some (ns[k]):=by
   unfold L2.atI L2.ixN;rw[if_pos (by lia),if_pos h];exact List.getElem?_eq_getElem hk
  have hd:dIx (.scr ns) (.int k)=.ok (.int (cell ns k)):=by
   show (match L2.atI ns (k:Int) with | some v=>Res.ok (D.int v) | none=>.bad)=_;rw[hx,cell,List.getElem?_eq_getElem hk];rfl
  simp_arith [aA,gJ,wu,h,hd]
 ·have hc:cell ns k=0:=by rw[cell,List.getElem?_eq_none (by lia)];rfl
  simp_arith [aA,gJ,wu,h,hc]
theorem dS{t:Tg}(xs:List Int)(i:Int)(h0:0<=i)(h1:i<xs.length):dIx (.lst t (xs.map D.int)) (.int i)=.ok (.int (xs.getD i.toNat 0)):=by
 have hj:i.toNat<xs.length:=by lia
 have e:L2.ixN (xs.map D.int).length i=some i.toNat:=by
  unfold L2.ixN;rw[List.length_map,if_pos h0,if_pos h1]
 unfold dIx;simp only[e];have g:(xs.map D.int)[i.toNat]?=some (.int (xs.getD i.toNat 0)):=by rw[List.getElem?_map,List.getD,List.getElem?_eq_getElem hj];rfl
 cases t
 ·show bT ((xs.map D.int)[i.toNat]?.map D.asF)=_;rw[g];rfl
 ·show bT ((xs.map D.int)[i.toNat]?)=_;rw[g];rfl
 ·show bT ((xs.map D.int)[i.toNat]?.map D.rd)=_;rw[g];rfl
def tbl:List Int:=[48271,69621,16807,39373,30269,40014,40692,50021,61687,71993,83869,95561,30307]
def tb(k:Int):Int:=tbl.getD (k % 13).toNat 0
def dm(c k many:Int):Int:=((c % 2147483647+12345)*tb k*(2*(k / 13)+1)+977*k) % 1000000007 / 7 % many
theorem mW(a:Ads)(c k many:Int)(k0:0<=k)(k1:k<1000000)(hm:0<many):b9 a [.int c,.int k,.int many]=.ok (.int (dm c k many)):=by
 have hi:=dS (t:=.f) tbl (k % 13) (by lia) (by show k % 13<13;lia);have hi':dIx (D.lst .f [D.int 48271,D.int 69621,D.int 16807,D.int 39373,D.int 30269,D.int 40014,D.int 40692,D.int 50021,D.int 61687,D.int 71993,D.int 83869,D.int 95561,D.int 30307]) (.int (k % 13))=.ok (.int (tb k)):=hi;have hz:(13:Nat)<=sizeLine:=by decide
 have b1:tb k<100000:=by
  have:∀ j,tbl.getD j 0<100000:=by
   intro j;simp only[tbl]
   match j with
   | 0 | 1 | 2 | 3 | 4 | 5 | 6 | 7 | 8 | 9 | 10 | 11 | 12=>decide
   |n+13=>simp
  exact this _
 have b0:-1<tb k:=by
  have:∀ j,-1<tbl.getD j 0:=by
   intro j;simp only[tbl]
   match j with
   | 0 | 1 | 2 | 3 | 4 | 5 | 6 | 7 | 8 | 9 | 10 | 11 | 12=>decide
   |n+13=>simp
  exact this _
 have hz:(13:Nat)<=sizeLine:=by decide
 simp_arith [b9,mR,hz,hi',gS c 2147483647 (by decide),gS k 13 (by decide),jQ _ (tb k) (by lia),wr k 13 (by decide),jz 2 _ (by decide),jQ _ (2*(k / 13)+1) (by lia),jz 977 _ (by decide),gS _ 1000000007 (by decide),wr _ 7 (by decide),gS _ many hm,dm]
theorem cG{n:Nat}{F:List D->Res D}{fa:ae->Res (List D)}{ρ:ae}{ds:List D}{d:D}(h:fa ρ=.ok ds)(hn:ds.length=n)(hF:F (D.fzs ds)=.ok d)(ha:d.atom=true):aq n F fa ρ=.ok d:=by
 unfold aq;rw[h,bok,if_pos hn];unfold ee;rw[hF];show (if _ then _ else _)=_;rw[if_pos (.inr ha)]
theorem ly(c k many:Int)(h:0<many):0<=dm c k many/\dm c k many<many:=⟨Int.emod_nonneg _ (by lia),Int.emod_lt_of_pos _ h⟩
def fu(c k shut:Int):Int:=if dm c k shut=0 then 0 else if dm c k shut=1 then [1000,c % 1001].getD (dm c (k+500) 2).toNat 0 else 1+dm c (k+900) 5
theorem qF(c k shut:Int)(h:0<shut):0<=fu c k shut/\fu c k shut<=1000:=by
 unfold fu;split
 ·lia
 ·split
  ·have h2:=ly c (k+500) 2 (by decide)
   have:dm c (k+500) 2=0\/dm c (k+500) 2=1:=by lia
   rcases this with e | e<;>rw[e] <;> simp<;>lia
  ·have:=ly c (k+900) 5 (by decide)
   lia
theorem sM(a:Ads)(c k shut:Int)(k0:0<=k)(k1:k<900000)(hs:0<shut):bO a [.int c,.int k,.int shut]=.ok (.int (fu c k shut)):=by
 have m1:∀ (e:Option D),aq 3 (b9 a) (ac (ad 0) (ac (ad 1) (ac (ad 2) ah))) [some (.int c),some (.int k),some (.int shut),e]=.ok (.int (dm c k shut)):=fun e=>
  cG (ds:=[.int c,.int k,.int shut]) rfl rfl (by rw[ao,ao,ao,aC,ay,ay,ay];exact mW a c k shut k0 (by lia) hs) rfl
 have m2:∀ (e:Option D),aq 3 (b9 a) (ac (ad 0) (ac (f2 aL (ad 1) (fC (.int 500))) (ac (fC (.int 2)) ah))) [some (.int c),some (.int k),some (.int shut),e]=.ok (.int (dm c (k+500) 2)):=fun e=>
  cG (ds:=[.int c,.int (k+500),.int 2]) rfl rfl (by rw[ao,ao,ao,aC,ay,ay,ay];exact mW a c (k+500) 2 (by lia) (by lia) (by decide)) rfl
 have m3:∀ (e:Option D),aq 3 (b9 a) (ac (ad 0) (ac (f2 aL (ad 1) (fC (.int 900))) (ac (fC (.int 5)) ah))) [some (.int c),some (.int k),some (.int shut),e]=.ok (.int (dm c (k+900) 5)):=fun e=>
  cG (ds:=[.int c,.int (k+900),.int 5]) rfl rfl (by rw[ao,ao,ao,aC,ay,ay,ay];exact mW a c (k+900) 5 (by lia) (by lia) (by decide)) rfl
 have hz:(2:Nat)<=sizeLine:=by decide
 have h2:=ly c (k+500) 2 (by decide);have hix:dIx (D.lst .o [D.int 1000,D.int (c % 1001)]) (.int (dm c (k+500) 2))=.ok (.int ([1000,c % 1001].getD (dm c (k+500) 2).toNat 0)):=dS (t:=.o) [1000,c % 1001] _ h2.1 h2.2;unfold fu;by_cases h0:dm c k shut=0
 ·simp_arith [bO,fm,m1,h0]
 ·by_cases h1:dm c k shut=1
  ·simp_arith [bO,fm,m1,m2,h1,hz,hix,gS c 1001 (by decide),Int.reduceEq]
  ·simp_arith [bO,fm,m1,m3,h0,h1]
theorem kG{α β:Type}(f:α->β):∀ (l:List α) (q:Nat),(l.map f).eraseIdx q=(l.eraseIdx q).map f
 | [],_=>rfl
 |_::_,0=>rfl
 |x::l,q+1=>by simp[kG f l q]
theorem mX{α:Type}:∀ (l:List α) (q:Nat) (h:q<l.length),(l[q]::l.eraseIdx q).Perm l
 |x::l,0,_=>.refl _
 |x::l,q+1,h=>by
  have h':q<l.length:=by simpa using h
  exact (List.Perm.swap x _ _).trans (List.Perm.cons x (mX l q h'))
def stR(c many rows:Int)(L Fd:List Int)(e:Option D):ae:=[some (.int c),some (.int many),some (.int rows),some (.lst .o (L.map D.int)),some (.lst .o (Fd.map D.int)),e]
abbrev fkR(a:Ads):ae->Res D:=aq 3 (b9 a) (ac (ad 0) (ac (f2 bB (fC (.int 7)) (ad 5)) (ac (fCB a8 (ac (ad 3) ah)) ah)))
theorem z9(t:Tg)(xs:List D):a8 [.lst t xs]=.ok (.int xs.length):=rfl
theorem xZ(a:Ads)(c many rows:Int)(L Fd:List Int)(j:Nat)(hj:j<1000)(hL:0<L.length)(hL8:L.length<1000)(hF:Fd.length<1000) :
    ∃ q:Nat,∃ hq:q<L.length,eK 4 3 (fkR a) (stR c many rows L Fd (some (.int (0+(j:Int)))))=.nx (stR c many rows (L.eraseIdx q) (Fd++[L[q]]) (some (.int (0+(j:Int))))):=by
 have hm:=ly c (7*(0+(j:Int))) L.length (by lia);have hz:Fd.length<sizeLine:=Nat.lt_trans hF (by decide);refine ⟨(dm c (7*(0+(j:Int))) L.length).toNat,by lia,?_⟩;have hk:fkR a (stR c many rows L Fd (some (.int (0+(j:Int)))))=.ok (.int (dm c (7*(0+(j:Int))) L.length)):=by
  refine cG (ds:=[.int c,.int (7*(0+(j:Int))),.int L.length]) ?_ rfl ?_ rfl
  ·simp_arith [stR,z9,List.length_map,jz 7 _ (by decide)]
  ·rw[ao,ao,ao,aC,ay,ay,ay]
   exact mW a c _ _ (by lia) (by lia) (by lia)
 have hs:seqIndex? (dm c (7*(0+(j:Int))) L.length) (L.map D.int).length=some (dm c (7*(0+(j:Int))) L.length).toNat:=by
  refine (L2.nK ?_).1;unfold L2.ixN;rw[List.length_map,if_pos hm.1,if_pos hm.2]
 have hg:(L.map D.int)[(dm c (7*(0+(j:Int))) L.length).toNat]?=some (.int (L[(dm c (7*(0+(j:Int))) L.length).toNat]'(by lia))):=by
  rw[List.getElem?_map,List.getElem?_eq_getElem (by lia)];rfl
 have e4:(stR c many rows L Fd (some (.int (0+(j:Int)))))[4]?=some (some (.lst .o (Fd.map D.int))):=rfl;have e3:(stR c many rows L Fd (some (.int (0+(j:Int)))))[3]?=some (some (.lst .o (L.map D.int))):=rfl;unfold eK;simp only[e4,e3,hk,aok,hs,hg];rw[if_neg (by rw[lv,List.length_map];simp only[reduceCtorEq,false_or];lia)];rw[kG];simp[stR]
theorem bf{gt:D->ae->Res ae}{gb:ae->FOut}{x:D}{xs:List D}{ρ ρ1 ρ2:ae}{o:FOut}(h1:gt x ρ=.ok ρ1)(h2:gb ρ1=.nx ρ2)(h3:bo gt gb xs ρ2=o):bo gt gb (x::xs) ρ=o:=by
 show (match gt x ρ with
  | .ok ρ1=>match gb ρ1 with
   | .nx ρ2=>bo gt gb xs ρ2
   | .ct ρ2=>bo gt gb xs ρ2
   | .bk ρ2=>.nx ρ2
   |r=>r
  |_=>.bad)=o
 rw[h1];simp only[h2,h3]
theorem oW(a:Ads)(c many rows:Int):∀ (m i:Nat) (L Fd:List Int) (e:Option D),m<=L.length->L.length<1000->i+m<1000->Fd.length+m<1000 →
    ∃ L' Fd' e',bo (au 5) (eK 4 3 (fkR a)) ((List.range' i m).map fun (j:Nat)=>D.int (0+(j:Int))) (stR c many rows L Fd e)=.nx (stR c many rows L' Fd' e')/\(L'++Fd').Perm (L++Fd)/\Fd'.length=Fd.length+m
 | 0,i,L,Fd,e,_,_,_,_=>⟨L,Fd,e,rfl,.refl _,rfl⟩
 |m+1,i,L,Fd,e,h1,h2,h3,h4=>by
  obtain ⟨q,hq,hs⟩:=xZ a c many rows L Fd i (by lia) (by lia) h2 (by lia);have hl:(L.eraseIdx q).length=L.length - 1:=List.length_eraseIdx_of_lt hq;obtain ⟨L',Fd',e',k1,k2,k3⟩:=oW a c many rows m (i+1) (L.eraseIdx q) (Fd++[L[q]]) (some (.int (0+(i:Int)))) (by lia) (by lia) (by lia) (by simp;lia);refine ⟨L',Fd',e',?_,k2.trans ?_,by rw[k3];simp;lia⟩
  ·rw[List.range'_succ,List.map_cons]
   exact bf rfl hs k1
  ·have p:(L[q]::L.eraseIdx q).Perm L:=mX L q hq
   refine List.Perm.trans ?_ (List.Perm.append_right Fd p);rw[<- List.append_assoc,List.cons_append];exact List.perm_append_singleton _ _
structure Rising (rows:Int) (many:Nat) (L:List Int):Prop where
 len:L.length=many
 asc:L.Pairwise (· < ·)
 inn:∀ x∈L,0<=x/\x<rows
theorem dA{fa:ae->Res (List D)}{ρ:ae}{n:Nat}(h:fa ρ=.ok [.int (n:Int)])(hn:n<1000):b7 fa ρ=.ok (aD 0 n):=by
 have h1:-(2 ^ 62)<=(n:Int):=by lia
 have h2:(n:Int)<2 ^ 62:=by lia
 unfold b7;rw[h,bok];show (if (decide (-(2 ^ 62)<=(n:Int))&&decide ((n:Int)<2 ^ 62))=true then Res.ok (aD 0 (n:Int).toNat) else .bad)=_;rw[if_pos (by rw[Bool.and_eq_true,decide_eq_true_eq,decide_eq_true_eq];exact ⟨h1,h2⟩),Int.toNat_natCast]
theorem oX{fa:ae->Res (List D)}{ρ:ae}{n:Nat}(h:fa ρ=.ok [.int (n:Int)])(hn:n<1000):eJ fa ρ=.ok (.lst .o (aD 0 n)):=by
 have hl:(aD 0 n).length<=1000000:=by
  have:(aD 0 n).length=n:=by simp[aD]
  lia
 unfold eJ;rw[dA h hn,bok,if_pos hl]
theorem cU:∀ L:List Int,D.fzs (L.map D.int)=L.map D.int
 | []=>aC
 |x::L=>by rw[List.map_cons,ao,ay,cU L]
theorem wv(t:Tg)(L:List Int)(hi:D.its (.lst t (L.map D.int))=some (L.map D.int))(h:L.length<64):eh [.lst t (L.map D.int)]=.ok (.lst .o ((fj L).map D.int)):=by
 unfold eh;simp only[hi,uc];rw[if_pos ⟨rfl,h⟩]
theorem oY(n:Nat):aD 0 n=((List.range n).map fun (i:Nat)=>(0+(i:Int))).map D.int:=by simp[aD]
theorem DC(L:List Int):D.its (.lst .b (L.map D.int))=some (L.map D.int):=by
 show (if ((L.map D.int).all fun x=>x.tag == Tg.f)=true then some (L.map D.int) else none)=_;refine if_pos ?_;rw[List.all_eq_true];intro x hx;obtain ⟨i,_,rfl⟩:=List.mem_map.mp hx;rfl
theorem nZ{N:Nat}{g:ae->FOut}{ds:List D}{d:D}(h:g (ds.map some++List.replicate (N - ds.length) none)=.rt d):bj N g ds=.ok d:=by unfold bj;rw[h]
def n6(c:Int)(many rows:Nat):ae:=[some (.int c),some (.int many),some (.int rows),none,none,none]
def uu(c:Int)(many rows:Nat):ae:=[some (.int c),some (.int many),some (.int rows),some (.lst .o (aD 0 rows)),none,none]
abbrev L0(rows:Nat):List Int:=(List.range rows).map fun (i:Nat)=>(0+(i:Int))
theorem rr1(c:Int)(many rows:Nat)(hr:rows<1000):aw 3 (eJ (ac (ad 2) ah)) (n6 c many rows)=.nx (uu c many rows):=by
 have fl:eJ (ac (ad 2) ah) (n6 c many rows)=.ok (.lst .o (aD 0 rows)):=oX (by simp_arith [n6]) hr;unfold aw;rw[fl,aok,nW,if_neg (by simp[n6])];simp only[n6,uu,List.set_cons_zero,List.set_cons_succ]
theorem rr2(c:Int)(many rows:Nat):aw 4 (bv ah) (uu c many rows)=.nx (stR c many rows (L0 rows) [] none):=by
 have hz:(0:Nat)<=sizeLine:=Nat.zero_le _;simp_arith [stR,uu,oY,hz]
theorem rr3(a:Ads)(c:Int)(many rows:Nat)(hm:many<1000){r:ae}(k1:bo (au 5) (eK 4 3 (fkR a)) (aD 0 many) (stR c many rows (L0 rows) [] none)=.nx r) :
    bA (b7 (ac (ad 1) ah)) (au 5) (eK 4 3 (fkR a)) (stR c many rows (L0 rows) [] none)=.nx r:=by
 have ff:b7 (ac (ad 1) ah) (stR c many rows (L0 rows) [] none)=.ok (aD 0 many):=dA (by simp_arith [stR]) hm;unfold bA;rw[ff,aok];exact k1
theorem rr4(c many rows:Int)(L' Fd:List Int)(e':Option D)(hF:Fd.length<64):bc (fCB eh (ac (ad 4) ah)) (stR c many rows L' Fd e')=.rt (.lst .o ((fj Fd).map D.int)):=by
 have fs:fCB eh (ac (ad 4) ah) (stR c many rows L' Fd e')=.ok (.lst .o ((fj Fd).map D.int)):=by
  simp_arith [stR];exact wv .b Fd (DC Fd) hF
 unfold bc;rw[fs,aok,nW,if_neg (by simp)]
theorem ba{g1 g2:ae->FOut}{r r':ae}(h:g1 r=.nx r'):ar g1 g2 r=g2 r':=by unfold ar;rw[h]
theorem rr5(a:Ads)(c:Int)(many rows:Nat)(hm:many<1000)(hr:rows<1000){L' Fd:List Int}{e':Option D}
    (k1:bo (au 5) (eK 4 3 (fkR a)) (aD 0 many) (stR c many rows (L0 rows) [] none)=.nx (stR c many rows L' Fd e')) (hF:Fd.length<64):gK a (n6 c many rows)=.rt (.lst .o ((fj Fd).map D.int)):=by
 unfold gK;rw[ba (rr1 c many rows hr),ba (rr2 c many rows),ba (rr3 a c many rows hm k1)];exact rr4 c many rows L' Fd e' hF
theorem x0(a:Ads)(c:Int)(many rows:Nat)(hm:many<1000)(hr:rows<1000){L' Fd:List Int}{e':Option D}
    (k1:bo (au 5) (eK 4 3 (fkR a)) (aD 0 many) (stR c many rows (L0 rows) [] none)=.nx (stR c many rows L' Fd e')) (hF:Fd.length<64) :
    cb a [.int c,.int many,.int rows]=.ok (.lst .o ((fj Fd).map D.int)):=by
 have gg:=rr5 a c many rows hm hr k1 hF;exact nZ gg
theorem Aa(a:Ads)(c:Int)(many rows:Nat)(h1:many<=rows)(h2:rows<=8):∃ L,cb a [.int c,.int many,.int rows]=.ok (.lst .o (L.map D.int))/\Rising rows many L:=by
 obtain ⟨L',Fd,e',k1,k2,k3⟩:=oW a c many rows many 0 ((List.range rows).map fun (i:Nat)=>(0+(i:Int))) [] none (by simp;lia) (by simp;lia) (by lia) (by simp;lia);have hr:aD 0 many=(List.range' 0 many).map fun (j:Nat)=>D.int (0+(j:Int)):=by rw[aD,List.range_eq_range']
 rw[<- hr] at k1;have kl:Fd.length=many:=by rw[k3];simp
 have nd:(L'++Fd).Nodup:=by
  refine (k2.nodup_iff).mpr ?_;rw[List.append_nil];exact List.Pairwise.map _ (fun a b h z=>h (by lia)) (List.nodup_range (n:=rows))
 have inn:∀ x∈Fd,0<=x/\x<rows:=fun x hx=>by
  have:=k2.subset (List.mem_append_right L' hx);simp at this;obtain ⟨i,hi,rfl⟩:=this;lia
 refine ⟨fj Fd,x0 a c many rows (by lia) (by lia) k1 (by lia),by rw[(fY Fd).length_eq,kl],?_,fun x hx=>inn x ((fY Fd).subset hx)⟩;have h1:=kh Fd;have h2:(fj Fd).Nodup:=((fY Fd).nodup_iff).mpr (List.nodup_append.mp nd).2.1;exact (List.pairwise_and_iff.mpr ⟨h1,h2⟩).imp fun ⟨x,y⟩=>by lia
def onI(f:Int->D):D->D:=fun d=>match d with | .int x=>f x | d=>d
theorem lA(f:Int->D)(x:Int):onI f (.int x)=f x:=rfl
theorem oZ{rest:ae}{fe:ae->Res D}{h:D->D}:∀ (items:List D) (e:Option D) (acc:List D),(∀ x∈items,fe (some x::rest)=.ok (h x)/\(h x).tag≠.b)->acc.length+items.length<=1000 →
    bH (au 0) aM fe items (e::rest) acc=.ok (acc++items.map h)
 | [],_,acc,_,_=>by rw[List.map_nil,List.append_nil];rfl
 |x::xs,e,acc,hh,hl=>by
  have hz:¬ sizeLine<=acc.length:=by
   have:(1000:Nat)<sizeLine:=by decide
   simp at hl;lia
  obtain ⟨h1,h2⟩:=hh x List.mem_cons_self;unfold bH;have ht:au 0 x (e::rest)=.ok (some x::rest):=by
   unfold au;rw[if_neg (by simp)];rfl
  rw[ht,bok];show (aM (some x::rest) >>= _)=_;rw[show aM (some x::rest)=.ok true from rfl,bok,if_pos rfl,h1,bok,if_neg (fun z=>z.elim h2 hz)];rw[oZ xs (some x) (acc++[h x]) (fun y hy=>hh y (List.mem_cons_of_mem _ hy)) (by simp at hl ⊢;lia)];simp
theorem fw{cap:List Nat}{fi:ae->Res (List D)}{fe:ae->Res D}{ρ:ae}{items:List D}(h:D->D)(hi:fi ρ=.ok items)(hh:∀ x∈items,fe (some x::cap.map (bw ρ))=.ok (h x)/\(h x).tag≠.b)(hl:items.length<=1000) :
    aK 1 cap fi (au 0) aM fe ρ=.ok (.lst .o (items.map h)):=by
 unfold aK;rw[hi,bok];have:=oZ (rest:=cap.map (bw ρ)) (fe:=fe) (h:=h) items none [] hh (by simpa using hl);show (match bH (au 0) aM fe items (none::cap.map (bw ρ)) [] with
  | .ok ds=>Res.ok (D.lst .o ds)
  |_=>.bad)=_
 rw[this];rfl
theorem mY{n:Nat}{F:List D->Res D}{fa:ae->Res (List D)}{ρ:ae}{ds:List D}{d:D}(h:fa ρ=.ok ds)(hn:ds.length=n)(hF:F (D.fzs ds)=.ok d)(ha:d.atom=true):ce n F fa ρ=.ok d:=by
 unfold ce;rw[h,bok,if_pos hn];have:ee F ds=.ok d:=by
  unfold ee;rw[hF];show (if _ then _ else _)=_;rw[if_pos (.inr ha)]
 rw[this]
theorem eX{n:Nat}{x:D}(h:x∈aD 0 n):∃ i:Nat,i<n/\x=.int i:=by
 unfold aD at h;obtain ⟨i,hi,rfl⟩:=List.mem_map.mp h;exact ⟨i,List.mem_range.mp hi,by simp⟩
def ai(t:Tg)(g:List (List Int)):List D:=g.map fun r=>D.lst t (r.map D.int)
def bh(c shut:Int)(cols rows:Nat):List (List Int):=(List.range rows).map fun (y:Nat)=>(List.range cols).map fun (x:Nat)=>fu c (10*(y:Int)+(x:Int)) shut
def bJ(c shut:Int)(cols rows:Nat):List (List Int):=(List.range rows).map fun (y:Nat)=>(List.range cols).map fun (x:Nat)=>fu c (200+10*(y:Int)+(x:Int)) shut
abbrev feR(a:Ads):ae->Res D:=aK 1 [0,1,3] (b7 (ac (f2 cR (ad 2) (fC (.int 1))) ah)) (au 0) aM (ce 3 (bO a) (ac (ad 3) (ac (f2 aL (f2 bB (fC (.int 10)) (ad 1)) (ad 0)) (ac (ad 2) ah))))
theorem ww(a:Ads)(c shut:Int)(cols y:Nat)(hs:0<shut)(hc:cols<100)(hy:y<100) :
    feR a [some (.int y),some (.int shut),some (.int ((cols:Int)+1)),some (.int c)]=.ok (.lst .o ((aD 0 cols).map (onI fun (x:Int)=>D.int (fu c (10*(y:Int)+x) shut)))):=by
 refine fw (items:=aD 0 cols) _ (dA ?_ (by lia)) (fun d hd=>?_) (by simp[aD];lia)
 ·simp_arith []
  congr 3;lia
 ·obtain ⟨x,hx,rfl⟩:=eX hd
  refine ⟨?_,ntb rfl⟩;refine mY (ds:=[.int c,.int (10*(y:Int)+(x:Int)),.int shut]) ?_ rfl ?_ rfl
  ·simp_arith [bw,jz 10 _ (by decide)]
  ·rw[ao,ao,ao,aC,ay,ay,ay]
   exact sM a c _ shut (by lia) (by lia) hs
theorem n8(cols:Nat)(f:Int->Int):((aD 0 cols).map (onI fun (x:Int)=>D.int (f x)))=((List.range cols).map fun (x:Nat)=>f (x:Int)).map D.int:=by
 unfold aD;rw[List.map_map,List.map_map];refine List.map_congr_left fun x _=>?_;simp only[Function.comp_apply,lA,Int.zero_add]
theorem uw(a:Ads)(c shut:Int)(cols rows:Nat)(hs:0<shut)(hc:cols<100)(hr:rows<100){ρ:ae}(h3:ρ[3]?=some (some (.int shut)))(h4:ρ[4]?=some (some (.int ((cols:Int)+1))))(h5:ρ[5]?=some (some (.int rows)))(h6:ρ[6]?=some (some (.int c))) :
    aK 1 [3,4,6] (b7 (ac (ad 5) ah)) (au 0) aM (feR a) ρ=.ok (.lst .o (ai .o (bh c shut cols rows))):=by
 have e:=fw (cap:=[3,4,6]) (fi:=b7 (ac (ad 5) ah)) (fe:=feR a) (ρ:=ρ) (items:=aD 0 rows) ((onI fun (y:Int)=>D.lst .o (((List.range cols).map fun (x:Nat)=>fu c (10*y+(x:Int)) shut).map D.int)))
  (dA (by unfold ac ah;rw[c7 5 ρ _ h5];simp_arith []) (by lia)) (fun d hd=>?_) (by simp[aD];lia)
 ·rw[e]
  congr 2;unfold aD ai bh;rw[List.map_map,List.map_map];refine List.map_congr_left fun y _=>?_;simp only[Function.comp_apply,lA,Int.zero_add]
 ·obtain ⟨y,hy,rfl⟩:=eX hd
  refine ⟨?_,ntb rfl⟩;have hcap:[3,4,6].map (bw ρ)=[some (.int shut),some (.int ((cols:Int)+1)),some (.int c)]:=by
   simp only[List.map_cons,List.map_nil,bw,h3,h4,h6,lv,if_true]
  rw[hcap,ww a c shut cols y hs hc (by lia),n8 cols fun x=>fu c (10*(y:Int)+x) shut,lA]
abbrev feU(a:Ads):ae->Res D:=aK 1 [0,1,3] (b7 (ac (ad 2) ah)) (au 0) aM (ce 3 (bO a) (ac (ad 3) (ac (f2 aL (f2 aL (fC (.int 200)) (f2 bB (fC (.int 10)) (ad 1))) (ad 0)) (ac (ad 2) ah))))
theorem Ch(a:Ads)(c shut:Int)(cols y:Nat)(hs:0<shut)(hc:cols<100)(hy:y<100) :
    feU a [some (.int y),some (.int shut),some (.int (cols:Int)),some (.int c)]=.ok (.lst .o ((aD 0 cols).map (onI fun (x:Int)=>D.int (fu c (200+10*(y:Int)+x) shut)))):=by
 refine fw (items:=aD 0 cols) _ (dA ?_ (by lia)) (fun d hd=>?_) (by simp[aD];lia)
 ·simp_arith []
 ·obtain ⟨x,hx,rfl⟩:=eX hd
  refine ⟨?_,ntb rfl⟩;refine mY (ds:=[.int c,.int (200+10*(y:Int)+(x:Int)),.int shut]) ?_ rfl ?_ rfl
  ·simp_arith [bw,jz 10 _ (by decide)]
  ·rw[ao,ao,ao,aC,ay,ay,ay]
   exact sM a c _ shut (by lia) (by lia) hs
theorem Ab(a:Ads)(c shut:Int)(cols rows:Nat)(hs:0<shut)(hc:cols<100)(hr:rows<100){ρ:ae}(h3:ρ[3]?=some (some (.int shut)))(h4:ρ[4]?=some (some (.int (cols:Int))))(h5:ρ[5]?=some (some (.int ((rows:Int)+1))))(h6:ρ[6]?=some (some (.int c))) :
    aK 1 [3,4,6] (b7 (ac (f2 cR (ad 5) (fC (.int 1))) ah)) (au 0) aM (feU a) ρ=.ok (.lst .o (ai .o (bJ c shut cols rows))):=by
 have e:=fw (cap:=[3,4,6]) (fi:=b7 (ac (f2 cR (ad 5) (fC (.int 1))) ah)) (fe:=feU a) (ρ:=ρ) (items:=aD 0 rows) ((onI fun (y:Int)=>D.lst .o (((List.range cols).map fun (x:Nat)=>fu c (200+10*y+(x:Int)) shut).map D.int)))
  (dA (by
   unfold ac ah f2 fC
   rw[c7 5 ρ _ h5]
   simp_arith []
   congr 3
   lia) (by lia)) (fun d hd=>?_) (by simp[aD];lia)
 ·rw[e]
  congr 2;unfold aD ai bJ;rw[List.map_map,List.map_map];refine List.map_congr_left fun y _=>?_;simp only[Function.comp_apply,lA,Int.zero_add]
 ·obtain ⟨y,hy,rfl⟩:=eX hd
  refine ⟨?_,ntb rfl⟩;have hcap:[3,4,6].map (bw ρ)=[some (.int shut),some (.int (cols:Int)),some (.int c)]:=by
   simp only[List.map_cons,List.map_nil,bw,h3,h4,h6,lv,if_true]
  rw[hcap,Ch a c shut cols y hs hc (by lia)];exact congrArg (fun l=>Res.ok (D.lst Tg.o l)) (n8 cols fun x=>fu c (200+10*(y:Int)+x) shut)
theorem dM(t:Tg):∀ g:List (List Int),D.fzs (ai t g)=ai .f g
 | []=>aC
 |r::g=>by
  show D.fzs (D.lst t (r.map D.int)::ai t g)=_;rw[ao,aW,cU,dM t g];rfl
structure Parts where
 cols:Nat
 rows:Nat
 right:List (List Int)
 up:List (List Int)
 starts:List Int
 ends:List Int
def Parts.d(p:Parts):D:=.tup [.lst .f (ai .f p.right),.lst .f (ai .f p.up),.lst .f (p.starts.map D.int),.lst .f (p.ends.map D.int)]
structure Good (most walkers:Nat) (p:Parts):Prop where
 c1:1<=p.cols/\p.cols<=most
 r1:1<=p.rows/\p.rows<=most
 rl:p.right.length=p.rows
 rr:∀ r∈p.right,r.length+1=p.cols/\∀ v∈r,0<=v/\v<=1000
 ul:p.up.length+1=p.rows
 ur:∀ r∈p.up,r.length=p.cols/\∀ v∈r,0<=v/\v<=1000
 many:∃ m,1<=m/\m<=walkers/\Rising p.rows m p.starts/\Rising p.rows m p.ends
theorem ya(c shut:Int)(cols rows:Nat)(hs:0<shut):(bh c shut cols rows).length=rows/\∀ r∈bh c shut cols rows,r.length=cols/\∀ v∈r,0<=v/\v<=1000:=by
 refine ⟨by simp[bh],fun r hr=>?_⟩;obtain ⟨y,_,rfl⟩:=List.mem_map.mp hr;refine ⟨by simp,fun v hv=>?_⟩;obtain ⟨x,_,rfl⟩:=List.mem_map.mp hv;exact qF _ _ _ hs
theorem yb(c shut:Int)(cols rows:Nat)(hs:0<shut):(bJ c shut cols rows).length=rows/\∀ r∈bJ c shut cols rows,r.length=cols/\∀ v∈r,0<=v/\v<=1000:=by
 refine ⟨by simp[bJ],fun r hr=>?_⟩;obtain ⟨y,_,rfl⟩:=List.mem_map.mp hr;refine ⟨by simp,fun v hv=>?_⟩;obtain ⟨x,_,rfl⟩:=List.mem_map.mp hv;exact qF _ _ _ hs
theorem gn(ns:List Int):(D.scr ns).fz=.scr ns:=rfl
theorem mZ{i:Nat}{f:ae->Res D}{ρ:ae}{d:D}(h:f ρ=.ok d)(hb:d.tag≠.b)(hi:i<ρ.length):aw i f ρ=.nx (ρ.set i (some d)):=by
 unfold aw;rw[h,aok,if_neg (fun z=>z.elim hb (by lia))]
theorem yV{f:ae->Res D}{ρ:ae}{d:D}(h:f ρ=.ok d)(hb:d.tag≠.b):fFz f ρ=.ok d.fz:=by
 unfold fFz;rw[h,bok,if_neg hb]
theorem em{i:Nat}{f:ae->Res D}{ρ:ae}{d:D}(h:f ρ=.ok d)(hb:d.tag≠.b)(hi:i<ρ.length):aw i (fFz f) ρ=.nx (ρ.set i (some d.fz)):=mZ (yV h hb) (by rw[d.fz_tag];decide) hi
theorem dq{f:ae->Res D}{g:ae->Res (List D)}{ρ:ae}{d:D}{ds:List D}(h1:f ρ=.ok d)(h2:g ρ=.ok ds):ac f g ρ=.ok (d::ds):=by unfold ac;rw[h1,bok,h2,bok]
theorem iU{g:D->D->Res D}{f1 f2':ae->Res D}{ρ:ae}{x y:D}(h1:f1 ρ=.ok x)(h2:f2' ρ=.ok y):f2 g f1 f2' ρ=g x y:=by unfold f2;rw[h1,bok,h2,bok]
theorem yc{n:Nat}{F:List D->Res D}{fa:ae->Res (List D)}{ρ:ae}{ds:List D}{d:D}(h:fa ρ=.ok ds)(hn:ds.length=n)(hF:F (D.fzs ds)=.ok d)(hb:nb ds=true)(ht:d.tag≠.b):aq n F fa ρ=.ok d:=by
 unfold aq;rw[h,bok,if_pos hn];unfold ee;rw[hF];show (if _ then _ else _)=_;rw[if_pos (.inl ⟨hb,ht⟩)]
theorem fS(a:Ads)(ns:List Int)(k:Nat){ρ:ae}(h:ρ[0]?=some (some (.scr ns))):aq 2 (aA a) (ac (ad 0) (ac (fC (.int (k:Int))) ah)) ρ=.ok (.int (cell ns k)):=by
 refine cG (ds:=[.scr ns,.int k]) ?_ rfl ?_ rfl
 ·unfold ac ah fC
  rw[c7 0 ρ _ h];rfl
 ·rw[ao,ao,aC,gn,ay]
  exact sL a ns k
theorem qG(a:Ads)(ns:List Int)(k:Nat){ρ:ae}(j:Nat)(m:Int)(h:ρ[0]?=some (some (.scr ns)))(hj:ρ[j]?=some (some (.int m)))(hm:0<m) :
    f2 aL (fC (.int 1)) (f2 cS (aq 2 (aA a) (ac (ad 0) (ac (fC (.int (k:Int))) ah))) (ad j)) ρ=.ok (.int (1+cell ns k % m)):=by
 rw[iU (x:=.int 1) rfl ((iU (fS a ns k h) (c7 j ρ _ hj)).trans (gS _ _ hm)),lx]
theorem o0(a:Ads)(ns:List Int)(k:Nat)(many rows:Nat){ρ:ae}(h:ρ[0]?=some (some (.scr ns)))(h9:ρ[9]?=some (some (.int many)))(h5:ρ[5]?=some (some (.int rows)))(h1:many<=rows)(h2:rows<=8) :
    ∃ L,aq 3 (cb a) (ac (aq 2 (aA a) (ac (ad 0) (ac (fC (.int (k:Int))) ah))) (ac (ad 9) (ac (ad 5) ah))) ρ=.ok (.lst .o (L.map D.int))/\Rising rows many L:=by
 obtain ⟨L,e,r⟩:=Aa a (cell ns k) many rows h1 h2;refine ⟨L,?_,r⟩;refine yc (ds:=[.int (cell ns k),.int many,.int rows]) (dq (fS a ns k h) (dq (c7 9 ρ _ h9) (dq (c7 5 ρ _ h5) rfl))) rfl ?_ rfl (ntb rfl);rw[ao,ao,ao,aC,ay,ay,ay,e]
theorem qH(rows many:Nat)(h:many<=rows):Rising rows many ((List.range many).map fun (i:Nat)=>(0+(i:Int))):=by
 refine ⟨by simp,List.Pairwise.map _ (fun a b h=>by lia) (List.pairwise_lt_range (n:=many)),fun x hx=>?_⟩;obtain ⟨i,hi,rfl⟩:=List.mem_map.mp hx;have:=List.mem_range.mp hi;lia
theorem ux(rows many:Nat)(h:many<=rows):Rising rows many ((List.range many).map fun (i:Nat)=>((rows:Int) - many+(i:Int))):=by
 refine ⟨by simp,List.Pairwise.map _ (fun a b h=>by lia) (List.pairwise_lt_range (n:=many)),fun x hx=>?_⟩;obtain ⟨i,hi,rfl⟩:=List.mem_map.mp hx;have:=List.mem_range.mp hi;lia
def E0(ns:List Int)(most walkers:Nat)(shut:Int)(v4 v5 v6 v7 v8 v9:Option D):ae:=[some (.scr ns),some (.int most),some (.int walkers),some (.int shut),v4,v5,v6,v7,v8,v9,none,none]
def E1(ns:List Int)(most walkers:Nat)(shut:Int)(C R:Nat)(c:Int)(r u:D)(M:Nat)(st en:Option D):ae:=
 [some (.scr ns),some (.int most),some (.int walkers),some (.int shut),some (.int ((C:Int)+1)),some (.int ((R+1:Nat):Int)),some (.int c),some r,some u,some (.int M),st,en]
theorem qI(a:Ads)(ns:List Int)(most walkers:Nat)(shut:Int)(hm:1<=most)(hm8:most<=8)(hw:1<=walkers)(hs:0<shut):∃ p:Parts,Good most walkers p/\∃ d,cq a [.scr ns,.int most,.int walkers,.int shut]=.ok d/\d=p.d:=by
 obtain ⟨C,hC,hC2⟩:∃ C:Nat,1+cell ns 0 % (most:Int)=(C:Int)+1/\C<most:=⟨(cell ns 0 % (most:Int)).toNat,by have:=Int.emod_nonneg (cell ns 0) (b:=(most:Int)) (by lia);lia,by have:=Int.emod_lt_of_pos (cell ns 0) (b:=(most:Int)) (by lia);have:=Int.emod_nonneg (cell ns 0) (b:=(most:Int)) (by lia);lia⟩
 obtain ⟨R,hR,hR2⟩:∃ R:Nat,1+cell ns 1 % (most:Int)=(R:Int)+1/\R<most:=⟨(cell ns 1 % (most:Int)).toNat,by have:=Int.emod_nonneg (cell ns 1) (b:=(most:Int)) (by lia);lia,by have:=Int.emod_lt_of_pos (cell ns 1) (b:=(most:Int)) (by lia);have:=Int.emod_nonneg (cell ns 1) (b:=(most:Int)) (by lia);lia⟩
 have hmn:0<(if ((R:Int)+1)<(walkers:Int) then ((R:Int)+1) else (walkers:Int)):=by split<;>lia
 obtain ⟨M,hM,hM2,hM3⟩:∃ M:Nat,1+cell ns 4 % (if ((R:Int)+1)<(walkers:Int) then ((R:Int)+1) else (walkers:Int))=(M:Int)/\1<=M/\M<=R+1/\M<=walkers:=by
  have h1:=Int.emod_nonneg (cell ns 4) (b:=(if ((R:Int)+1)<(walkers:Int) then ((R:Int)+1) else (walkers:Int))) (by lia);have h2:=Int.emod_lt_of_pos (cell ns 4) hmn;refine ⟨(1+cell ns 4 % (if ((R:Int)+1)<(walkers:Int) then ((R:Int)+1) else (walkers:Int))).toNat,by lia,by lia,?_,?_⟩ <;> split at h2<;>split<;>lia
 obtain ⟨L1,s1,r1⟩:=o0 a ns 5 M (R+1) (ρ:=E1 ns most walkers shut C R (cell ns 3) (.lst .f (ai .f (bh (cell ns 2) shut C (R+1)))) (.lst .f (ai .f (bJ (cell ns 3) shut (C+1) R))) M none none) rfl rfl rfl (by lia) (by lia)
 obtain ⟨L2,s2,r2⟩:=o0 a ns 6 M (R+1) (ρ:=E1 ns most walkers shut C R (cell ns 3) (.lst .f (ai .f (bh (cell ns 2) shut C (R+1)))) (.lst .f (ai .f (bJ (cell ns 3) shut (C+1) R))) M (some (.lst .f (L1.map D.int))) none) rfl rfl rfl (by lia) (by lia)
 have h4:aw 4 (fFz (f2 aL (fC (.int 1)) (f2 cS (aq 2 (aA a) (ac (ad 0) (ac (fC (.int 0)) ah))) (ad 1)))) (E0 ns most walkers shut none none none none none none)=.nx (E0 ns most walkers shut (some (.int ((C:Int)+1))) none none none none none):=by
  have:=em (i:=4) (ρ:=E0 ns most walkers shut none none none none none none) (qG a ns 0 1 most rfl rfl (by lia)) (ntb rfl) (by show 4<12;decide);rw[hC,ay] at this;exact this
 have h5:aw 5 (fFz (f2 aL (fC (.int 1)) (f2 cS (aq 2 (aA a) (ac (ad 0) (ac (fC (.int 1)) ah))) (ad 1)))) (E0 ns most walkers shut (some (.int ((C:Int)+1))) none none none none none)=.nx (E0 ns most walkers shut (some (.int ((C:Int)+1))) (some (.int ((R+1:Nat):Int))) none none none none):=by
  have:=em (i:=5) (ρ:=E0 ns most walkers shut (some (.int ((C:Int)+1))) none none none none none) (qG a ns 1 1 most rfl rfl (by lia)) (ntb rfl) (by show 5<12;decide);rw[hR,ay] at this;exact this
 have h6:aw 6 (fFz (aq 2 (aA a) (ac (ad 0) (ac (fC (.int 2)) ah)))) (E0 ns most walkers shut (some (.int ((C:Int)+1))) (some (.int ((R+1:Nat):Int))) none none none none)=.nx (E0 ns most walkers shut (some (.int ((C:Int)+1))) (some (.int ((R+1:Nat):Int))) (some (.int (cell ns 2))) none none none):=by
  have:=em (i:=6) (ρ:=E0 ns most walkers shut (some (.int ((C:Int)+1))) (some (.int ((R+1:Nat):Int))) none none none none) (fS a ns 2 rfl) (ntb rfl) (by show 6<12;decide);rw[ay] at this;exact this
 have h7:aw 7 (fFz (aK 1 [3,4,6] (b7 (ac (ad 5) ah)) (au 0) aM (feR a))) (E0 ns most walkers shut (some (.int ((C:Int)+1))) (some (.int ((R+1:Nat):Int))) (some (.int (cell ns 2))) none none none)=.nx (E0 ns most walkers shut (some (.int ((C:Int)+1))) (some (.int ((R+1:Nat):Int))) (some (.int (cell ns 2))) (some (.lst .f (ai .f (bh (cell ns 2) shut C (R+1))))) none none):=by
  have:=em (i:=7) (ρ:=E0 ns most walkers shut (some (.int ((C:Int)+1))) (some (.int ((R+1:Nat):Int))) (some (.int (cell ns 2))) none none none) (uw a (cell ns 2) shut C (R+1) hs (by lia) (by lia) rfl rfl rfl rfl) (ntb rfl) (by show 7<12;decide);rw[aW,dM] at this;exact this
 have h6b:aw 6 (fFz (aq 2 (aA a) (ac (ad 0) (ac (fC (.int 3)) ah)))) (E0 ns most walkers shut (some (.int ((C:Int)+1))) (some (.int ((R+1:Nat):Int))) (some (.int (cell ns 2))) (some (.lst .f (ai .f (bh (cell ns 2) shut C (R+1))))) none none)=.nx (E0 ns most walkers shut (some (.int ((C:Int)+1))) (some (.int ((R+1:Nat):Int))) (some (.int (cell ns 3))) (some (.lst .f (ai .f (bh (cell ns 2) shut C (R+1))))) none none):=by
  have:=em (i:=6) (ρ:=(E0 ns most walkers shut (some (.int ((C:Int)+1))) (some (.int ((R+1:Nat):Int))) (some (.int (cell ns 2))) (some (.lst .f (ai .f (bh (cell ns 2) shut C (R+1))))) none none)) (fS a ns 3 rfl) (ntb rfl) (by show 6<12;decide);rw[ay] at this;exact this
 have h8:aw 8 (fFz (aK 1 [3,4,6] (b7 (ac (f2 cR (ad 5) (fC (.int 1))) ah)) (au 0) aM (feU a))) (E0 ns most walkers shut (some (.int ((C:Int)+1))) (some (.int ((R+1:Nat):Int))) (some (.int (cell ns 3))) (some (.lst .f (ai .f (bh (cell ns 2) shut C (R+1))))) none none)=.nx (E0 ns most walkers shut (some (.int ((C:Int)+1))) (some (.int ((R+1:Nat):Int))) (some (.int (cell ns 3))) (some (.lst .f (ai .f (bh (cell ns 2) shut C (R+1))))) (some (.lst .f (ai .f (bJ (cell ns 3) shut (C+1) R)))) none):=by
  have:=em (i:=8) (ρ:=(E0 ns most walkers shut (some (.int ((C:Int)+1))) (some (.int ((R+1:Nat):Int))) (some (.int (cell ns 3))) (some (.lst .f (ai .f (bh (cell ns 2) shut C (R+1))))) none none)) (Ab a (cell ns 3) shut (C+1) R hs (by lia) (by lia) rfl rfl rfl rfl) (ntb rfl) (by show 8<12;decide);rw[aW,dM] at this;exact this
 have h9:aw 9 (fFz (f2 aL (fC (.int 1)) (f2 cS (aq 2 (aA a) (ac (ad 0) (ac (fC (.int 4)) ah))) (fCB gQ (ac (ad 2) (ac (ad 5) ah)))))) (E0 ns most walkers shut (some (.int ((C:Int)+1))) (some (.int ((R+1:Nat):Int))) (some (.int (cell ns 3))) (some (.lst .f (ai .f (bh (cell ns 2) shut C (R+1))))) (some (.lst .f (ai .f (bJ (cell ns 3) shut (C+1) R)))) none)=.nx (E1 ns most walkers shut C R (cell ns 3) (.lst .f (ai .f (bh (cell ns 2) shut C (R+1)))) (.lst .f (ai .f (bJ (cell ns 3) shut (C+1) R))) M none none):=by
  have e:=(iU (g:=aL) (f1:=fC (.int 1)) (x:=.int 1) (ρ:=(E0 ns most walkers shut (some (.int ((C:Int)+1))) (some (.int ((R+1:Nat):Int))) (some (.int (cell ns 3))) (some (.lst .f (ai .f (bh (cell ns 2) shut C (R+1))))) (some (.lst .f (ai .f (bJ (cell ns 3) shut (C+1) R)))) none)) rfl ((iU (g:=cS) (fS a ns 4 rfl) (show fCB gQ (ac (ad 2) (ac (ad 5) ah)) (E0 ns most walkers shut (some (.int ((C:Int)+1))) (some (.int ((R+1:Nat):Int))) (some (.int (cell ns 3))) (some (.lst .f (ai .f (bh (cell ns 2) shut C (R+1))))) (some (.lst .f (ai .f (bJ (cell ns 3) shut (C+1) R)))) none)=.ok (.int (if ((R:Int)+1)<(walkers:Int) then ((R:Int)+1) else (walkers:Int))) from rfl)).trans (gS _ _ hmn))).trans (lx _ _)
  have:=em (i:=9) e (ntb rfl) (by show 9<12;decide);rw[hM,ay] at this;exact this
 have h10:aw 10 (fFz (aq 3 (cb a) (ac (aq 2 (aA a) (ac (ad 0) (ac (fC (.int 5)) ah))) (ac (ad 9) (ac (ad 5) ah))))) (E1 ns most walkers shut C R (cell ns 3) (.lst .f (ai .f (bh (cell ns 2) shut C (R+1)))) (.lst .f (ai .f (bJ (cell ns 3) shut (C+1) R))) M none none)=.nx (E1 ns most walkers shut C R (cell ns 3) (.lst .f (ai .f (bh (cell ns 2) shut C (R+1)))) (.lst .f (ai .f (bJ (cell ns 3) shut (C+1) R))) M (some (.lst .f (L1.map D.int))) none):=by
  have:=em (i:=10) s1 (ntb rfl) (by show 10<12;decide);rw[aW,cU] at this;exact this
 have h11:aw 11 (fFz (aq 3 (cb a) (ac (aq 2 (aA a) (ac (ad 0) (ac (fC (.int 6)) ah))) (ac (ad 9) (ac (ad 5) ah))))) (E1 ns most walkers shut C R (cell ns 3) (.lst .f (ai .f (bh (cell ns 2) shut C (R+1)))) (.lst .f (ai .f (bJ (cell ns 3) shut (C+1) R))) M (some (.lst .f (L1.map D.int))) none)=.nx (E1 ns most walkers shut C R (cell ns 3) (.lst .f (ai .f (bh (cell ns 2) shut C (R+1)))) (.lst .f (ai .f (bJ (cell ns 3) shut (C+1) R))) M (some (.lst .f (L1.map D.int))) (some (.lst .f (L2.map D.int)))):=by
  have:=em (i:=11) s2 (ntb rfl) (by show 11<12;decide);rw[aW,cU] at this;exact this
 have hret:∀ S T:List Int,bc (bY (ac (ad 7) (ac (ad 8) (ac (ad 10) (ac (ad 11) ah))))) (E1 ns most walkers shut C R (cell ns 3) (.lst .f (ai .f (bh (cell ns 2) shut C (R+1)))) (.lst .f (ai .f (bJ (cell ns 3) shut (C+1) R))) M (some (.lst .f ((S).map D.int))) (some (.lst .f ((T).map D.int))))=.rt (Parts.d ⟨C+1,R+1,bh (cell ns 2) shut C (R+1),bJ (cell ns 3) shut (C+1) R,S,T⟩):=fun S T=>by
  have hz:(4:Nat)<=sizeLine:=by decide
  simp_arith [E1,hz,dM,cU,Parts.d]
 have htest:ft2 dGt (f2 cS (aq 2 (aA a) (ac (ad 0) (ac (fC (.int 7)) ah))) (fC (.int 3))) (fC (.int 0)) (E1 ns most walkers shut C R (cell ns 3) (.lst .f (ai .f (bh (cell ns 2) shut C (R+1)))) (.lst .f (ai .f (bJ (cell ns 3) shut (C+1) R))) M (some (.lst .f ((L1).map D.int))) (some (.lst .f ((L2).map D.int))))=.ok (decide (0<cell ns 7 % 3)):=by
  have hc7:(aq 2 (aA a) (ac (ad 0) (ac (fC (.int 7)) ah))) (E1 ns most walkers shut C R (cell ns 3) (.lst .f (ai .f (bh (cell ns 2) shut C (R+1)))) (.lst .f (ai .f (bJ (cell ns 3) shut (C+1) R))) M (some (.lst .f ((L1).map D.int))) (some (.lst .f ((L2).map D.int))))=.ok (.int (cell ns 7)):=fS a ns 7 rfl
  have hx:f2 dGt (f2 cS (aq 2 (aA a) (ac (ad 0) (ac (fC (.int 7)) ah))) (fC (.int 3))) (fC (.int 0)) (E1 ns most walkers shut C R (cell ns 3) (.lst .f (ai .f (bh (cell ns 2) shut C (R+1)))) (.lst .f (ai .f (bJ (cell ns 3) shut (C+1) R))) M (some (.lst .f ((L1).map D.int))) (some (.lst .f ((L2).map D.int))))=.ok (.bl (decide (0<cell ns 7 % 3))):=
   (iU (g:=dGt) (y:=.int 0) ((iU (g:=cS) (y:=.int 3) hc7 rfl).trans (gS _ _ (by decide))) rfl).trans (xY _ _)
  unfold ft2;rw[hx,bok,jh]
 have hgood:∀ S T:List Int,Rising ((R+1:Nat):Int) M S->Rising ((R+1:Nat):Int) M T->Good most walkers ⟨C+1,R+1,bh (cell ns 2) shut C (R+1),bJ (cell ns 3) shut (C+1) R,S,T⟩:=fun S T q1 q2=>by
  have g1:=ya (cell ns 2) shut C (R+1) hs;have g2:=yb (cell ns 3) shut (C+1) R hs;exact ⟨⟨by show 1<=C+1;lia,by show C+1<=most;lia⟩,⟨by show 1<=R+1;lia,by show R+1<=most;lia⟩,g1.1,fun r hr=>⟨by rw[(g1.2 r hr).1],(g1.2 r hr).2⟩,by rw[g2.1],fun r hr=>g2.2 r hr,M,hM2,hM3.2,q1,q2⟩
 have go:∀ S T:List Int,gIf (ft2 dGt (f2 cS (aq 2 (aA a) (ac (ad 0) (ac (fC (.int 7)) ah))) (fC (.int 3))) (fC (.int 0))) (ar (aw 10 (fFz (eJ (ac (ad 9) ah)))) (aw 11 (fFz (aK 1 [5,9] (b7 (ac (ad 9) ah)) (au 0) aM (f2 aL (f2 cR (ad 1) (ad 2)) (ad 0)))))) aP (E1 ns most walkers shut C R (cell ns 3) (.lst .f (ai .f (bh (cell ns 2) shut C (R+1)))) (.lst .f (ai .f (bJ (cell ns 3) shut (C+1) R))) M (some (.lst .f ((L1).map D.int))) (some (.lst .f ((L2).map D.int))))=.nx (E1 ns most walkers shut C R (cell ns 3) (.lst .f (ai .f (bh (cell ns 2) shut C (R+1)))) (.lst .f (ai .f (bJ (cell ns 3) shut (C+1) R))) M (some (.lst .f ((S).map D.int))) (some (.lst .f ((T).map D.int)))) →
     cq a [.scr ns,.int most,.int walkers,.int shut]=.ok (Parts.d ⟨C+1,R+1,bh (cell ns 2) shut C (R+1),bJ (cell ns 3) shut (C+1) R,S,T⟩):=fun S T hif=>by
  refine nZ ?_;show gf a (E0 ns most walkers shut none none none none none none)=_;unfold gf;rw[ba h4,ba h5,ba h6,ba h7,ba h6b,ba h8,ba h9,ba h10,ba h11,ba hif];exact hret S T
 by_cases ht:0<cell ns 7 % 3
 ·have k10:aw 10 (fFz (eJ (ac (ad 9) ah))) (E1 ns most walkers shut C R (cell ns 3) (.lst .f (ai .f (bh (cell ns 2) shut C (R+1)))) (.lst .f (ai .f (bJ (cell ns 3) shut (C+1) R))) M (some (.lst .f ((L1).map D.int))) (some (.lst .f ((L2).map D.int))))=.nx (E1 ns most walkers shut C R (cell ns 3) (.lst .f (ai .f (bh (cell ns 2) shut C (R+1)))) (.lst .f (ai .f (bJ (cell ns 3) shut (C+1) R))) M (some (.lst .f (((List.range M).map fun (i:Nat)=>(0+(i:Int))).map D.int))) (some (.lst .f ((L2).map D.int)))):=by
     have:=em (i:=10) (ρ:=(E1 ns most walkers shut C R (cell ns 3) (.lst .f (ai .f (bh (cell ns 2) shut C (R+1)))) (.lst .f (ai .f (bJ (cell ns 3) shut (C+1) R))) M (some (.lst .f ((L1).map D.int))) (some (.lst .f ((L2).map D.int))))) (oX (n:=M) (fa:=ac (ad 9) ah) rfl (by lia)) (ntb rfl) (by show 10<12;decide);rw[oY,aW,cU] at this;exact this
  have k11:aw 11 (fFz (aK 1 [5,9] (b7 (ac (ad 9) ah)) (au 0) aM (f2 aL (f2 cR (ad 1) (ad 2)) (ad 0)))) (E1 ns most walkers shut C R (cell ns 3) (.lst .f (ai .f (bh (cell ns 2) shut C (R+1)))) (.lst .f (ai .f (bJ (cell ns 3) shut (C+1) R))) M (some (.lst .f (((List.range M).map fun (i:Nat)=>(0+(i:Int))).map D.int))) (some (.lst .f ((L2).map D.int))))=.nx (E1 ns most walkers shut C R (cell ns 3) (.lst .f (ai .f (bh (cell ns 2) shut C (R+1)))) (.lst .f (ai .f (bJ (cell ns 3) shut (C+1) R))) M (some (.lst .f (((List.range M).map fun (i:Nat)=>(0+(i:Int))).map D.int))) (some (.lst .f (((List.range M).map fun (i:Nat)=>(((R+1:Nat):Int) - (M:Int)+(i:Int))).map D.int)))):=by
   have e:=fw (cap:=[5,9]) (fi:=b7 (ac (ad 9) ah)) (fe:=f2 aL (f2 cR (ad 1) (ad 2)) (ad 0)) (ρ:=(E1 ns most walkers shut C R (cell ns 3) (.lst .f (ai .f (bh (cell ns 2) shut C (R+1)))) (.lst .f (ai .f (bJ (cell ns 3) shut (C+1) R))) M (some (.lst .f (((List.range M).map fun (i:Nat)=>(0+(i:Int))).map D.int))) (some (.lst .f ((L2).map D.int))))) (items:=aD 0 M) ((onI fun (x:Int)=>D.int (((R+1:Nat):Int) - (M:Int)+x))) (dA rfl (by lia)) (fun d hd=>by
    obtain ⟨x,hx,rfl⟩:=eX hd
    exact ⟨rfl,ntb rfl⟩) (by simp[aD];lia)
   have:=em (i:=11) e (ntb rfl) (by show 11<12;decide);rw[aW] at this;have hm2:((aD 0 M).map (onI fun (x:Int)=>D.int (((R+1:Nat):Int) - (M:Int)+x)))=((List.range M).map fun (i:Nat)=>(((R+1:Nat):Int) - (M:Int)+(i:Int))).map D.int:=n8 M fun x=>((R+1:Nat):Int) - (M:Int)+x;have hm3:=congrArg (fun l=>D.fzs l) hm2;refine this.trans ?_
   refine (congrArg (fun l=>FOut.nx (List.set (E1 ns most walkers shut C R (cell ns 3) (.lst .f (ai .f (bh (cell ns 2) shut C (R+1)))) (.lst .f (ai .f (bJ (cell ns 3) shut (C+1) R))) M (some (.lst .f (((List.range M).map fun (i:Nat)=>(0+(i:Int))).map D.int))) (some (.lst .f ((L2).map D.int)))) 11 (some (.lst .f l)))) (hm3.trans (cU _))).trans rfl
  refine ⟨_,hgood _ _ (qH (R+1) M (by lia)) (ux (R+1) M (by lia)),_,go _ _ ?_,rfl⟩;unfold gIf;rw[htest,aok,decide_eq_true ht,if_pos rfl,ba k10];exact k11
 ·refine ⟨_,hgood _ _ r1 r2,_,go _ _ ?_,rfl⟩
  unfold gIf;rw[htest,aok,decide_eq_false ht,if_neg (by decide)];rfl
theorem iV{p p':Int->Int->Bool}{fa fb fc:ae->Res D}{ρ:ae}{i j k:Int}(h1:fa ρ=.ok (.int i))(h2:fb ρ=.ok (.int j))(h3:fc ρ=.ok (.int k)):cA p p' fa fb fc ρ=.ok (.bl (p i j&&p' j k)):=by
 unfold cA;rw[h1,bok,h2,bok];show (if p i j=true then fc ρ >>= _ else _)=_;by_cases h:p i j=true
 ·rw[if_pos h,h3,bok,h,Bool.true_and]
 ·rw[if_neg h]
  have:p i j=false:=by simpa using h
  rw[this,Bool.false_and]
theorem lB{f:ae->Res D}{g:ae->FOut}{ρ:ae}(h:f ρ=.ok (.bl true)):gIf (cY (ftB f)) g aP ρ=.nx ρ:=by
 unfold gIf cY ftB;rw[h,bok,jh,bok,aok];rfl
theorem n9{fa fb:ae->Res D}{g:ae->FOut}{ρ:ae}{i:Int}(h1:fa ρ=.ok (.int i))(h2:fb ρ=.ok (.int i)):gIf (ft2 (eM true) fa fb) g aP ρ=.nx ρ:=by
 unfold gIf ft2;rw[iU h1 h2,ut,bok,jh,aok];simp[aP]
theorem og{N:Nat}{g:ae->FOut}{ds:List D}{r:ae}(h:g (ds.map some++List.replicate (N - ds.length) none)=.nx r):bj N g ds=.ok .non:=by unfold bj;rw[h]
theorem m4(a:Ads)(n:Int)(h1:1<=n)(h2:n<=8):dk a [.int n]=.ok .non:=by
 refine og (r:=[some (.int n)]) ?_;show iQ a [some (.int n)]=_;unfold iQ;refine lB ?_;rw[iV (i:=1) (j:=n) (k:=8) rfl rfl rfl,decide_eq_true h1,decide_eq_true h2];rfl
theorem gL{j:Nat}{ρ:ae}{t:Tg}{xs:List D}(h:ρ[j]?=some (some (.lst t xs)))(ht:t=.f):fCB a8 (ac (ad j) ah) ρ=.ok (.int xs.length):=by
 subst ht;unfold fCB;rw[dq (c7 j ρ _ h) rfl,bok];rfl
theorem eY(g:List (List Int)):(ai .f g).map D.asF=ai .f g:=by
 unfold ai;rw[List.map_map];exact List.map_congr_left fun r _=>rfl
theorem cH(L:List Int):(L.map D.int).map D.asF=L.map D.int:=by
 rw[List.map_map];exact List.map_congr_left fun r _=>rfl
theorem mf{j:Nat}{ρ:ae}{g:List (List Int)}(h:ρ[j]?=some (some (.lst .f (ai .f g)))):aH (ad j) ρ=.ok (ai .f g):=by
 unfold aH;rw[c7 j ρ _ h,bok];show (if (Tg.f=Tg.b) then Res.bad else bT (some ((ai .f g).map D.asF)))=_;rw[if_neg (by decide),eY];rfl
theorem mh{j:Nat}{ρ:ae}{L:List Int}(h:ρ[j]?=some (some (.lst .f (L.map D.int)))):aH (ad j) ρ=.ok (L.map D.int):=by
 unfold aH;rw[c7 j ρ _ h,bok];show (if (Tg.f=Tg.b) then Res.bad else bT (some ((L.map D.int).map D.asF)))=_;rw[if_neg (by decide),cH];rfl
def inW:D->D
 | .int v=>.bl (decide (0<=v)&&decide (v<=1000))
 |d=>d
theorem sN(f:Int->Bool):∀ r:List Int,i7 (r.map fun v=>D.bl (f v))=some (r.map f)
 | []=>rfl
 |v::r=>by
  show (i7 (r.map fun v=>D.bl (f v))).map (f v::·)=_;rw[sN f r];rfl
theorem Ci(r:List Int)(h:∀ v∈r,0<=v/\v<=1000):ko [.lst .o ((r.map D.int).map inW)]=.ok (.bl true):=by
 have e:(r.map D.int).map inW=r.map fun v=>D.bl (decide (0<=v)&&decide (v<=1000)):=by
  rw[List.map_map];exact List.map_congr_left fun v _=>rfl
 rw[e];unfold ko;simp only[sN];congr 2;rw[List.all_eq_true];intro b hb;obtain ⟨v,hv,rfl⟩:=List.mem_map.mp hb;have:=h v hv;simp[this.1,this.2]
abbrev gbS(a:Ads):ae->FOut:=(ar (gIf (ft2 (eM true) (fCB a8 (ac (ad 3) ah)) (ad 2)) (fun _=>.exc (.ref a.BadNet)) aP)
 (gIf (cY (ftB (fCB ko (ac (aK 1 [] (aH (ad 3)) (au 0) aM (cA (fun i j=>decide (i<=j)) (fun i j=>decide (i<=j)) (fC (.int 0)) (ad 0) (fC (.int 1000)))) ah)))) (fun _=>.exc (.ref a.BadNet)) aP))
theorem uy(a:Ads)(v0 v1:Option D)(r:List Int)(hr:∀ v∈r,0<=v/\v<=1000)(hl:r.length<=1000):gbS a [v0,v1,some (.int r.length),some (.lst .f (r.map D.int))]=.nx [v0,v1,some (.int r.length),some (.lst .f (r.map D.int))]:=by
 have hlen:=gL (j:=3) (ρ:=[v0,v1,some (.int r.length),some (.lst .f (r.map D.int))]) rfl rfl;rw[List.length_map] at hlen;refine (ba (n9 hlen rfl)).trans (lB ?_)
 have hc:=fw (cap:=[]) (fi:=aH (ad 3)) (fe:=cA (fun i j=>decide (i<=j)) (fun i j=>decide (i<=j)) (fC (.int 0)) (ad 0) (fC (.int 1000))) (ρ:=[v0,v1,some (.int r.length),some (.lst .f (r.map D.int))]) (items:=r.map D.int) inW (mh rfl) (fun x hx=>by
  obtain ⟨v,_,rfl⟩:=List.mem_map.mp hx
  exact ⟨iV (i:=0) (j:=v) (k:=1000) rfl rfl rfl,ntb rfl⟩) (by rw[List.length_map];exact hl)
 unfold fCB;rw[dq hc rfl,bok];exact Ci r hr
theorem m5(a:Ads)(v0 v1:Option D)(len:Nat)(hl:len<=1000):∀ (g:List (List Int)) (e:Option D),(∀ r∈g,r.length=len/\∀ v∈r,0<=v/\v<=1000)->∃ e',bo (au 3) (gbS a) (ai .f g) [v0,v1,some (.int len),e]=.nx [v0,v1,some (.int len),e']
 | [],e,_=>⟨e,rfl⟩
 |r::g,e,h=>by
  obtain ⟨h1,h2⟩:=h r List.mem_cons_self;obtain ⟨e',k⟩:=m5 a v0 v1 len hl g (some (.lst .f (r.map D.int))) fun q hq=>h q (List.mem_cons_of_mem _ hq);refine ⟨e',?_⟩;have st:=uy a v0 v1 r h2 (by lia);rw[h1] at st;exact bf (xs:=ai .f g) rfl st k
theorem bE{fi:ae->Res (List D)}{gt:D->ae->Res ae}{gb:ae->FOut}{ρ:ae}{items:List D}{o:FOut}(h1:fi ρ=.ok items)(h2:bo gt gb items ρ=o):bA fi gt gb ρ=o:=by unfold bA;rw[h1,aok,h2]
theorem lV(a:Ads)(g:List (List Int))(len:Nat)(hl:len<=1000)(h:∀ r∈g,r.length=len/\∀ v∈r,0<=v/\v<=1000):db a [.lst .f (ai .f g),.int g.length,.int len]=.ok .non:=by
 obtain ⟨e',k⟩:=m5 a (some (.lst .f (ai .f g))) (some (.int g.length)) len hl g none h;refine og (r:=[some (.lst .f (ai .f g)),some (.int g.length),some (.int len),e']) ?_;show ij a [some (.lst .f (ai .f g)),some (.int g.length),some (.int len),none]=_;unfold ij;have hlen:=gL (j:=0) (ρ:=[some (.lst .f (ai .f g)),some (.int g.length),some (.int len),none]) rfl rfl
 have:(ai .f g).length=g.length:=by simp[ai]
 rw[this] at hlen;exact (ba (n9 hlen rfl)).trans (bE (mf rfl) k)
abbrev gbB(a:Ads):ae->FOut:=(ar (gIf (cY (ftB (cA (fun i j=>decide (i<j)) (fun i j=>decide (i<j)) (ad 2) (ad 3) (ad 1)))) (fun _=>.exc (.ref a.BadNet)) aP)
 (aw 2 (fFz (ad 3))))
theorem lW(a:Ads)(v0:Option D)(rows:Int):∀ (L:List Int) (last:Int) (e:Option D),L.Pairwise (· < ·)->(∀ x∈L,last<x/\x<rows)->∃ l' e',bo (au 3) (gbB a) (L.map D.int) [v0,some (.int rows),some (.int last),e]=.nx [v0,some (.int rows),some (.int l'),e']
 | [],last,e,_,_=>⟨last,e,rfl⟩
 |x::L,last,e,hp,h=>by
  obtain ⟨h1,h2⟩:=h x List.mem_cons_self;obtain ⟨q1,q2⟩:=List.pairwise_cons.mp hp;obtain ⟨l',e',k⟩:=lW a v0 rows L x (some (.int x)) q2 fun y hy=>⟨q1 y hy,(h y (List.mem_cons_of_mem _ hy)).2⟩
  refine ⟨l',e',?_⟩;have st:gbB a [v0,some (.int rows),some (.int last),some (.int x)]=.nx [v0,some (.int rows),some (.int x),some (.int x)]:=by
   refine (ba (lB ?_)).trans ?_
   ·rw[iV (i:=last) (j:=x) (k:=rows) rfl rfl rfl,decide_eq_true h1,decide_eq_true h2]
    rfl
   ·have:=em (i:=2) (f:=ad 3) (ρ:=[v0,some (.int rows),some (.int last),some (.int x)]) (d:=.int x) rfl (ntb rfl) (by show 2<4;decide)
    rw[ay] at this;exact this
  exact bf (xs:=L.map D.int) rfl st k
theorem kH(a:Ads)(L:List Int)(rows:Int)(m:Nat)(h1:1<=m)(h2:m<=4)(r:Rising rows m L):cT a [.lst .f (L.map D.int),.int rows]=.ok .non:=by
 obtain ⟨l',e',k⟩:=lW a (some (.lst .f (L.map D.int))) rows L (-1) none r.asc fun x hx=>by have:=r.inn x hx;lia
 refine og (r:=[some (.lst .f (L.map D.int)),some (.int rows),some (.int l'),e']) ?_;show gH a [some (.lst .f (L.map D.int)),some (.int rows),none,none]=_;unfold gH;have hlen:=gL (j:=0) (ρ:=[some (.lst .f (L.map D.int)),some (.int rows),none,none]) rfl rfl;rw[List.length_map,r.len] at hlen
 refine (ba (lB ?_)).trans ((ba (r':=[some (.lst .f (L.map D.int)),some (.int rows),some (.int (-1)),none]) ?_).trans (bE (mh rfl) k))
 ·rw[iV (i:=1) (j:=m) (k:=4) rfl hlen rfl,decide_eq_true (show (1:Int)<=m by lia),decide_eq_true (show (m:Int)<=4 by lia)]
  rfl
 ·have:=em (i:=2) (f:=f1 l8 (fC (.int 1))) (ρ:=[some (.lst .f (L.map D.int)),some (.int rows),none,none]) (d:=.int (-1)) rfl (ntb rfl) (by show 2<4;decide)
  rw[ay] at this;exact this
theorem iF{f:ae->Res D}{ρ:ae}{d:D}(h:f ρ=.ok d):dY f ρ=.nx ρ:=by unfold dY;rw[h,aok]
theorem jA{C p:Addr}{fld:Str}{fv:ae->Res D}{ρ:ae}{fs:List (Str × D)}{d:D}(h:ρ[0]?=some (some (.slf p C fs)))(hv:fv ρ=.ok d)(hb:d.tag≠.b)(hl:fs.length<1000):fB 0 C fld fv ρ=.nx (ρ.set 0 (some (.slf p C (jK fld d.fz fs)))):=by
 unfold fB;rw[h];simp only[hv,aok];rw[if_neg (fun z=>z.elim (fun z=>z rfl) fun z=>z.elim hb fun z=>absurd z (by lia))]
def cpL:D->D
 | .lst _ xs=>.lst .o (xs.map D.asF)
 |d=>d
theorem o3{j:Nat}{ρ:ae}{g:List (List Int)}(h:ρ[j]?=some (some (.lst .f (ai .f g))))(hl:g.length<=1000):aK 1 [] (aH (ad j)) (au 0) aM (fCB ck (ac (ad 0) ah)) ρ=.ok (.lst .o (ai .o g)):=by
 have e:=fw (cap:=[]) (fi:=aH (ad j)) (fe:=fCB ck (ac (ad 0) ah)) (ρ:=ρ) (items:=ai .f g) cpL (mf h) (fun x hx=>by
  obtain ⟨r,_,rfl⟩:=List.mem_map.mp hx
  exact ⟨rfl,ntb rfl⟩) (by simp[ai];exact hl)
 rw[e];congr 2;unfold ai;rw[List.map_map];refine List.map_congr_left fun r _=>?_;show D.lst .o ((r.map D.int).map D.asF)=_;rw[cH]
theorem o6{j:Nat}{ρ:ae}{L:List Int}(h:ρ[j]?=some (some (.lst .f (L.map D.int)))):fCB ck (ac (ad j) ah) ρ=.ok (.lst .o (L.map D.int)):=by
 unfold fCB;rw[dq (c7 j ρ _ h) rfl,bok];show Res.ok (D.lst .o ((L.map D.int).map D.asF))=_;rw[cH]
def qJ(p:Parts):List (Str × D):=[("right", .lst .f (ai .f p.right)),("up", .lst .f (ai .f p.up)),("starts", .lst .f (p.starts.map D.int)),("ends", .lst .f (p.ends.map D.int)),("columns", .int p.cols),("rows", .int p.rows)]
def EN(x C:Addr)(p:Parts)(fs:List (Str × D))(r c:Option D):ae:=[some (.slf x C fs),some (.lst .f (ai .f p.right)),some (.lst .f (ai .f p.up)),some (.lst .f (p.starts.map D.int)),some (.lst .f (p.ends.map D.int)),r,c]
theorem wx(a:Ads)(x:Addr)(p:Parts)(most walkers:Nat)(h8:most<=8)(h4:walkers<=4)(G:Good most walkers p):jc a x [.lst .f (ai .f p.right),.lst .f (ai .f p.up),.lst .f (p.starts.map D.int),.lst .f (p.ends.map D.int)]=.ok (qJ p):=by
 obtain ⟨m,m1,m2,rs,re⟩:=G.many;have hrl:(ai .f p.right).length=p.rows:=by simp[ai,G.rl]
 obtain ⟨r0,rest,hr0⟩:∃ r0 rest,p.right=r0::rest:=by
  cases e:p.right with
  |nil=>have:=G.rl;have:=G.r1;rw[e] at *;simp at *;lia
  |cons r0 rest=>exact ⟨r0,rest,rfl⟩
 have hc0:r0.length+1=p.cols:=(G.rr r0 (by rw[hr0];exact List.mem_cons_self)).1;have l1:∀ fs r c,fCB a8 (ac (ad 1) ah) (EN x a.Net p fs r c)=.ok (.int p.rows):=fun fs r c=>by
  have:=gL (j:=1) (ρ:=EN x a.Net p fs r c) rfl rfl;rw[hrl] at this;exact this
 have s1:∀ fs r c,dY (aq 1 (dk a) (ac (fCB a8 (ac (ad 1) ah)) ah)) (EN x a.Net p fs r c)=.nx (EN x a.Net p fs r c):=fun fs r c=>
  iF (cG (d:=.non) (ds:=[.int p.rows]) (dq (l1 fs r c) rfl) rfl (by rw[ao,aC,ay];exact m4 a _ (by have:=G.r1;lia) (by have:=G.r1;lia)) rfl)
 have s2:aw 5 (fFz (fCB a8 (ac (ad 1) ah))) (EN x a.Net p [] none none)=.nx (EN x a.Net p [] (some (.int p.rows)) none):=by
  have:=em (i:=5) (l1 [] none none) (ntb rfl) (by show 5<7;decide);rw[ay] at this;exact this
 have s3:aw 6 (fFz (f2 aL (fCB a8 (ac (f2 dIx (ad 1) (fC (.int 0))) ah)) (fC (.int 1)))) (EN x a.Net p [] (some (.int p.rows)) none)=.nx (EN x a.Net p [] (some (.int p.rows)) (some (.int p.cols))):=by
  have ix:f2 dIx (ad 1) (fC (.int 0)) (EN x a.Net p [] (some (.int p.rows)) none)=.ok (.lst .f (r0.map D.int)):=by
   refine (iU (g:=dIx) (x:=.lst .f (ai .f p.right)) (y:=.int 0) rfl rfl).trans ?_;rw[hr0];show (match L2.ixN ((ai .f (r0::rest)).length) 0 with
    |some j=>bT (D.el (.lst .f (ai .f (r0::rest))) j)
    |none=>Res.bad)=_
   have:L2.ixN ((ai .f (r0::rest)).length) 0=some 0:=by unfold L2.ixN;rw[if_pos (by lia),if_pos (by show (0:Int)<((ai .f (r0::rest)).length:Int);rw[show (ai .f (r0::rest)).length=rest.length+1 by simp[ai]];lia)];try rfl
   rw[this];rfl
  have ln:fCB a8 (ac (f2 dIx (ad 1) (fC (.int 0))) ah) (EN x a.Net p [] (some (.int p.rows)) none)=.ok (.int r0.length):=by
   unfold fCB;rw[dq ix rfl,bok];show Res.ok (D.int ((r0.map D.int).length:Nat))=_;rw[List.length_map]
  have:=em (i:=6) ((iU (g:=aL) (f2':=fC (.int 1)) (y:=.int 1) ln rfl).trans (lx _ _)) (ntb rfl) (by show 6<7;decide);rw[ay,show ((r0.length:Int)+1)=(p.cols:Int) by lia] at this;exact this
 have s4:dY (aq 1 (dk a) (ac (ad 6) ah)) (EN x a.Net p [] (some (.int p.rows)) (some (.int p.cols)))=.nx (EN x a.Net p [] (some (.int p.rows)) (some (.int p.cols))):=
  iF (cG (d:=.non) (ds:=[.int p.cols]) rfl rfl (by rw[ao,aC,ay];exact m4 a _ (by have:=G.c1;lia) (by have:=G.c1;lia)) rfl)
 have s5:dY (aq 3 (db a) (ac (ad 1) (ac (ad 5) (ac (f2 cR (ad 6) (fC (.int 1))) ah)))) (EN x a.Net p [] (some (.int p.rows)) (some (.int p.cols)))=.nx (EN x a.Net p [] (some (.int p.rows)) (some (.int p.cols))):=by
  refine iF (cG (d:=.non) (ds:=[.lst .f (ai .f p.right),.int p.rows,.int ((p.cols:Int) - 1)]) rfl rfl ?_ rfl);rw[ao,ao,ao,aC,aW,dM,ay,ay,<- G.rl,show (p.cols:Int) - 1=((p.cols - 1:Nat):Int) by have:=G.c1;lia];exact lV a p.right _ (by have:=G.c1;lia) fun r hr=>⟨by have:=(G.rr r hr).1;lia,(G.rr r hr).2⟩
 have s6:dY (aq 3 (db a) (ac (ad 2) (ac (f2 cR (ad 5) (fC (.int 1))) (ac (ad 6) ah)))) (EN x a.Net p [] (some (.int p.rows)) (some (.int p.cols)))=.nx (EN x a.Net p [] (some (.int p.rows)) (some (.int p.cols))):=by
  refine iF (cG (d:=.non) (ds:=[.lst .f (ai .f p.up),.int ((p.rows:Int) - 1),.int p.cols]) rfl rfl ?_ rfl);rw[ao,ao,ao,aC,aW,dM,ay,ay,show (p.rows:Int) - 1=((p.up.length:Nat):Int) by have:=G.ul;lia];exact lV a p.up _ (by have:=G.c1;lia) fun r hr=>G.ur r hr
 have s7:dY (aq 2 (cT a) (ac (ad 3) (ac (ad 5) ah))) (EN x a.Net p [] (some (.int p.rows)) (some (.int p.cols)))=.nx (EN x a.Net p [] (some (.int p.rows)) (some (.int p.cols))):=by
  refine iF (cG (d:=.non) (ds:=[.lst .f (p.starts.map D.int),.int p.rows]) rfl rfl ?_ rfl);rw[ao,ao,aC,aW,cU,ay];exact kH a p.starts _ m m1 (by lia) rs
 have s8:dY (aq 2 (cT a) (ac (ad 4) (ac (ad 5) ah))) (EN x a.Net p [] (some (.int p.rows)) (some (.int p.cols)))=.nx (EN x a.Net p [] (some (.int p.rows)) (some (.int p.cols))):=by
  refine iF (cG (d:=.non) (ds:=[.lst .f (p.ends.map D.int),.int p.rows]) rfl rfl ?_ rfl);rw[ao,ao,aC,aW,cU,ay];exact kH a p.ends _ m m1 (by lia) re
 have s9:gIf (ft2 (eM true) (fCB a8 (ac (ad 3) ah)) (fCB a8 (ac (ad 4) ah))) (fun _=>.exc (.ref a.BadNet)) aP (EN x a.Net p [] (some (.int p.rows)) (some (.int p.cols)))=.nx (EN x a.Net p [] (some (.int p.rows)) (some (.int p.cols))):=by
  have e3:=gL (j:=3) (ρ:=(EN x a.Net p [] (some (.int p.rows)) (some (.int p.cols)))) rfl rfl;have e4:=gL (j:=4) (ρ:=(EN x a.Net p [] (some (.int p.rows)) (some (.int p.cols)))) rfl rfl;rw[List.length_map,rs.len] at e3;rw[List.length_map,re.len] at e4;exact n9 e3 e4
 have t1:fB 0 a.Net "right" (aK 1 [] (aH (ad 1)) (au 0) aM (fCB ck (ac (ad 0) ah))) (EN x a.Net p [] (some (.int p.rows)) (some (.int p.cols)))=.nx (EN x a.Net p [("right", .lst .f (ai .f p.right))] (some (.int p.rows)) (some (.int p.cols))):=by
  have:=jA (C:=a.Net) (p:=x) (fld := "right") (fs:=[]) (ρ:=(EN x a.Net p [] (some (.int p.rows)) (some (.int p.cols)))) rfl (o3 (j:=1) (g:=p.right) rfl (by have:=G.rl;have:=G.r1;lia)) (ntb rfl) (by decide);rw[aW,dM] at this;exact this
 have t2:fB 0 a.Net "up" (aK 1 [] (aH (ad 2)) (au 0) aM (fCB ck (ac (ad 0) ah))) (EN x a.Net p [("right", .lst .f (ai .f p.right))] (some (.int p.rows)) (some (.int p.cols)))=.nx (EN x a.Net p [("right", .lst .f (ai .f p.right)),("up", .lst .f (ai .f p.up))] (some (.int p.rows)) (some (.int p.cols))):=by
  have:=jA (C:=a.Net) (p:=x) (fld := "up") (fs:=[("right", .lst .f (ai .f p.right))]) (ρ:=(EN x a.Net p [("right", .lst .f (ai .f p.right))] (some (.int p.rows)) (some (.int p.cols)))) rfl (o3 (j:=2) (g:=p.up) rfl (by have:=G.ul;have:=G.r1;lia)) (ntb rfl) (by show 1<1000;decide);rw[aW,dM] at this;exact this
 have t3:fB 0 a.Net "starts" (fCB ck (ac (ad 3) ah)) (EN x a.Net p [("right", .lst .f (ai .f p.right)),("up", .lst .f (ai .f p.up))] (some (.int p.rows)) (some (.int p.cols)))=.nx (EN x a.Net p [("right", .lst .f (ai .f p.right)),("up", .lst .f (ai .f p.up)),("starts", .lst .f (p.starts.map D.int))] (some (.int p.rows)) (some (.int p.cols))):=by
  have:=jA (C:=a.Net) (p:=x) (fld := "starts") (fs:=[("right", .lst .f (ai .f p.right)),("up", .lst .f (ai .f p.up))]) (ρ:=(EN x a.Net p [("right", .lst .f (ai .f p.right)),("up", .lst .f (ai .f p.up))] (some (.int p.rows)) (some (.int p.cols)))) rfl (o6 (j:=3) (L:=p.starts) rfl) (ntb rfl) (by show 2<1000;decide);rw[aW,cU] at this;exact this
 have t4:fB 0 a.Net "ends" (fCB ck (ac (ad 4) ah)) (EN x a.Net p [("right", .lst .f (ai .f p.right)),("up", .lst .f (ai .f p.up)),("starts", .lst .f (p.starts.map D.int))] (some (.int p.rows)) (some (.int p.cols)))=.nx (EN x a.Net p [("right", .lst .f (ai .f p.right)),("up", .lst .f (ai .f p.up)),("starts", .lst .f (p.starts.map D.int)),("ends", .lst .f (p.ends.map D.int))] (some (.int p.rows)) (some (.int p.cols))):=by
  have:=jA (C:=a.Net) (p:=x) (fld := "ends") (fs:=[("right", .lst .f (ai .f p.right)),("up", .lst .f (ai .f p.up)),("starts", .lst .f (p.starts.map D.int))]) (ρ:=(EN x a.Net p [("right", .lst .f (ai .f p.right)),("up", .lst .f (ai .f p.up)),("starts", .lst .f (p.starts.map D.int))] (some (.int p.rows)) (some (.int p.cols)))) rfl (o6 (j:=4) (L:=p.ends) rfl) (ntb rfl) (by show 3<1000;decide)
  rw[aW,cU] at this;exact this
 have t5:fB 0 a.Net "columns" (ad 6) (EN x a.Net p [("right", .lst .f (ai .f p.right)),("up", .lst .f (ai .f p.up)),("starts", .lst .f (p.starts.map D.int)),("ends", .lst .f (p.ends.map D.int))] (some (.int p.rows)) (some (.int p.cols)))=.nx (EN x a.Net p [("right", .lst .f (ai .f p.right)),("up", .lst .f (ai .f p.up)),("starts", .lst .f (p.starts.map D.int)),("ends", .lst .f (p.ends.map D.int)),("columns", .int p.cols)] (some (.int p.rows)) (some (.int p.cols))):=by
  have:=jA (C:=a.Net) (p:=x) (fld := "columns") (fs:=[("right", .lst .f (ai .f p.right)),("up", .lst .f (ai .f p.up)),("starts", .lst .f (p.starts.map D.int)),("ends", .lst .f (p.ends.map D.int))]) (ρ:=(EN x a.Net p [("right", .lst .f (ai .f p.right)),("up", .lst .f (ai .f p.up)),("starts", .lst .f (p.starts.map D.int)),("ends", .lst .f (p.ends.map D.int))] (some (.int p.rows)) (some (.int p.cols)))) (fv:=ad 6) (d:=.int p.cols) rfl rfl (ntb rfl) (by show 4<1000;decide)
  rw[ay] at this;exact this
 have t6:fB 0 a.Net "rows" (ad 5) (EN x a.Net p [("right", .lst .f (ai .f p.right)),("up", .lst .f (ai .f p.up)),("starts", .lst .f (p.starts.map D.int)),("ends", .lst .f (p.ends.map D.int)),("columns", .int p.cols)] (some (.int p.rows)) (some (.int p.cols)))=.nx (EN x a.Net p (qJ p) (some (.int p.rows)) (some (.int p.cols))):=by
  have:=jA (C:=a.Net) (p:=x) (fld := "rows") (fs:=[("right", .lst .f (ai .f p.right)),("up", .lst .f (ai .f p.up)),("starts", .lst .f (p.starts.map D.int)),("ends", .lst .f (p.ends.map D.int)),("columns", .int p.cols)]) (ρ:=(EN x a.Net p [("right", .lst .f (ai .f p.right)),("up", .lst .f (ai .f p.up)),("starts", .lst .f (p.starts.map D.int)),("ends", .lst .f (p.ends.map D.int)),("columns", .int p.cols)] (some (.int p.rows)) (some (.int p.cols)))) (fv:=ad 5) (d:=.int p.rows) rfl rfl (ntb rfl) (by show 5<1000;decide)
  rw[ay] at this;exact this
 have all:ui a (EN x a.Net p [] none none)=.nx (EN x a.Net p (qJ p) (some (.int p.rows)) (some (.int p.cols))):=by
  unfold ui;rw[ba (s1 [] none none),ba s2,ba s3,ba s4,ba s5,ba s6,ba s7,ba s8,ba s9,ba t1,ba t2,ba t3,ba t4,ba t5];exact t6
 unfold jc dC;rw[show (some (D.slf x a.Net [])::(List.map some [D.lst .f (ai .f p.right),D.lst .f (ai .f p.up),D.lst .f (p.starts.map D.int),D.lst .f (p.ends.map D.int)]++List.replicate (7 - ([D.lst .f (ai .f p.right),D.lst .f (ai .f p.up),D.lst .f (p.starts.map D.int),D.lst .f (p.ends.map D.int)].length+1)) none))=(EN x a.Net p [] none none) from rfl,all]
 show (if x=x/\a.Net=a.Net then Res.ok (qJ p) else .bad)=_;rw[if_pos ⟨rfl,rfl⟩]
theorem DD{i:Nat}{ρ:ae}{d d':D}(h:ρ[i]?=some (some d))(hd:d.rd=d'):ad i ρ=.ok d':=by rw[c7 i ρ d h,hd]
theorem v_C{d:D}{ρ:ae}:fC d ρ=.ok d:=rfl
theorem oh{g:D->D->Res D}{fa fb:ae->Res D}{ρ:ae}{x y z:D}(h1:fa ρ=.ok x)(h2:fb ρ=.ok y)(h3:g x y=.ok z):f2 g fa fb ρ=.ok z:=by rw[iU h1 h2,h3]
theorem Er{g:D->Res D}{fa:ae->Res D}{ρ:ae}{x z:D}(h1:fa ρ=.ok x)(h3:g x=.ok z):f1 g fa ρ=.ok z:=by unfold f1;rw[h1,bok,h3]
theorem Cj{g:List D->Res D}{fa:ae->Res (List D)}{ρ:ae}{x:List D}{z:D}(h1:fa ρ=.ok x)(h3:g x=.ok z):fCB g fa ρ=.ok z:=by unfold fCB;rw[h1,bok,h3]
theorem m6{ρ:ae}:ah ρ=.ok []:=rfl
theorem iw{n:Nat}(h:n<=1000):n<=sizeLine:=Nat.le_trans h (by decide)
theorem DE{fa:ae->Res (List D)}{ρ:ae}{es es':List D}(h1:fa ρ=.ok es)(h2:nb es=true)(h3:es.length<=1000)(h4:D.fzs es=es'):bY fa ρ=.ok (.tup es'):=by
 unfold bY;rw[h1,bok,if_pos (by rw[h2,decide_eq_true (iw h3)];rfl),h4]
theorem DF{fa:ae->Res (List D)}{ρ:ae}{es:List D}(h1:fa ρ=.ok es)(h2:nb es=true)(h3:es.length<=1000):bv fa ρ=.ok (.lst .o es):=by
 unfold bv;rw[h1,bok,if_pos (by rw[h2,decide_eq_true (iw h3)];rfl)]
theorem wy{n:Nat}{F:List D->Res D}{fa:ae->Res (List D)}{ρ:ae}{ds ds':List D}{d:D}(h:fa ρ=.ok ds)(hn:ds.length=n)(hz:D.fzs ds=ds')(hF:F ds'=.ok d)(ha:(nb ds=true/\d.tag≠.b)\/d.atom=true):aq n F fa ρ=.ok d:=by
 unfold aq;rw[h,bok,if_pos hn];unfold ee;rw[hz,hF];show (if _ then _ else _)=_;rw[if_pos ha]
theorem Ck{f:ae->Res D}{ρ:ae}{d d':D}(h:f ρ=.ok d)(hb:d.tag≠.b)(hz:d.fz=d'):fFz f ρ=.ok d':=by rw[yV h hb,hz]
theorem Ac{p p':Int->Int->Bool}{fa fb fc:ae->Res D}{ρ:ae}{i j k:Int}(h1:fa ρ=.ok (.int i))(h2:fb ρ=.ok (.int j))(h3:fc ρ=.ok (.int k)):cA p p' fa fb fc ρ=.ok (.bl (p i j&&p' j k)):=iV h1 h2 h3
theorem yW{s t:ae->Res D}{ρ:ae}{b c:Bool}(h1:s ρ=.ok (.bl b))(h2:t ρ=.ok (.bl c)):l7 s t ρ=.ok (.bl (b&&c)):=by
 unfold l7;rw[h1,bok,jh,bok];cases b<;>simp[h2]
theorem yX{s:ae->Res D}{ρ:ae}{b:Bool}(h1:s ρ=.ok (.bl b)):ub s ρ=.ok (.bl (!b)):=by
 unfold ub;rw[h1,bok,jh,bok]
theorem t_2{g:D->D->Res D}{fa fb:ae->Res D}{ρ:ae}{x y:D}{b:Bool}(h1:fa ρ=.ok x)(h2:fb ρ=.ok y)(h3:g x y=.ok (.bl b)):ft2 g fa fb ρ=.ok b:=by
 unfold ft2;rw[iU h1 h2,h3,bok,jh]
theorem t_B{f:ae->Res D}{ρ:ae}{b:Bool}(h1:f ρ=.ok (.bl b)):ftB f ρ=.ok b:=by unfold ftB;rw[h1,bok,jh]
theorem uz{t:ae->Res Bool}{ρ:ae}{b:Bool}(h1:t ρ=.ok b):cY t ρ=.ok (!b):=by unfold cY;rw[h1,bok]
theorem DG{s t:ae->Res Bool}{ρ:ae}{b c:Bool}(h1:s ρ=.ok b)(h2:t ρ=.ok c):fX s t ρ=.ok (b&&c):=by unfold fX;rw[h1,bok];cases b<;>simp[h2]
theorem yd{s t:ae->Res Bool}{ρ:ae}{b c:Bool}(h1:s ρ=.ok b)(h2:t ρ=.ok c):jJ s t ρ=.ok (b||c):=by unfold jJ;rw[h1,bok];cases b<;>simp[h2]
theorem Es{t:ae->Res Bool}{f g:ae->Res D}{ρ:ae}{b:Bool}{d e:D}(h1:t ρ=.ok b)(h2:f ρ=.ok d)(h3:g ρ=.ok e):fIf t f g ρ=.ok (if b=true then d else e):=by
 unfold fIf;rw[h1,bok];cases b<;>simp[h2,h3]
theorem ix_tup{xs:List D}{k:Nat}{x x':D}(h:xs[k]?=some x)(hx:x.asF=x'):dIx (.tup xs) (.int (k:Int))=.ok x':=by
 have hk:k<xs.length:=(List.getElem?_eq_some_iff.mp h).1;have e:L2.ixN xs.length (k:Int)=some k:=by unfold L2.ixN;rw[if_pos (by lia),if_pos (by lia)];simp
 show (match L2.ixN xs.length (k:Int) with
  |some j=>bT (D.el (.tup xs) j)
  |none=>Res.bad)=_
 rw[e];show bT (xs[k]?.map D.asF)=_;rw[h,<- hx];rfl
theorem qK{xs:List D}{k:Nat}{x x':D}(h:xs[k]?=some x)(hx:x.asF=x'):dIx (.lst .f xs) (.int (k:Int))=.ok x':=by
 have hk:k<xs.length:=(List.getElem?_eq_some_iff.mp h).1;have e:L2.ixN xs.length (k:Int)=some k:=by unfold L2.ixN;rw[if_pos (by lia),if_pos (by lia)];simp
 show (match L2.ixN xs.length (k:Int) with
  |some j=>bT (D.el (.lst .f xs) j)
  |none=>Res.bad)=_
 rw[e];show bT (xs[k]?.map D.asF)=_;rw[h,<- hx];rfl
theorem wz{xs:List D}{k:Nat}{x:D}(h:xs[k]?=some x):dIx (.lst .o xs) (.int (k:Int))=.ok x:=by
 have hk:k<xs.length:=(List.getElem?_eq_some_iff.mp h).1;have e:L2.ixN xs.length (k:Int)=some k:=by unfold L2.ixN;rw[if_pos (by lia),if_pos (by lia)];simp
 show (match L2.ixN xs.length (k:Int) with
  |some j=>bT (D.el (.lst .o xs) j)
  |none=>Res.bad)=_
 rw[e];show bT (xs[k]?)=_;rw[h];rfl
theorem ix0{x x':D}{r:List D}(h:x.asF=x'):dIx (.tup (x::r)) (.int 0)=.ok x':=ix_tup (k:=0) rfl h
theorem ix1{x x' y:D}{r:List D}(h:x.asF=x'):dIx (.tup (y::x::r)) (.int 1)=.ok x':=ix_tup (k:=1) rfl h
theorem ix2{x x' y z:D}{r:List D}(h:x.asF=x'):dIx (.tup (y::z::x::r)) (.int 2)=.ok x':=ix_tup (k:=2) rfl h
theorem ix3{x x' y z w:D}{r:List D}(h:x.asF=x'):dIx (.tup (y::z::w::x::r)) (.int 3)=.ok x':=ix_tup (k:=3) rfl h
theorem Et:nb []=true:=rfl
theorem Eu{x:D}{xs:List D}(h:x.tag≠.b)(h2:nb xs=true):nb (x::xs)=true:=by
 unfold nb at *;rw[List.all_cons,h2];cases e:x.tag<;>simp_all
theorem m7(i:Int):(D.int i).asF=.int i:=rfl
theorem DH(i:Int):l8 (.int i)=.ok (.int (-i)):=rfl
theorem Cl(t:Tg)(xs:List D):a8 [.lst t xs]=.ok (.int xs.length):=rfl
theorem yY{i:Nat}{f:ae->Res D}{ρ ρ':ae}{d:D}(h:f ρ=.ok d)(hb:d.tag≠.b)(hi:i<ρ.length)(he:ρ.set i (some d)=ρ'):aw i f ρ=.nx ρ':=by rw[mZ h hb hi,he]
theorem gT{f:ae->Res D}{ρ:ae}{d:D}(h:f ρ=.ok d)(hb:d.tag≠.b):bc f ρ=.rt d:=by unfold bc;rw[h,aok,if_neg hb]
theorem Cm{t:ae->Res Bool}{g1 g2:ae->FOut}{ρ:ae}{b:Bool}(h:t ρ=.ok b):gIf t g1 g2 ρ=if b=true then g1 ρ else g2 ρ:=by unfold gIf;rw[h,aok]
theorem dQ{t:ae->Res Bool}{g1 g2:ae->FOut}{ρ:ae}{b:Bool}{o:FOut}(h:t ρ=.ok b)(hb:b=true)(h1:g1 ρ=o):gIf t g1 g2 ρ=o:=by rw[Cm h,hb,if_pos rfl,h1]
theorem dr{t:ae->Res Bool}{g1 g2:ae->FOut}{ρ:ae}{b:Bool}{o:FOut}(h:t ρ=.ok b)(hb:b=false)(h1:g2 ρ=o):gIf t g1 g2 ρ=o:=by rw[Cm h,hb,if_neg (by decide),h1]
theorem aB{g1 g2:ae->FOut}{ρ ρ':ae}{o:FOut}(h:g1 ρ=.nx ρ')(h2:g2 ρ'=o):ar g1 g2 ρ=o:=by rw[ba h,h2]
theorem dU{g1 g2:ae->FOut}{ρ:ae}{d:D}(h:g1 ρ=.rt d):ar g1 g2 ρ=.rt d:=by unfold ar;rw[h]
theorem dW{N:Nat}{g:ae->FOut}{ds:List D}{d:D}{ρ:ae}(hρ:ds.map some++List.replicate (N - ds.length) none=ρ)(h:g ρ=.rt d):bj N g ds=.ok d:=by subst hρ;exact nZ h
theorem m8{i:Nat}{f:ae->Res D}{ρ ρ':ae}{xs:List D}{d:D}(h0:ρ[i]?=some (some (.lst .o xs)))(h:f ρ=.ok d)(hb:d.tag≠.b)(hl:xs.length<1000)(he:ρ.set i (some (.lst .o (xs++[d])))=ρ'):cZ i f ρ=.nx ρ':=by
 have:¬ sizeLine<=xs.length:=by have:1000<sizeLine:=(by decide);lia
 unfold cZ;rw[h0];simp only[h,aok];rw[if_neg (fun z=>z.elim hb this),he]
theorem sO{gt:D->ae->Res ae}{gb:ae->FOut}{ρ:ae}:bo gt gb [] ρ=.nx ρ:=rfl
theorem m9{gt:D->ae->Res ae}{gb:ae->FOut}{x:D}{xs:List D}{ρ ρ1:ae}{d:D}(h1:gt x ρ=.ok ρ1)(h2:gb ρ1=.rt d):bo gt gb (x::xs) ρ=.rt d:=by
 show (match gt x ρ with
  | .ok ρ1=>match gb ρ1 with
   | .nx ρ2=>bo gt gb xs ρ2
   | .ct ρ2=>bo gt gb xs ρ2
   | .bk ρ2=>.nx ρ2
   |r=>r
  |_=>.bad)=_
 rw[h1];simp only[h2]
theorem dX{i:Nat}{d:D}{ρ ρ':ae}(hi:i<ρ.length)(he:ρ.set i (some d)=ρ'):au i d ρ=.ok ρ':=by unfold au;rw[if_neg (by lia),he]
theorem dg(t:Tg)(L:List Int):(D.lst t (L.map D.int)).fz=.lst .f (L.map D.int):=by rw[aW,cU]
theorem b5(t t':Tg)(g:List (List Int)):(D.lst t (ai t' g)).fz=.lst .f (ai .f g):=by rw[aW,dM]
theorem ji(p:Parts):p.d.fz=p.d:=by
 unfold Parts.d;rw[dD,ao,ao,ao,ao,aC,b5,b5,dg,dg]
theorem DI(p:Parts):p.d.rd=p.d:=rfl
theorem pd0(p:Parts):dIx p.d (.int 0)=.ok (.lst .f (ai .f p.right)):=ix0 rfl
theorem pd1(p:Parts):dIx p.d (.int 1)=.ok (.lst .f (ai .f p.up)):=ix1 rfl
theorem pd2(p:Parts):dIx p.d (.int 2)=.ok (.lst .f (p.starts.map D.int)):=ix2 rfl
theorem pd3(p:Parts):dIx p.d (.int 3)=.ok (.lst .f (p.ends.map D.int)):=ix3 rfl
theorem jR{x y:D}{xs ys:List D}(h:x.fz=y)(h2:D.fzs xs=ys):D.fzs (x::xs)=y::ys:=by rw[ao,h,h2]
end Lw
local macro_rules | `(tactic| sizeOf_list_dec)=>`(tactic| first
 | (((with_reducible apply Lw.DD);(exact rfl);(with_reducible first | exact Lw.wl _ | exact Lw.wm _ | exact Lw.yR _ | exact Lw.wn _ | exact Lw.wo _ | exact Lw.wp _ | exact Lw.wq _ | exact Lw.sJ _ _ | exact Lw.DI _)))
 | (with_reducible exact Lw.v_C)
 | (with_reducible exact Lw.m6)
 | (with_reducible apply Lw.oh)
 | (with_reducible apply Lw.Er)
 | (with_reducible apply Lw.Cj)
 | (with_reducible apply Lw.dq)
 | (with_reducible apply Lw.DE)
 | (with_reducible exact Lw.lx _ _)
 | (with_reducible exact Lw.yS _ _)
 | (with_reducible exact Lw.Cc _ _)
 | (with_reducible exact Lw.xY _ _)
 | (with_reducible exact Lw.Cd _ _)
 | (with_reducible exact Lw.Ce _ _)
 | (with_reducible exact Lw.yT _ _)
 | (with_reducible exact Lw.yU _ _)
 | (with_reducible exact Lw.ut _ _)
 | (with_reducible exact Lw.DH _)
 | (with_reducible exact Lw.Cl _ _)
 | (with_reducible exact Lw.pd0 _)
 | (with_reducible exact Lw.pd1 _)
 | (with_reducible exact Lw.pd2 _)
 | (with_reducible exact Lw.pd3 _)
 | ((with_reducible apply Lw.ix0;(with_reducible first | exact Lw.m7 _)))
 | ((with_reducible apply Lw.ix1;(with_reducible first | exact Lw.m7 _)))
 | ((with_reducible apply Lw.ix2;(with_reducible first | exact Lw.m7 _)))
 | ((with_reducible apply Lw.ix3;(with_reducible first | exact Lw.m7 _)))
 | (with_reducible apply Lw.Ac)
 | (with_reducible apply Lw.yW)
 | (with_reducible apply Lw.yX)
 | (with_reducible apply Lw.t_2)
 | (with_reducible apply Lw.t_B)
 | (with_reducible apply Lw.uz)
 | (with_reducible apply Lw.DG)
 | (with_reducible apply Lw.yd)
 | (with_reducible apply Lw.DF)
 | (with_reducible apply Lw.wy)
 | (with_reducible apply Lw.Ck)
 | (with_reducible apply Lw.yY)
 | (with_reducible apply Lw.gT)
 | (with_reducible exact Lw.Et)
 | (with_reducible apply Lw.Eu)
 | (with_reducible exact Lw.aC)
 | (with_reducible apply Lw.jR)
 | ((with_reducible first | exact Lw.ay _ | exact Lw.dR _ | exact Lw.iu _ | exact Lw.gj | exact Lw.gn _ | exact Lw.gm _ _ _ | exact Lw.ji _ | exact Lw.dg _ _ | exact Lw.b5 _ _ _))
 | ((show Mi.D.tag _≠_;exact Lw.ntb rfl))
 | ((show List.length _<=_;exact Nat.le_of_ble_eq_true rfl))
 | ((show _<List.length _;exact Nat.le_of_ble_eq_true rfl))
 | ((show List.length _=_;exact rfl))
 | ((show List.set _ _ _=_;(first | ((simp only[List.set_cons_zero,List.set_cons_succ]);with_reducible rfl) | exact rfl)))
 | ((show (_/\_)\/Mi.D.atom _=true;exact .inr rfl))
 | ((show (_/\_)\/Mi.D.atom _=true;exact .inl ⟨rfl,Lw.ntb rfl⟩))
 | (with_reducible apply Lw.Es))
namespace Lw
open Mi PySem
def ax(p:Parts)(x y:Int)(l:Str):Int:=if l = "r" /\ x+1<p.cols then (p.right.getD y.toNat []).getD x.toNat 0 else if l = "u" /\ y+1<p.rows then (p.up.getD y.toNat []).getD x.toNat 0 else 0
abbrev bM(a:Ads)(p:Parts):D:=.ins .f a.Net (qJ p)
theorem qM(a:Ads)(p:Parts):ci a.Net "right" (bM a p)=.ok (.lst .f (ai .f p.right)):=by
 show (if a.Net=a.Net then _ else _)=_;rw[if_pos rfl];rfl
theorem yZ(a:Ads)(p:Parts):ci a.Net "up" (bM a p)=.ok (.lst .f (ai .f p.up)):=by
 show (if a.Net=a.Net then _ else _)=_;rw[if_pos rfl];rfl
theorem uA(a:Ads)(p:Parts):ci a.Net "columns" (bM a p)=.ok (.int p.cols):=by
 show (if a.Net=a.Net then _ else _)=_;rw[if_pos rfl];rfl
theorem ol(a:Ads)(p:Parts):ci a.Net "rows" (bM a p)=.ok (.int p.rows):=by
 show (if a.Net=a.Net then _ else _)=_;rw[if_pos rfl];rfl
theorem lC(g:List (List Int))(y:Int)(h0:0<=y)(h1:y<g.length):dIx (.lst .f (ai .f g)) (.int y)=.ok (.lst .f ((g.getD y.toNat []).map D.int)):=by
 obtain ⟨k,rfl⟩:∃ k:Nat,y=(k:Int):=⟨y.toNat,by lia⟩
 have hk:k<g.length:=by lia
 refine qK (x:=.lst .f ((g.getD k []).map D.int)) ?_ rfl;unfold ai;rw[List.getElem?_map,List.getElem?_eq_getElem hk];simp[List.getD,List.getElem?_eq_getElem hk]
theorem hZ{m w:Nat}{p:Parts}(G:Good m w p)(y:Int)(h0:0<=y)(h1:y<p.rows):(p.right.getD y.toNat []).length+1=p.cols/\∀ v∈p.right.getD y.toNat [],0<=v/\v<=1000:=by
 have hk:y.toNat<p.right.length:=by have:=G.rl;lia
 have:p.right.getD y.toNat []∈p.right:=by simp[List.getD,List.getElem?_eq_getElem hk]
 exact G.rr _ this
theorem nc{m w:Nat}{p:Parts}(G:Good m w p)(y:Int)(h0:0<=y)(h1:y+1<p.rows):(p.up.getD y.toNat []).length=p.cols/\∀ v∈p.up.getD y.toNat [],0<=v/\v<=1000:=by
 have hk:y.toNat<p.up.length:=by have:=G.ul;lia
 have:p.up.getD y.toNat []∈p.up:=by simp[List.getD,List.getElem?_eq_getElem hk]
 exact G.ur _ this
theorem jB{r:List Int}(h:∀ v∈r,0<=v/\v<=1000)(k:Nat):0<=r.getD k 0/\r.getD k 0<=1000:=by
 by_cases hk:k<r.length
 ·have:r.getD k 0∈r:=by simp[List.getD,List.getElem?_eq_getElem hk]
  exact h _ this
 ·simp[List.getD,List.getElem?_eq_none (Nat.le_of_not_lt hk)]
def On(p:Parts)(x y:Int):Prop:=(0<=x/\x<p.cols)/\(0<=y/\y<p.rows)
theorem iW{m w:Nat}{p:Parts}(G:Good m w p){x y:Int}(o:On p x y)(l:Str):0<=ax p x y l/\ax p x y l<=1000:=by
 unfold ax;split
 ·exact jB (hZ G y o.2.1 o.2.2).2 _
 ·split
  ·rename_i h;exact jB (nc G y o.2.1 h.2).2 _
  ·lia
theorem ie{m w:Nat}{p:Parts}(G:Good m w p):dIx (.lst .f (ai .f p.right)) (.int 0)=.ok (.lst .f ((p.right.getD 0 []).map D.int))/\((((p.right.getD 0 []).map D.int).length:Nat):Int)=(p.cols:Int) - 1:=by
 have r1:=G.r1;have e:=lC p.right 0 (by lia) (by have:=G.rl;lia);have l:=(hZ G 0 (by lia) (by lia)).1;have z:(0:Int).toNat=0:=rfl;rw[z] at l e;rw[List.length_map];exact ⟨e,by lia⟩
theorem mi(a:Ads){m w:Nat}{p:Parts}(G:Good m w p){x y:Int}(o:On p x y)(l:Str):bI a [p.d,.int x,.int y,.str l]=.ok (.int (ax p x y l)):=by
 obtain ⟨f0,fl⟩:=ie G;have ul:(((ai .f p.up).length:Nat):Int)=(p.rows:Int) - 1:=by have:=G.ul;simp[ai];lia
 refine dW (ρ:=[some p.d,some (.int x),some (.int y),some (.str l)]) rfl ?_;unfold lQ ax;by_cases h1:l = "r" /\ x+1<p.cols
 ·rw[if_pos h1]
  refine dU (dQ (b:=decide (l = "r")&&decide (x<(((p.right.getD 0 []).map D.int).length:Nat))) ?_ (by rw[fl];have:=h1.2;simp[h1.1];lia) ?_)
  ·(repeat' first|(with_reducible first|apply f0)|sizeOf_list_dec)
  ·have e1:=lC p.right y o.2.1 (by have:=G.rl;have:=o.2.2;lia)
   have e2:=dS (t:=.f) (p.right.getD y.toNat []) x o.1.1 (by have:=(hZ G y o.2.1 o.2.2).1;lia);(repeat' first|(with_reducible first|apply e1|apply e2)|sizeOf_list_dec)
 ·rw[if_neg h1]
  refine aB (dr (b:=decide (l = "r")&&decide (x<(((p.right.getD 0 []).map D.int).length:Nat))) ?_ (by rw[fl];by_cases q:l = "r" <;> simp[q] at h1 ⊢;lia) rfl) ?_
  ·(repeat' first|(with_reducible first|apply f0)|sizeOf_list_dec)
  ·by_cases h2:l = "u" /\ y+1<p.rows
   ·rw[if_pos h2]
    refine dU (dQ (b:=decide (l = "u")&&decide (y<((ai .f p.up).length:Nat))) ?_ (by rw[ul];have:=h2.2;simp[h2.1];lia) ?_)
    ·(repeat' sizeOf_list_dec)
    ·have e1:=lC p.up y o.2.1 (by have:=G.ul;have:=h2.2;lia)
     have e2:=dS (t:=.f) (p.up.getD y.toNat []) x o.1.1 (by have:=(nc G y o.2.1 h2.2).1;have:=o.1.2;lia);(repeat' first|(with_reducible first|apply e1|apply e2)|sizeOf_list_dec)
   ·rw[if_neg h2]
    refine aB (dr (b:=decide (l = "u")&&decide (y<((ai .f p.up).length:Nat))) ?_ (by rw[ul];by_cases q:l = "u" <;> simp[q] at h2 ⊢;lia) rfl) ?_
    ·(repeat' sizeOf_list_dec)
    ·(repeat' sizeOf_list_dec)
def nX(x:Int)(l:Str):Int:=if l = "r" then x+1 else x
def nY(y:Int)(l:Str):Int:=if l = "r" then y else y+1
theorem jC{m w:Nat}{p:Parts}(G:Good m w p){x y:Int}(o:On p x y)(l:Str)(h:ax p x y l≠0):On p (nX x l) (nY y l):=by
 have o':=o;unfold On at o' ⊢;unfold ax at h;unfold nX nY;split at h
 ·rename_i q;rw[if_pos q.1,if_pos q.1];lia
 ·split at h
  ·rename_i q1 q
   have:¬ l = "r" := by intro e;rw[e] at q;exact absurd q.1 (by decide)
   rw[if_neg this,if_neg this];lia
  ·exact absurd rfl h
theorem ng{f:ae->Res D}{ρ:ae}{g:List (List Int)}(h:f ρ=.ok (.lst .f (ai .f g)))(hl:g.length<=1000):aK 1 [] (aH f) (au 0) aM (fCB ck (ac (ad 0) ah)) ρ=.ok (.lst .o (ai .o g)):=by
 have hi:aH f ρ=.ok (ai .f g):=by
  unfold aH;rw[h,bok];show (if _ then _ else bT (some ((ai .f g).map D.asF)))=_;rw[if_neg (ntb rfl),eY];rfl
 have e:=fw (cap:=[]) (fi:=aH f) (fe:=fCB ck (ac (ad 0) ah)) (ρ:=ρ) (items:=ai .f g) cpL hi (fun x hx=>by
  obtain ⟨r,_,rfl⟩:=List.mem_map.mp hx
  exact ⟨rfl,ntb rfl⟩) (by simp[ai];exact hl)
 rw[e];congr 2;unfold ai;rw[List.map_map];refine List.map_congr_left fun r _=>?_;show D.lst .o ((r.map D.int).map D.asF)=_;rw[cH]
theorem Ad(L:List Int):ck [.lst .f (L.map D.int)]=.ok (.lst .o (L.map D.int)):=by
 show Res.ok (D.lst .o ((L.map D.int).map D.asF))=_;rw[cH]
theorem Ae(a:Ads){m w:Nat}{p:Parts}(h8:m<=8)(h4:w<=4)(G:Good m w p):gh a [p.d]=.ok (bM a p):=by
 have r1:=G.r1;refine dW (ρ:=[some p.d,none,none]) rfl ?_;unfold mU;refine aB (ρ':=[some p.d,some (.lst .f (ai .f p.right)),some (.lst .f (ai .f p.up))]) ?_ ?_
 ·unfold xL
  have e0:f2 dIx (ad 0) (fC (.int 0)) [some p.d,none,none]=.ok (.lst .f (ai .f p.right)):=by (repeat' sizeOf_list_dec)
  have e1:f2 dIx (ad 0) (fC (.int 1)) [some p.d,none,none]=.ok (.lst .f (ai .f p.up)):=by (repeat' sizeOf_list_dec)
  rw[dq (ng e0 (by have:=G.rl;lia)) (dq (ng e1 (by have:=G.ul;lia)) m6),aok];show (if _ then FOut.bad else FOut.nx _)=_;rw[if_neg (by rintro (z | z | z | z)<;>first | exact nomatch z | exact absurd z (by show ¬ 3<=_;decide))];rw[b5,b5];rfl
 ·refine gT ?_ (ntb rfl)
  have ha:ac (ad 1) (ac (ad 2) (ac (fCB ck (ac (f2 dIx (ad 0) (fC (.int 2))) ah)) (ac (fCB ck (ac (f2 dIx (ad 0) (fC (.int 3))) ah)) ah))) [some p.d,some (.lst .f (ai .f p.right)),some (.lst .f (ai .f p.up))]=.ok [.lst .f (ai .f p.right),.lst .f (ai .f p.up),.lst .o (p.starts.map D.int),.lst .o (p.ends.map D.int)]:=by (repeat' first|(with_reducible first|apply Ad)|sizeOf_list_dec)
  have hz:D.fzs [.lst .f (ai .f p.right),.lst .f (ai .f p.up),.lst .o (p.starts.map D.int),.lst .o (p.ends.map D.int)]=[.lst .f (ai .f p.right),.lst .f (ai .f p.up),.lst .f (p.starts.map D.int),.lst .f (p.ends.map D.int)]:=by (repeat' first | (with_reducible exact Lw.aC) | (with_reducible apply Lw.jR) | (with_reducible first | exact Lw.ay _ | exact Lw.dR _ | exact Lw.iu _ | exact Lw.gj | exact Lw.gn _ | exact Lw.gm _ _ _ | exact Lw.ji _ | exact Lw.dg _ _ | exact Lw.b5 _ _ _))
  unfold lm;rw[ha,bok,if_pos ⟨rfl,rfl⟩,hz,oP fun x=>wx a x p m w h8 h4 G];rfl
def go(p:Parts):List Str->Int->Int->Option (List (Int × Int) × Int)
 | [],_,_=>some ([],1)
 |l::ls,x,y=>if ax p x y l=0 then none else match go p ls (nX x l) (nY y l) with
  |some (ps,w)=>some ((nX x l,nY y l)::ps,ax p x y l*w)
  |none=>none
def plD(q:Int × Int):D:=.tup [.int q.1,.int q.2]
abbrev kI(a:Ads):ae->FOut:=(ar (aw 7 (fFz (aq 4 (bI a) (ac (ad 0) (ac (ad 1) (ac (ad 2) (ac (ad 6) ah)))))))
 (ar (gIf (ft2 dEq (ad 7) (fC (.int 0))) (bc (fC .non)) aP)
 (ar (aw 5 (fFz (f2 bB (ad 5) (ad 7))))
 (ar (gIf (ft2 dEq (ad 6) (fC (.str "r"))) (aw 1 (fFz (f2 aL (ad 1) (fC (.int 1))))) (aw 2 (fFz (f2 aL (ad 2) (fC (.int 1))))))
 (cZ 4 (bY (ac (ad 1) (ac (ad 2) ah))))))))
def stW(p:Parts)(x y:Int)(w0:Option D)(Fd:List (Int × Int))(t:Int)(l s:Option D):ae:=[some p.d,some (.int x),some (.int y),w0,some (.lst .o (Fd.map plD)),some (.int t),l,s]
theorem o7(a:Ads){m w:Nat}{p:Parts}(G:Good m w p)(w0:Option D):∀ (ls:List Str) (x y t:Int) (Fd:List (Int × Int)) (e1 e2:Option D),On p x y->Fd.length+ls.length<1000 →
    match go p ls x y with
    |none=>bo (au 6) (kI a) (ls.map D.str) (stW p x y w0 Fd t e1 e2)=.rt .non
    |some (ps,v)=>∃ x' y' e1' e2',bo (au 6) (kI a) (ls.map D.str) (stW p x y w0 Fd t e1 e2)=.nx (stW p x' y' w0 (Fd++ps) (t*v) e1' e2')
 | [],x,y,t,Fd,e1,e2,_,_=>⟨x,y,e1,e2,by show FOut.nx _=_;rw[List.append_nil,Int.mul_one]⟩
 |l::ls,x,y,t,Fd,e1,e2,o,hl=>by
  have st:=mi a G o l;have t1:au 6 (.str l) (stW p x y w0 Fd t e1 e2)=.ok (stW p x y w0 Fd t (some (.str l)) e2):=dX (by show 6<8;decide) rfl;have s1:aw 7 (fFz (aq 4 (bI a) (ac (ad 0) (ac (ad 1) (ac (ad 2) (ac (ad 6) ah)))))) (stW p x y w0 Fd t (some (.str l)) e2)=.nx (stW p x y w0 Fd t (some (.str l)) (some (.int (ax p x y l)))):=by
   unfold stW;(repeat' first|(with_reducible first|apply st)|sizeOf_list_dec)
  have hin:=iW G o l;show match (if ax p x y l=0 then none else match go p ls (nX x l) (nY y l) with
      |some (ps,w)=>some ((nX x l,nY y l)::ps,ax p x y l*w)
      |none=>none) with
   |none=>bo (au 6) (kI a) (.str l::ls.map D.str) (stW p x y w0 Fd t e1 e2)=.rt .non
   |some (ps,v)=>∃ x' y' e1' e2',bo (au 6) (kI a) (.str l::ls.map D.str) (stW p x y w0 Fd t e1 e2)=.nx (stW p x' y' w0 (Fd++ps) (t*v) e1' e2')
  by_cases h0:ax p x y l=0
  ·rw[if_pos h0]
   refine m9 t1 (aB s1 (dU (dQ (b:=decide (ax p x y l=0)) ?_ (by rw[h0];rfl) ?_)))
   ·unfold stW;(repeat' sizeOf_list_dec)
   ·(repeat' sizeOf_list_dec)
  ·rw[if_neg h0]
   have o':=jC G o l h0;have hm:bB (.int t) (.int (ax p x y l))=.ok (.int (t*ax p x y l)):=jQ _ _ (by lia);have b:kI a (stW p x y w0 Fd t (some (.str l)) e2)=.nx (stW p (nX x l) (nY y l) w0 (Fd++[(nX x l,nY y l)]) (t*ax p x y l) (some (.str l)) (some (.int (ax p x y l)))):=by
    refine aB s1 (aB (ρ':=stW p x y w0 Fd t (some (.str l)) (some (.int (ax p x y l)))) (dr (b:=decide (ax p x y l=0)) ?_ (by simpa using h0) rfl) (aB (ρ':=stW p x y w0 Fd (t*ax p x y l) (some (.str l)) (some (.int (ax p x y l)))) ?_ (aB (ρ':=stW p (nX x l) (nY y l) w0 Fd (t*ax p x y l) (some (.str l)) (some (.int (ax p x y l)))) ?_ ?_)))
    ·unfold stW;(repeat' sizeOf_list_dec)
    ·unfold stW;(repeat' first|(with_reducible first|apply hm)|sizeOf_list_dec)
    ·unfold nX nY
     by_cases q:l = "r"
     ·rw[if_pos q,if_pos q]
      refine dQ (b:=decide (l = "r")) ?_ (by simpa using q) ?_
      ·unfold stW;(repeat' sizeOf_list_dec)
      ·unfold stW;(repeat' sizeOf_list_dec)
     ·rw[if_neg q,if_neg q]
      refine dr (b:=decide (l = "r")) ?_ (by simpa using q) ?_
      ·unfold stW;(repeat' sizeOf_list_dec)
      ·unfold stW;(repeat' sizeOf_list_dec)
    ·refine m8 (xs:=Fd.map plD) (d:=plD (nX x l,nY y l)) rfl ?_ (ntb rfl) (by simp at hl ⊢;lia) ?_
     ·unfold stW plD;(repeat' sizeOf_list_dec)
     ·show _=stW _ _ _ _ _ _ _ _
      unfold stW;rw[List.map_append];rfl
   have ih:=o7 a G w0 ls (nX x l) (nY y l) (t*ax p x y l) (Fd++[(nX x l,nY y l)]) (some (.str l)) (some (.int (ax p x y l))) o' (by simp at hl ⊢;lia);revert ih
   cases hg:go p ls (nX x l) (nY y l) with
   |none=>intro ih;exact bf t1 b ih
   |some q=>
    obtain ⟨ps,v⟩:=q;rintro ⟨x',y',e1',e2',ih⟩;refine ⟨x',y',e1',e2',bf t1 b (ih.trans ?_)⟩;rw[List.append_assoc,Int.mul_assoc];rfl
def ins(p:Parts)(x y:Int):Bool:=(decide (0<=x)&&decide (x<p.cols))&&(decide (0<=y)&&decide (y<p.rows))
theorem ins_on{p:Parts}{x y:Int}:ins p x y=true ↔ On p x y:=by unfold ins On;simp
def a9(x:Str):List Str:=x.cps.toList.map fun c=>⟨#[c]⟩
theorem Af(x:Str):ma x=(a9 x).map D.str:=by unfold ma a9;rw[List.map_map];rfl
theorem gM(x:Str):(a9 x).length=x.length:=by unfold a9;simp[Str.length]
theorem qN{f:ae->Res D}{ρ:ae}{x:Str}(h:f ρ=.ok (.str x))(ha:asc x=true):aH f ρ=.ok ((a9 x).map D.str):=by
 unfold aH;rw[h,bok,<- Af];show (if _ then _ else _)=_;rw[if_pos ha]
def due(p:Parts)(x y:Int)(s:Str):Option (List (Int × Int) × Int):=if ins p x y=true then go p (a9 s) x y else none
theorem qO(t:Tg)(L:List (Int × Int)):(D.lst t (L.map plD)).fz=.lst .f (L.map plD):=by
 rw[aW];congr 1;induction L with
 |nil=>exact aC
 |cons q L ih=>rw[List.map_cons,ao,ih];unfold plD;rw[dD,ao,ao,aC,ay,ay]
def Ev:Option (List (Int × Int) × Int)->Int->Int->D
 |none,_,_=>.non
 |some (ps,w),x,y=>.tup [.lst .f (((x,y)::ps).map plD),.int w]
theorem qP(a:Ads){m w:Nat}{p:Parts}(G:Good m w p)(x y:Int)(s:Str)(ha:asc s=true)(hl:s.length<900):cD a [p.d,.int x,.int y,.str s]=.ok (Ev (due p x y s) x y):=by
 obtain ⟨f0,fl⟩:=ie G;have rl:(((ai .f p.right).length:Nat):Int)=(p.rows:Int):=by have:=G.rl;simp[ai];lia
 refine dW (ρ:=[some p.d,some (.int x),some (.int y),some (.str s),none,none,none,none]) rfl ?_;unfold lR due
 have ht:jJ (cY (ftB (cA (fun i j=>decide (i<=j)) (fun i j=>decide (i<=j)) (fC (.int 0)) (ad 1) (fCB a8 (ac (f2 dIx (f2 dIx (ad 0) (fC (.int 0))) (fC (.int 0))) ah))))) (cY (ftB (cA (fun i j=>decide (i<=j)) (fun i j=>decide (i<j)) (fC (.int 0)) (ad 2) (fCB a8 (ac (f2 dIx (ad 0) (fC (.int 0))) ah))))) [some p.d,some (.int x),some (.int y),some (.str s),none,none,none,none]=.ok (!ins p x y):=by
  have e:(!ins p x y)=((!(decide (0<=x)&&decide (x<=(((p.right.getD 0 []).map D.int).length:Nat))))||(!(decide (0<=y)&&decide (y<((ai .f p.right).length:Nat))))):=by
   rw[fl,rl];unfold ins;rw[show decide (x<=(p.cols:Int) - 1)=decide (x<(p.cols:Int)) from decide_eq_decide.mpr (by lia),Bool.not_and]
  rw[e];(repeat' first|(with_reducible first|apply f0)|sizeOf_list_dec)
 by_cases hi:ins p x y=true
 ·rw[if_pos hi]
  have o:=ins_on.mp hi;have lp:=o7 a G (some (.str s)) (a9 s) x y 1 [(x,y)] none none o (by rw[gM];simp;lia);refine aB (dr ht (by rw[hi];rfl) rfl) (aB (ρ':=[some p.d,some (.int x),some (.int y),some (.str s),some (.lst .o ([(x,y)].map plD)),none,none,none]) ?_ (aB (ρ':=stW p x y (some (.str s)) [(x,y)] 1 none none) ?_ ?_))
  ·(repeat' sizeOf_list_dec)
  ·unfold stW;(repeat' sizeOf_list_dec)
  ·have ff:=qN (f:=ad 3) (ρ:=stW p x y (some (.str s)) [(x,y)] 1 none none) (x:=s) rfl ha
   revert lp
   cases hg:go p (a9 s) x y with
   |none=>intro lp;exact dU (bE ff lp)
   |some q=>
    obtain ⟨ps,v⟩:=q;rintro ⟨x',y',e1,e2,lp⟩;refine aB (bE ff lp) ?_;show bc _ (frzAt 4 (stW _ _ _ _ _ _ _ _))=_;have fr:frzAt 4 (stW p x' y' (some (.str s)) ([(x,y)]++ps) (1*v) e1 e2)=[some p.d,some (.int x'),some (.int y'),some (.str s),some (.lst .f (((x,y)::ps).map plD)),some (.int v),e1,e2]:=by
     unfold frzAt stW;show List.set _ 4 (some (D.fz (.lst .o (([(x,y)]++ps).map plD))))=_;rw[qO,Int.one_mul];rfl
    rw[fr];show _=FOut.rt (.tup [.lst .f (((x,y)::ps).map plD),.int v]);have fp:=qO .f ((x,y)::ps);(repeat' first|(with_reducible first|apply fp)|sizeOf_list_dec)
 ·rw[if_neg hi]
  have hi':ins p x y=false:=by simpa using hi
  refine dU (dQ ht (by rw[hi'];rfl) ?_);show _=FOut.rt .non;(repeat' sizeOf_list_dec)
theorem dE{p:Parts}{x y:Int}{s:Str}{q:List (Int × Int) × Int}(h:due p x y s=some q):On p x y/\go p (a9 s) x y=some q:=by
 unfold due at h;split at h
 ·rename_i hi;exact ⟨ins_on.mp hi,h⟩
 ·cases h
theorem o8(a:Ads)(p:Parts):ci a.Net "starts" (bM a p)=.ok (.lst .f (p.starts.map D.int)):=by
 show (if a.Net=a.Net then _ else _)=_;rw[if_pos rfl];rfl
theorem sP(a:Ads)(p:Parts):ci a.Net "ends" (bM a p)=.ok (.lst .f (p.ends.map D.int)):=by
 show (if a.Net=a.Net then _ else _)=_;rw[if_pos rfl];rfl
theorem nh{f:ae->Res D}{ρ:ae}{L:List Int}(h:f ρ=.ok (.lst .f (L.map D.int))):aH f ρ=.ok (L.map D.int):=by
 unfold aH;rw[h,bok];show (if _ then _ else bT (some ((L.map D.int).map D.asF)))=_;rw[if_neg (ntb rfl),cH];rfl
def onV(f:Int->Int):D->D
 | .int i=>.int (f i)
 |d=>d
theorem Ag(f:Int->Int)(L:List Int):(L.map D.int).map (onV f)=(L.map f).map D.int:=by
 rw[List.map_map,List.map_map];rfl
theorem wC(t:Tg)(g:List (List Int))(r:List Int):ai t (g++[r])=ai t g++[.lst t (r.map D.int)]:=by unfold ai;rw[List.map_append];rfl
theorem bL{m w:Nat}{p:Parts}(G:Good m w p):p.ends.length<=w/\p.starts.length=p.ends.length/\(∀ e∈p.ends,0<=e/\e<p.rows)/\(∀ e∈p.starts,0<=e/\e<p.rows)/\1<=p.starts.length:=by
 obtain ⟨k,k1,k2,rs,re⟩:=G.many;exact ⟨by rw[re.len];exact k2,by rw[rs.len,re.len],re.inn,rs.inn,by rw[rs.len];exact k1⟩
abbrev Pt:=(Int × Int) × Str
def prD(q:Pt):D:=.tup [.tup [.int q.1.1,.int q.1.2],.str q.2]
def thX(x:Int)(l:Str):Int:=x+(if decide (l = "r") then 1 else 0)
def thY(y:Int)(l:Str):Int:=y+(if decide (l = "u") then 1 else 0)
def dN(p:Parts)(ex ey:Int)(q:Pt)(l:Str):List Pt:=if (decide (thX q.1.1 l<=ex)&&decide (thY q.1.2 l<=ey))=true/\0<ax p q.1.1 q.1.2 l then [((thX q.1.1 l,thY q.1.2 l),q.2++l)] else []
def ext(p:Parts)(ex ey:Int)(q:Pt):List Pt:=dN p ex ey q "r" ++ dN p ex ey q "u"
def bfs(p:Parts)(ex ey:Int):Nat->List Pt->List Pt
 | 0,R=>R
 |n+1,R=>bfs p ex ey n (R.flatMap (ext p ex ey))
theorem DJ(q:Pt):(prD q).fz=prD q:=by unfold prD;rw[dD,ao,ao,aC,dD,ao,ao,aC,ay,ay,dR]
theorem om:∀ L:List Pt,D.fzs (L.map prD)=L.map prD
 | []=>aC
 |q::L=>by rw[List.map_cons,ao,DJ,om L]
def stB(p:Parts)(h:Option D)(ex ey:Int)(R:Option D)(t:Option D)(Lg:List Pt)(e6 e7 e8 e9 e10:Option D):ae:=[some p.d,h,some (.tup [.int ex,.int ey]),R,t,some (.lst .o (Lg.map prD)),e6,e7,e8,e9,e10]
abbrev gbL(a:Ads):ae->FOut:=(ar (aw 9 (fFz (bY (ac (f2 aL (f2 dIx (ad 6) (fC (.int 0))) (fCB dw (ac (f2 dEq (ad 8) (fC (.str "r"))) ah))) (ac (f2 aL (f2 dIx (ad 6) (fC (.int 1))) (fCB dw (ac (f2 dEq (ad 8) (fC (.str "u"))) ah))) ah)))))
 (ar (aw 10 (fFz (l7 (f2 dLe (f2 dIx (ad 9) (fC (.int 0))) (f2 dIx (ad 2) (fC (.int 0)))) (f2 dLe (f2 dIx (ad 9) (fC (.int 1))) (f2 dIx (ad 2) (fC (.int 1)))))))
 (gIf (fX (ftB (ad 10)) (ft2 dGt (aq 4 (bI a) (ac (ad 0) (ac (f2 dIx (ad 6) (fC (.int 0))) (ac (f2 dIx (ad 6) (fC (.int 1))) (ac (ad 8) ah))))) (fC (.int 0)))) (cZ 5 (bY (ac (ad 9) (ac (f2 aL (ad 7) (ad 8)) ah)))) aP)))
theorem oo(b:Bool):dw [.bl b]=.ok (.int (if b then 1 else 0)):=rfl
theorem Ah(i j:Str)(h:i.length+j.length<=1000):aL (.str i) (.str j)=.ok (.str (i++j)):=by
 show (if i.length+j.length<=sizeLine then _ else _)=_;rw[if_pos (iw h)]
theorem qQ(a:Ads){m w:Nat}{p:Parts}(G:Good m w p)(h:Option D)(ex ey:Int)(R t:Option D)(Lg:List Pt)(q:Pt)(o:On p q.1.1 q.1.2)(hq:q.2.length<500)(l:Str)(hl:l.length=1)(hL:Lg.length<900)(e9 e10:Option D) :
    ∃ e9' e10',gbL a (stB p h ex ey R t Lg (some (.tup [.int q.1.1,.int q.1.2])) (some (.str q.2)) (some (.str l)) e9 e10)=.nx (stB p h ex ey R t (Lg++dN p ex ey q l) (some (.tup [.int q.1.1,.int q.1.2])) (some (.str q.2)) (some (.str l)) e9' e10'):=by
 have st:=mi a G o l;have ca:=Ah q.2 l (by lia)
 have s9:aw 9 (fFz (bY (ac (f2 aL (f2 dIx (ad 6) (fC (.int 0))) (fCB dw (ac (f2 dEq (ad 8) (fC (.str "r"))) ah))) (ac (f2 aL (f2 dIx (ad 6) (fC (.int 1))) (fCB dw (ac (f2 dEq (ad 8) (fC (.str "u"))) ah))) ah)))) (stB p h ex ey R t Lg (some (.tup [.int q.1.1,.int q.1.2])) (some (.str q.2)) (some (.str l)) e9 e10)=.nx (stB p h ex ey R t Lg (some (.tup [.int q.1.1,.int q.1.2])) (some (.str q.2)) (some (.str l)) (some (.tup [.int (thX q.1.1 l),.int (thY q.1.2 l)])) e10):=by
  have fzt:(D.tup [.int (thX q.1.1 l),.int (thY q.1.2 l)]).fz=.tup [.int (thX q.1.1 l),.int (thY q.1.2 l)]:=by rw[dD,ao,ao,aC,ay,ay]
  unfold thX thY at fzt ⊢;unfold stB;(repeat' first|(with_reducible first|apply oo|apply fzt)|sizeOf_list_dec)
 have s10:aw 10 (fFz (l7 (f2 dLe (f2 dIx (ad 9) (fC (.int 0))) (f2 dIx (ad 2) (fC (.int 0)))) (f2 dLe (f2 dIx (ad 9) (fC (.int 1))) (f2 dIx (ad 2) (fC (.int 1)))))) (stB p h ex ey R t Lg (some (.tup [.int q.1.1,.int q.1.2])) (some (.str q.2)) (some (.str l)) (some (.tup [.int (thX q.1.1 l),.int (thY q.1.2 l)])) e10)=.nx (stB p h ex ey R t Lg (some (.tup [.int q.1.1,.int q.1.2])) (some (.str q.2)) (some (.str l)) (some (.tup [.int (thX q.1.1 l),.int (thY q.1.2 l)])) (some (.bl (decide (thX q.1.1 l<=ex)&&decide (thY q.1.2 l<=ey))))):=by
  unfold stB;(repeat' sizeOf_list_dec)
 have tt:fX (ftB (ad 10)) (ft2 dGt (aq 4 (bI a) (ac (ad 0) (ac (f2 dIx (ad 6) (fC (.int 0))) (ac (f2 dIx (ad 6) (fC (.int 1))) (ac (ad 8) ah))))) (fC (.int 0))) (stB p h ex ey R t Lg (some (.tup [.int q.1.1,.int q.1.2])) (some (.str q.2)) (some (.str l)) (some (.tup [.int (thX q.1.1 l),.int (thY q.1.2 l)])) (some (.bl (decide (thX q.1.1 l<=ex)&&decide (thY q.1.2 l<=ey)))))=.ok ((decide (thX q.1.1 l<=ex)&&decide (thY q.1.2 l<=ey))&&decide (0<ax p q.1.1 q.1.2 l)):=by
  unfold stB;(repeat' first|(with_reducible first|apply st)|sizeOf_list_dec)
 refine ⟨some (.tup [.int (thX q.1.1 l),.int (thY q.1.2 l)]),some (.bl (decide (thX q.1.1 l<=ex)&&decide (thY q.1.2 l<=ey))),aB s9 (aB s10 ?_)⟩;unfold dN;by_cases hc:(decide (thX q.1.1 l<=ex)&&decide (thY q.1.2 l<=ey))=true/\0<ax p q.1.1 q.1.2 l
 ·rw[if_pos hc]
  refine dQ tt (by rw[hc.1];simpa using hc.2) (m8 (xs:=Lg.map prD) (d:=prD ((thX q.1.1 l,thY q.1.2 l),q.2++l)) rfl ?_ (ntb rfl) (by simp;lia) ?_)
  ·have fzt:(D.tup [.int (thX q.1.1 l),.int (thY q.1.2 l)]).fz=.tup [.int (thX q.1.1 l),.int (thY q.1.2 l)]:=by rw[dD,ao,ao,aC,ay,ay]
   unfold stB prD;(repeat' first|(with_reducible first|apply ca|apply fzt)|sizeOf_list_dec)
  ·unfold stB;rw[List.map_append];rfl
 ·rw[if_neg hc,List.append_nil]
  refine dr tt ?_ rfl
  cases hb:(decide (thX q.1.1 l<=ex)&&decide (thY q.1.2 l<=ey)) with
  |false=>rfl
  |true=>simp[hb] at hc;simp;lia
theorem mj(p:Parts)(ex ey:Int)(q:Pt)(l:Str):(dN p ex ey q l).length<=1:=by unfold dN;split<;>simp
theorem sQ(p:Parts)(ex ey:Int)(q:Pt):(ext p ex ey q).length<=2:=by
 unfold ext;have:=mj p ex ey q "r";have:=mj p ex ey q "u";rw[List.length_append];lia
theorem ml(p:Parts)(ex ey:Int):∀ R:List Pt,(R.flatMap (ext p ex ey)).length<=2*R.length
 | []=>by simp
 |q::R=>by
  have:=sQ p ex ey q;have:=ml p ex ey R;rw[List.flatMap_cons,List.length_append,List.length_cons];lia
theorem sR:(a9 "ru").map D.str=[.str "r", .str "u"]:=by rfl
abbrev gbQ(a:Ads):ae->FOut:=bA (aH (fC (.str "ru"))) (au 8) (gbL a)
theorem Cn(a:Ads){m w:Nat}{p:Parts}(G:Good m w p)(h:Option D)(ex ey:Int)(R t:Option D)(Lg:List Pt)(q:Pt)(o:On p q.1.1 q.1.2)(hq:q.2.length<500)(hL:Lg.length<890)(e8 e9 e10:Option D) :
    ∃ e8' e9' e10',gbQ a (stB p h ex ey R t Lg (some (.tup [.int q.1.1,.int q.1.2])) (some (.str q.2)) e8 e9 e10)=.nx (stB p h ex ey R t (Lg++ext p ex ey q) (some (.tup [.int q.1.1,.int q.1.2])) (some (.str q.2)) e8' e9' e10'):=by
 have fi:=qN (f:=fC (.str "ru")) (ρ:=stB p h ex ey R t Lg (some (.tup [.int q.1.1,.int q.1.2])) (some (.str q.2)) e8 e9 e10) (x := "ru") rfl (by decide +kernel);rw[sR] at fi;obtain ⟨f9,f10,b1⟩:=qQ a G h ex ey R t Lg q o hq "r" (by decide +kernel) (by lia) e9 e10
 obtain ⟨g9,g10,b2⟩:=qQ a G h ex ey R t (Lg++dN p ex ey q "r") q o hq "u" (by decide +kernel) (by have:=mj p ex ey q "r"; rw[List.length_append];lia) f9 f10
 refine ⟨some (.str "u"),g9,g10,bE fi (bf (ρ1:=stB p h ex ey R t Lg (some (.tup [.int q.1.1,.int q.1.2])) (some (.str q.2)) (some (.str "r")) e9 e10) (dX (by show 8<11;decide) rfl) b1 (bf (ρ1:=stB p h ex ey R t (Lg++dN p ex ey q "r") (some (.tup [.int q.1.1,.int q.1.2])) (some (.str q.2)) (some (.str "u")) f9 f10) (dX (by show 8<11;decide) rfl) b2 ?_))⟩;unfold ext;rw[<- List.append_assoc];rfl
theorem wD(a:Ads){m w:Nat}{p:Parts}(G:Good m w p)(h:Option D)(ex ey:Int)(R t:Option D):∀ (L Lg:List Pt) (e6 e7 e8 e9 e10:Option D),(∀ q∈L,On p q.1.1 q.1.2/\q.2.length<500)->Lg.length+2*L.length<890 →
    ∃ e6' e7' e8' e9' e10',bo (bG [6,7]) (gbQ a) (L.map prD) (stB p h ex ey R t Lg e6 e7 e8 e9 e10)=.nx (stB p h ex ey R t (Lg++L.flatMap (ext p ex ey)) e6' e7' e8' e9' e10')
 | [],Lg,e6,e7,e8,e9,e10,_,_=>⟨e6,e7,e8,e9,e10,by rw[List.flatMap_nil,List.append_nil];rfl⟩
 |q::L,Lg,e6,e7,e8,e9,e10,hL,hl=>by
  have hq:=hL q List.mem_cons_self;obtain ⟨f8,f9,f10,b⟩:=Cn a G h ex ey R t Lg q hq.1 hq.2 (by simp at hl;lia) e8 e9 e10;obtain ⟨g6,g7,g8,g9,g10,ih⟩:=wD a G h ex ey R t L (Lg++ext p ex ey q) (some (.tup [.int q.1.1,.int q.1.2])) (some (.str q.2)) f8 f9 f10 (fun z hz=>hL z (List.mem_cons_of_mem _ hz)) (by have:=sQ p ex ey q;simp at hl ⊢;lia);refine ⟨g6,g7,g8,g9,g10,?_⟩;rw[List.map_cons]
  refine bf (ρ1:=stB p h ex ey R t Lg (some (.tup [.int q.1.1,.int q.1.2])) (some (.str q.2)) e8 e9 e10) rfl b (ih.trans ?_);rw[List.append_assoc,List.flatMap_cons]
def kJ(p:Parts)(n:Nat)(q:Pt):Prop:=On p q.1.1 q.1.2/\q.2.length=n
theorem nk(x y:Int){l:Str}(h:l = "r" \/ l = "u"):thX x l=nX x l/\thY y l=nY y l:=by
 unfold thX thY nX nY;rcases h with rfl | rfl
 ·refine ⟨by simp,?_⟩
  rw[if_neg (by decide +kernel),if_pos rfl,Int.add_zero]
 ·refine ⟨?_,?_⟩
  ·rw[if_neg (by decide +kernel),if_neg (by decide +kernel),Int.add_zero]
  ·rw[if_pos (by decide +kernel),if_neg (by decide +kernel)]
theorem sS{m w:Nat}{p:Parts}(G:Good m w p)(ex ey:Int)(n:Nat)(q:Pt)(hq:kJ p n q){l:Str}(hl:l = "r" \/ l = "u"):∀ z∈dN p ex ey q l,kJ p (n+1) z:=by
 intro z hz;unfold dN at hz;split at hz
 ·rename_i hc
  rw[List.mem_singleton] at hz;subst hz;obtain ⟨tx,ty⟩:=nk q.1.1 q.1.2 hl;refine ⟨?_,?_⟩
  ·show On p (thX q.1.1 l) (thY q.1.2 l)
   rw[tx,ty];exact jC G hq.1 l (by lia)
  ·show (q.2++l).length=n+1
   have:(q.2++l).length=q.2.length+l.length:=by show (q.2.cps++l.cps).size=_;rw[Array.size_append];rfl
   rw[this,hq.2];rcases hl with rfl | rfl<;>rfl
 ·cases hz
theorem sT{m w:Nat}{p:Parts}(G:Good m w p)(ex ey:Int)(n:Nat)(R:List Pt)(hR:∀ q∈R,kJ p n q):∀ z∈R.flatMap (ext p ex ey),kJ p (n+1) z:=by
 intro z hz;obtain ⟨q,hq,hz⟩:=List.mem_flatMap.mp hz;rcases List.mem_append.mp hz with h | h
 ·exact sS G ex ey n q (hR q hq) (.inl rfl) z h
 ·exact sS G ex ey n q (hR q hq) (.inr rfl) z h
def stA(p:Parts)(h:Option D)(ex ey:Int)(R:List Pt)(t e5 e6 e7 e8 e9 e10:Option D):ae:=[some p.d,h,some (.tup [.int ex,.int ey]),some (.lst .f (R.map prD)),t,e5,e6,e7,e8,e9,e10]
abbrev gbA(a:Ads):ae->FOut:=(ar (aw 5 (bv ah))
 (ar (bA (aH (ad 3)) (bG [6,7]) (gbQ a))
 (fun ρ=>(aw 3 (fFz (ad 5))) (frzAt 5 ρ))))
theorem lX(L:List Pt):(L.map prD).map D.asF=L.map prD:=by rw[List.map_map];rfl
theorem Co(a:Ads){m w:Nat}{p:Parts}(G:Good m w p)(h:Option D)(ex ey:Int)(R:List Pt)(n:Nat)(hn:n<400)(hR:∀ q∈R,kJ p n q)(hl:R.length<400)(t e5 e6 e7 e8 e9 e10:Option D) :
    ∃ e5' e6' e7' e8' e9' e10',gbA a (stA p h ex ey R t e5 e6 e7 e8 e9 e10)=.nx (stA p h ex ey (R.flatMap (ext p ex ey)) t e5' e6' e7' e8' e9' e10'):=by
 obtain ⟨g6,g7,g8,g9,g10,lp⟩:=wD a G h ex ey (some (.lst .f (R.map prD))) t R [] e6 e7 e8 e9 e10 (fun q hq=>⟨(hR q hq).1,by rw[(hR q hq).2];lia⟩) (by simp;lia);have fi:aH (ad 3) (stB p h ex ey (some (.lst .f (R.map prD))) t [] e6 e7 e8 e9 e10)=.ok (R.map prD):=by
  unfold aH;rw[c7 3 _ _ rfl,bok];show (if _ then _ else bT (some ((R.map prD).map D.asF)))=_;rw[if_neg (ntb rfl),lX];rfl
 refine ⟨some (.lst .f ((R.flatMap (ext p ex ey)).map prD)),g6,g7,g8,g9,g10,aB (ρ':=stB p h ex ey (some (.lst .f (R.map prD))) t [] e6 e7 e8 e9 e10) ?_ (aB (bE fi lp) ?_)⟩
 ·unfold stA stB
  show _=FOut.nx [some p.d,h,some (.tup [.int ex,.int ey]),some (.lst .f (R.map prD)),t,some (.lst .o []),e6,e7,e8,e9,e10];(repeat' sizeOf_list_dec)
 ·rw[List.nil_append]
  show aw 3 (fFz (ad 5)) (frzAt 5 (stB p h ex ey (some (.lst .f (R.map prD))) t (R.flatMap (ext p ex ey)) g6 g7 g8 g9 g10))=_;have fr:frzAt 5 (stB p h ex ey (some (.lst .f (R.map prD))) t (R.flatMap (ext p ex ey)) g6 g7 g8 g9 g10)=[some p.d,h,some (.tup [.int ex,.int ey]),some (.lst .f (R.map prD)),t,some (.lst .f ((R.flatMap (ext p ex ey)).map prD)),g6,g7,g8,g9,g10]:=by
   unfold frzAt stB;show List.set _ 5 (some (D.fz (.lst .o ((R.flatMap (ext p ex ey)).map prD))))=_;rw[aW,om];rfl
  rw[fr];have fz:(D.lst .f ((R.flatMap (ext p ex ey)).map prD)).fz=.lst .f ((R.flatMap (ext p ex ey)).map prD):=by rw[aW,om]
  unfold stA;(repeat' first|(with_reducible first|apply fz)|sizeOf_list_dec)
theorem wE(a:Ads){m w:Nat}{p:Parts}(G:Good m w p)(h:Option D)(ex ey:Int):∀ (k i n:Nat) (R:List Pt) (t e5 e6 e7 e8 e9 e10:Option D),n+k<=8->(∀ q∈R,kJ p n q)->R.length<=2 ^ n →
    ∃ t' e5' e6' e7' e8' e9' e10',bo (au 4) (gbA a) ((List.range' i k).map fun (j:Nat)=>D.int (0+(j:Int))) (stA p h ex ey R t e5 e6 e7 e8 e9 e10)=.nx (stA p h ex ey (bfs p ex ey k R) t' e5' e6' e7' e8' e9' e10')/\(∀ q∈bfs p ex ey k R,kJ p (n+k) q)/\(bfs p ex ey k R).length<=2 ^ (n+k)
 | 0,i,n,R,t,e5,e6,e7,e8,e9,e10,_,h1,h2=>⟨t,e5,e6,e7,e8,e9,e10,rfl,h1,h2⟩
 |k+1,i,n,R,t,e5,e6,e7,e8,e9,e10,hn,h1,h2=>by
  have hp:2 ^ n<=2 ^ 8:=Nat.pow_le_pow_right (by decide) (by lia);obtain ⟨f5,f6,f7,f8,f9,f10,b⟩:=Co a G h ex ey R n (by lia) h1 (by lia) (some (.int (0+(i:Int)))) e5 e6 e7 e8 e9 e10;obtain ⟨t',g5,g6,g7,g8,g9,g10,ih,h3,h4⟩:=wE a G h ex ey k (i+1) (n+1) (R.flatMap (ext p ex ey)) (some (.int (0+(i:Int)))) f5 f6 f7 f8 f9 f10 (by lia) (sT G ex ey n R h1) (by have:=ml p ex ey R;rw[Nat.pow_succ];lia)
  refine ⟨t',g5,g6,g7,g8,g9,g10,?_,?_,?_⟩
  ·rw[List.range'_succ,List.map_cons]
   exact bf (dX (by show 4<11;decide) rfl) b ih
  ·rw[show n+(k+1)=n+1+k by lia];exact h3
  ·rw[show n+(k+1)=n+1+k by lia];exact h4
def aY(d:Int × Int)(ps:List (Int × Int)):Int × Int:=(ps.getLast?).getD d
theorem dF(d q:Int × Int)(ps:List (Int × Int)):aY d (q::ps)=aY q ps:=by
 unfold aY
 cases ps with
 |nil=>rfl
 |cons r ps=>rw[List.getLast?_cons_cons];rw[List.getLast?_eq_some_getLast (by simp)];rfl
theorem eL(p:Parts)(l:Str)(ls:List Str)(x y:Int):go p (l::ls) x y=if ax p x y l=0 then none else match go p ls (nX x l) (nY y l) with
    |some (ps,w)=>some ((nX x l,nY y l)::ps,ax p x y l*w)
    |none=>none:=rfl
theorem sU(p:Parts)(l:Str):∀ (ls:List Str) (x y:Int) (ps:List (Int × Int)) (v:Int),go p ls x y=some (ps,v)->ax p (aY (x,y) ps).1 (aY (x,y) ps).2 l≠0 →
    go p (ls++[l]) x y=some (ps++[(nX (aY (x,y) ps).1 l,nY (aY (x,y) ps).2 l)],v*ax p (aY (x,y) ps).1 (aY (x,y) ps).2 l)
 | [],x,y,ps,v,h,hs=>by
  have:([],1)=(ps,v):=Option.some.inj h;obtain ⟨rfl,rfl⟩:=Prod.mk.inj this;have hs':ax p x y l≠0:=hs;rw[List.nil_append,eL,if_neg hs',Int.one_mul];show some ([(nX x l,nY y l)],ax p x y l*1)=_;rw[Int.mul_one];rfl
 |l0::ls,x,y,ps,v,h,hs=>by
  rw[eL] at h;by_cases h0:ax p x y l0=0
  ·rw[if_pos h0] at h;cases h
  ·rw[if_neg h0] at h
   cases hg:go p ls (nX x l0) (nY y l0) with
   |none=>rw[hg] at h;cases h
   |some q=>
    obtain ⟨qs,u⟩:=q;rw[hg] at h;have h2:((nX x l0,nY y l0)::qs,ax p x y l0*u)=(ps,v):=Option.some.inj h;obtain ⟨rfl,rfl⟩:=Prod.mk.inj h2;rw[dF] at hs ⊢;have ih:=sU p l ls (nX x l0) (nY y l0) qs u hg hs;rw[List.cons_append,eL,if_neg h0,ih];show some _=some _;rw[Int.mul_assoc];rfl
theorem mm(a b:Str):a9 (a++b)=a9 a++a9 b:=by
 unfold a9;show ((a.cps++b.cps).toList.map _)=_;rw[Array.toList_append,List.map_append]
theorem Cp:a9 "r" = [("r" : Str)]:=by decide +kernel
theorem Cq:a9 "u" = [("u" : Str)]:=by decide +kernel
structure Gone (p:Parts) (s:Int) (q:Pt) (v:Int):Prop where
 g:∃ ps,go p (a9 q.2) 0 s=some (ps,v)/\aY (0,s) ps=q.1
 a:asc q.2=true
def wt(p:Parts)(s:Int)(w:Str):Int:=match go p (a9 w) 0 s with
 |some (_,v)=>v
 |none=>0
theorem Gone.wt{p:Parts}{s:Int}{q:Pt}{v:Int}(h:Gone p s q v):wt p s q.2=v:=by
 obtain ⟨ps,e,_⟩:=h.g;unfold Lw.wt;rw[e]
theorem ye{a b:Str}(h1:asc a=true)(h2:asc b=true):asc (a++b)=true:=by
 unfold asc at *;show ((a.cps++b.cps).all _)=true;rw[Array.all_append,h1,h2];rfl
theorem Gone.ext{p:Parts}{s:Int}{q:Pt}{v:Int}(h:Gone p s q v){l:Str}(hl:l = "r" \/ l = "u")(hs:ax p q.1.1 q.1.2 l≠0):Gone p s ((nX q.1.1 l,nY q.1.2 l),q.2++l) (v*ax p q.1.1 q.1.2 l):=by
 obtain ⟨ps,e,en⟩:=h.g;have hll:a9 l=[l]:=by rcases hl with rfl | rfl<;>first | exact Cp | exact Cq
 have:=sU p l (a9 q.2) 0 s ps v e (by rw[en];exact hs);rw[en] at this;refine ⟨⟨ps++[(nX q.1.1 l,nY q.1.2 l)],?_,?_⟩,ye h.a (by rcases hl with rfl | rfl<;>decide +kernel)⟩
 ·rw[mm,hll];exact this
 ·unfold aY;simp
def aZ(p:Parts)(s ex ey:Int):Nat->List Pt
 | 0=>[((0,s), "")]
 |t+1=>(aZ p s ex ey t).flatMap (ext p ex ey)
theorem qR(p:Parts)(s ex ey:Int):∀ (k i:Nat),bfs p ex ey k (aZ p s ex ey i)=aZ p s ex ey (i+k)
 | 0,i=>rfl
 |k+1,i=>by
  show bfs p ex ey k (aZ p s ex ey (i+1))=_;rw[qR p s ex ey k (i+1),show i+1+k=i+(k+1) by lia]
theorem jj{m w:Nat}{p:Parts}(G:Good m w p)(s ex ey:Int)(o:On p 0 s):∀ (t:Nat),∀ q∈aZ p s ex ey t,On p q.1.1 q.1.2/\∃ v,Gone p s q v
 | 0,q,hq=>by
  have:q=(((0,s), ""):Pt):=by simpa [aZ] using hq
  subst this;exact ⟨o,1,⟨[],rfl,rfl⟩,(by decide +kernel:asc "" = true)⟩
 |t+1,z,hz=>by
  obtain ⟨q,hq,hz⟩:=List.mem_flatMap.mp hz;obtain ⟨oq,v,gq⟩:=jj G s ex ey o t q hq;have one:∀ l:Str,(l = "r" \/ l = "u")->z∈dN p ex ey q l->On p z.1.1 z.1.2/\∃ v,Gone p s z v:=by
   intro l hl hz;unfold dN at hz;split at hz
   ·rename_i hc
    rw[List.mem_singleton] at hz;subst hz;obtain ⟨tx,ty⟩:=nk q.1.1 q.1.2 hl;have hs:ax p q.1.1 q.1.2 l≠0:=by lia
    refine ⟨?_,v*ax p q.1.1 q.1.2 l,?_⟩
    ·show On p (thX q.1.1 l) (thY q.1.2 l)
     rw[tx,ty];exact jC G oq l hs
    ·show Gone p s ((thX q.1.1 l,thY q.1.2 l),q.2++l) _
     rw[tx,ty];exact gq.ext hl hs
   ·cases hz
  rcases List.mem_append.mp hz with h | h
  ·exact one "r" (.inl rfl) h
  ·exact one "u" (.inr rfl) h
open PySem.Spec in
theorem wF:∀ (a b x y:List Nat),a.length=b.length->ltCps a b=true->ltCps (a++x) (b++y)=true
 | [],[],_,_,_,h=>by cases h
 | [],_::_,_,_,hl,_=>by cases hl
 |_::_,[],_,_,hl,_=>by cases hl
 |c::a,d::b,x,y,hl,h=>by
  have h':(decide (c<d)||(c == d&&ltCps a b))=true:=h;show (decide (c<d)||(c == d&&ltCps (a++x) (b++y)))=true;by_cases hc:c<d
  ·simp[hc]
  ·have e:c=d/\ltCps a b=true:=by simpa [hc] using h'
   rw[wF a b x y (by simpa using hl) e.2];simp[e.1]
open PySem.Spec in
theorem sV:∀ (a:List Nat) (c d:Nat),c<d->ltCps (a++[c]) (a++[d])=true
 | [],c,d,h=>by show (decide (c<d)||(c == d&&ltCps [] []))=true;simp[h]
 |e::a,c,d,h=>by
  show (decide (e<e)||(e == e&&ltCps (a++[c]) (a++[d])))=true;rw[sV a c d h];simp
def ltS(a b:Str):Prop:=PySem.Spec.ltCps a.cps.toList b.cps.toList=true
theorem Ak{a b:Str}(x y:Str)(hl:a.length=b.length)(h:ltS a b):ltS (a++x) (b++y):=by
 unfold ltS at *;show PySem.Spec.ltCps (a.cps++x.cps).toList (b.cps++y.cps).toList=true;rw[Array.toList_append,Array.toList_append];exact wF _ _ _ _ (by simpa [Str.length] using hl) h
theorem Cr(a:Str):ltS (a++("r" : Str)) (a++("u" : Str)):=by
 unfold ltS;show PySem.Spec.ltCps (a.cps++(Str.ofString "r").cps).toList (a.cps++(Str.ofString "u").cps).toList=true;rw[Array.toList_append,Array.toList_append,show (Str.ofString "r").cps.toList=[114] by decide +kernel,show (Str.ofString "u").cps.toList=[117] by decide +kernel];exact sV _ _ _ (by decide)
theorem jk{p:Parts}{ex ey:Int}{q z:Pt}{l:Str}(h:z∈dN p ex ey q l):z.2=q.2++l:=by
 unfold dN at h;split at h
 ·rw[List.mem_singleton] at h;subst h;rfl
 ·cases h
theorem qS{p:Parts}{ex ey:Int}{q z:Pt}(h:z∈ext p ex ey q):∃ l:Str,z.2=q.2++l:=by
 rcases List.mem_append.mp h with h | h
 ·exact ⟨_,jk h⟩
 ·exact ⟨_,jk h⟩
theorem sW(p:Parts)(ex ey:Int)(q:Pt)(l:Str):(dN p ex ey q l).Pairwise fun a b=>ltS a.2 b.2:=by
 unfold dN;split<;>simp
theorem iH{m w:Nat}{p:Parts}(G:Good m w p)(s ex ey:Int)(o:On p 0 s):∀ t:Nat,(aZ p s ex ey t).Pairwise (fun a b=>ltS a.2 b.2)/\∀ q∈aZ p s ex ey t,kJ p t q
 | 0=>⟨by simp[aZ],fun q hq=>by
  have:q=(((0,s), ""):Pt):=by simpa [aZ] using hq
  subst this;exact ⟨o,rfl⟩⟩
 |t+1=>by
  obtain ⟨h1,h2⟩:=iH G s ex ey o t;refine ⟨?_,sT G ex ey t _ h2⟩;show ((aZ p s ex ey t).flatMap (ext p ex ey)).Pairwise _;rw[List.pairwise_flatMap];refine ⟨fun q _=>?_,?_⟩
  ·unfold ext
   rw[List.pairwise_append];refine ⟨sW _ _ _ _ _,sW _ _ _ _ _,fun x hx y hy=>?_⟩;rw[jk hx,jk hy];exact Cr _
  ·refine List.Pairwise.imp_of_mem (fun {a b} ha hb hab x hx y hy=>?_) h1
   obtain ⟨l,e⟩:=qS hx;obtain ⟨l',e'⟩:=qS hy;rw[e,e'];exact Ak _ _ (by rw[(h2 a ha).2,(h2 b hb).2]) hab
theorem o9:∀ (l:List Str),l.Pairwise ltS->jM l=true
 | [],_=>rfl
 | [_],_=>rfl
 |a::b::r,h=>by
  show (PySem.Spec.ltCps a.cps.toList b.cps.toList&&jM (b::r))=true;rw[o9 (b::r) (List.pairwise_cons.mp h).2,show PySem.Spec.ltCps a.cps.toList b.cps.toList=true from (List.pairwise_cons.mp h).1 b List.mem_cons_self];rfl
theorem Cs(x y u v:Int):dEq (.tup [.int x,.int y]) (.tup [.int u,.int v])=.ok (.bl (decide (x=u)&&decide (y=v))):=by
 have e:aU 4 (.tup [.int x,.int y]) (.tup [.int u,.int v])=some (decide (x=u)&&(decide (y=v)&&true)):=rfl;unfold dEq;rw[if_pos ⟨rfl,rfl⟩,e,Bool.and_true]
theorem mn(cap:List (Option D))(ex ey:Int)(hc:cap=[some (.tup [.int ex,.int ey])]):∀ (L:List Pt) (e1 e2:Option D) (acc:List D),acc.length+L.length<=1000 →
    bH (bG [0,1]) (ft2 dEq (ad 0) (ad 2)) (ad 1) (L.map prD) (e1::e2::cap) acc=.ok (acc++((L.filter fun q=>q.1=(ex,ey)).map fun q=>D.str q.2))
 | [],_,_,acc,_=>by show Res.ok acc=Res.ok (acc++[]);rw[List.append_nil]
 |q::L,e1,e2,acc,hl=>by
  subst hc;have hz:¬ sizeLine<=acc.length:=by
   have:(1000:Nat)<sizeLine:=by decide
   simp at hl;lia
  obtain ⟨⟨x,y⟩,wk⟩:=q;rw[List.map_cons];unfold bH;rw[show bG [0,1] (prD ((x,y),wk)) (e1::e2::[some (.tup [.int ex,.int ey])])=.ok [some (.tup [.int x,.int y]),some (.str wk),some (.tup [.int ex,.int ey])] from rfl,bok];have tt:ft2 dEq (ad 0) (ad 2) [some (.tup [.int x,.int y]),some (.str wk),some (.tup [.int ex,.int ey])]=.ok (decide (x=ex)&&decide (y=ey)):=by
   have:=Cs x y ex ey;(repeat' first|(with_reducible first|apply this)|sizeOf_list_dec)
  rw[tt,bok];by_cases h:x=ex/\y=ey
  ·rw[if_pos (by simp[h])]
   rw[show ad 1 [some (.tup [.int x,.int y]),some (.str wk),some (.tup [.int ex,.int ey])]=.ok (.str wk) from rfl,bok,if_neg (fun z=>z.elim (ntb rfl) hz)];rw[mn _ ex ey rfl L _ _ (acc++[D.str wk]) (by simp at hl ⊢;lia)];rw[List.filter_cons_of_pos (by simp[h]),List.map_cons,List.append_assoc];rfl
  ·rw[if_neg (by simpa using h)]
   rw[mn _ ex ey rfl L _ _ acc (by simp at hl ⊢;lia)];rw[List.filter_cons_of_neg (by simpa using h)]
theorem nq:∀ L:List Str,fZ (L.map D.str)=some L
 | []=>rfl
 |s::L=>by show (fZ (L.map D.str)).map (s::·)=_;rw[nq L];rfl
theorem jS:∀ L:List Str,D.fzs (L.map D.str)=L.map D.str
 | []=>aC
 |s::L=>by rw[List.map_cons,ao,dR,jS L]
def dy(p:Parts)(s ex ey:Int)(T:Nat):List Str:=((aZ p s ex ey T).filter fun q=>q.1=(ex,ey)).map fun q=>q.2
theorem Al(a:Ads){m w:Nat}{p:Parts}(G:Good m w p)(h5:m<=5)(s ex ey:Nat)(hs:s<=ey)(hex:ex<p.cols)(hey:ey<p.rows) :
    gi a [p.d,.tup [.int 0,.int (s:Int)],.tup [.int (ex:Int),.int (ey:Int)]]=.ok (.lst .o ((dy p s ex ey (ex+(ey - s))).map D.str)):=by
 have c1:=G.c1;have r1:=G.r1;have o:On p 0 (s:Int):=⟨⟨by lia,by lia⟩,by lia,by lia⟩
 obtain ⟨t',e5,e6,e7,e8,e9,e10,lp,h3,h4⟩:=wE a G (some (.tup [.int 0,.int (s:Int)])) ex ey (ex+(ey - s)) 0 0 [((0,(s:Int)), "")] none none none none none none none (by lia) (fun q hq=>by
  have:q=(((0,(s:Int)), ""):Pt):=by simpa using hq
  subst this;exact ⟨o,rfl⟩) (by simp)
 have hb:bfs p ex ey (ex+(ey - s)) [((0,(s:Int)), "")]=aZ p s ex ey (ex+(ey - s)):=by
  have:=qR p s ex ey (ex+(ey - s)) 0;rwa [Nat.zero_add] at this
 rw[hb] at lp h4;have hlen:(aZ p s ex ey (ex+(ey - s))).length<=256:=by
  have:2 ^ (0+(ex+(ey - s)))<=2 ^ 8:=Nat.pow_le_pow_right (by decide) (by lia);lia
 have hr:aD 0 (ex+(ey - s))=(List.range' 0 (ex+(ey - s))).map fun (j:Nat)=>D.int (0+(j:Int)):=by rw[aD,List.range_eq_range']
 have mx:lj [.int 0,.int ((ey:Int) - (s:Int))]=.ok (.int ((ey:Int) - (s:Int))):=by
  show Res.ok (D.int (if (ey:Int) - (s:Int) > 0 then (ey:Int) - (s:Int) else 0))=_;congr 2;split<;>lia
 refine dW (ρ:=[some p.d,some (.tup [.int 0,.int (s:Int)]),some (.tup [.int (ex:Int),.int (ey:Int)]),none,none,none,none,none,none,none,none]) rfl ?_;unfold mV;have fzh:(D.tup [.int 0,.int (s:Int)]).fz=.tup [.int 0,.int (s:Int)]:=by rw[dD,ao,ao,aC,ay,ay]
 refine aB (ρ':=stA p (some (.tup [.int 0,.int (s:Int)])) ex ey [((0,(s:Int)), "")] none none none none none none none) ?_ (aB (bE (items:=aD 0 (ex+(ey - s))) (dA ?_ (by lia)) (by rw[hr];exact lp)) ?_)
 ·have fz2:(D.lst .o [.tup [.tup [.int 0,.int (s:Int)],.str ""]]).fz=.lst .f [.tup [.tup [.int 0,.int (s:Int)],.str ""]]:=by rw[aW,ao,aC,dD,ao,ao,aC,fzh,dR]
  show _=FOut.nx [some p.d,some (.tup [.int 0,.int (s:Int)]),some (.tup [.int (ex:Int),.int (ey:Int)]),some (.lst .f [.tup [.tup [.int 0,.int (s:Int)],.str ""]]),none,none,none,none,none,none,none];(repeat' first|(with_reducible first|apply fzh|apply fz2)|sizeOf_list_dec)
 ·rw[show (((ex+(ey - s):Nat)):Int)=(ex:Int) - 0+((ey:Int) - (s:Int)) by lia]
  unfold stA;(repeat' first|(with_reducible first|apply mx)|sizeOf_list_dec)
 ·have fi:aH (ad 3) (stA p (some (.tup [.int 0,.int (s:Int)])) ex ey (aZ p s ex ey (ex+(ey - s))) t' e5 e6 e7 e8 e9 e10)=.ok ((aZ p s ex ey (ex+(ey - s))).map prD):=by
     unfold aH;rw[c7 3 _ _ rfl,bok];show (if _ then _ else bT (some (((aZ p s ex ey (ex+(ey - s))).map prD).map D.asF)))=_;rw[if_neg (ntb rfl),lX];rfl
  have cp:aK 2 [2] (aH (ad 3)) (bG [0,1]) (ft2 dEq (ad 0) (ad 2)) (ad 1) (stA p (some (.tup [.int 0,.int (s:Int)])) ex ey (aZ p s ex ey (ex+(ey - s))) t' e5 e6 e7 e8 e9 e10)=.ok (.lst .o ((dy p s ex ey (ex+(ey - s))).map D.str)):=by
   unfold aK;rw[fi,bok];have:=mn [some (.tup [.int (ex:Int),.int (ey:Int)])] ex ey rfl (aZ p s ex ey (ex+(ey - s))) none none [] (by simp;lia);show (match bH (bG [0,1]) (ft2 dEq (ad 0) (ad 2)) (ad 1) ((aZ p s ex ey (ex+(ey - s))).map prD) (none::none::[some (.tup [.int (ex:Int),.int (ey:Int)])]) [] with
    | .ok ds=>Res.ok (D.lst .o ds)
    |_=>.bad)=_
   rw[this];unfold dy;rw[List.map_map,List.nil_append];rfl
  have so:gG [.lst .o ((dy p s ex ey (ex+(ey - s))).map D.str)]=.ok (.lst .o ((dy p s ex ey (ex+(ey - s))).map D.str)):=by
   have pw:(dy p s ex ey (ex+(ey - s))).Pairwise ltS:=by
    unfold dy;exact List.Pairwise.map _ (fun a b h=>h) ((iH G s ex ey o (ex+(ey - s))).1.filter _)
   show (match some (D.fzs ((dy p s ex ey (ex+(ey - s))).map D.str)) with
    |some ys=>match fZ ys with
     |some ss=>if D.isL (.lst .o ((dy p s ex ey (ex+(ey - s))).map D.str))=true/\jM ss=true/\ss.length<=100000 then Res.ok (D.lst .o (ss.map D.str)) else .bad
     |none=>.bad
    |none=>.bad)=_
   rw[jS];show (match fZ ((dy p s ex ey (ex+(ey - s))).map D.str) with
       |some ss=>if D.isL (.lst .o ((dy p s ex ey (ex+(ey - s))).map D.str))=true/\jM ss=true/\ss.length<=100000 then Res.ok (D.lst .o (ss.map D.str)) else .bad
       |none=>.bad)=_
   rw[nq];refine if_pos ⟨rfl,o9 _ pw,?_⟩;unfold dy;rw[List.length_map];exact Nat.le_trans (List.length_filter_le _ _) (by lia)
  refine gT (Cj (dq cp m6) so) (ntb rfl)
theorem uB{α:Type}{gt:D->ae->Res ae}{ft:ae->Res Bool}{fe:ae->Res D}(f:α->D)(mk:α->ae)(t:α->Bool)(v:α->D)(Q:ae->Prop):∀ (L:List α) (ρ:ae) (acc:List D),Q ρ →
    (∀ x∈L,(∀ ρ,Q ρ->gt (f x) ρ=.ok (mk x))/\Q (mk x)/\ft (mk x)=.ok (t x)/\(t x=true->fe (mk x)=.ok (v x)/\(v x).tag≠.b))->acc.length+L.length<=1000 →
    bH gt ft fe (L.map f) ρ acc=.ok (acc++(L.filter t).map v)
 | [],_,acc,_,_,_=>by show Res.ok acc=Res.ok (acc++[]);rw[List.append_nil]
 |x::L,ρ,acc,q,h,hl=>by
  have hz:¬ sizeLine<=acc.length:=by
   have:(1000:Nat)<sizeLine:=by decide
   simp at hl;lia
  obtain ⟨h1,h2,h3,h4⟩:=h x List.mem_cons_self;have h':=fun y hy=>h y (List.mem_cons_of_mem _ hy);rw[List.map_cons];unfold bH;rw[h1 ρ q,bok,h3,bok]
  cases hx:t x with
  |true=>
   obtain ⟨h5,h6⟩:=h4 hx;rw[if_pos rfl,h5,bok,if_neg (fun z=>z.elim h6 hz),uB f mk t v Q L _ _ h2 h' (by simp at hl ⊢;lia),List.filter_cons_of_pos hx,List.map_cons,List.append_assoc];rfl
  |false=>rw[if_neg (by decide),uB f mk t v Q L _ _ h2 h' (by simp at hl ⊢;lia),List.filter_cons_of_neg (by simp[hx])]
theorem Ct{α:Type}{own:Nat}{cap:List Nat}{fi:ae->Res (List D)}{gt:D->ae->Res ae}{ft:ae->Res Bool}{fe:ae->Res D}{ρ:ae}{L:List α}(f:α->D)(mk:α->ae)(t:α->Bool)(v:α->D)(Q:ae->Prop)
    (hi:fi ρ=.ok (L.map f)) (hq:Q (List.replicate own none++cap.map (bw ρ)))
    (h:∀ x∈L,(∀ ρ,Q ρ->gt (f x) ρ=.ok (mk x))/\Q (mk x)/\ft (mk x)=.ok (t x)/\(t x=true->fe (mk x)=.ok (v x)/\(v x).tag≠.b)) (hl:L.length<=1000) :
    aK own cap fi gt ft fe ρ=.ok (.lst .o ((L.filter t).map v)):=by
 unfold aK;rw[hi,bok,uB f mk t v Q L _ [] hq h (by simpa using hl)];rfl
theorem nr{α:Type}{own:Nat}{cap:List Nat}{fi:ae->Res (List D)}{gt:D->ae->Res ae}{fe:ae->Res D}{ρ:ae}{L:List α}(f:α->D)(mk:α->ae)(v:α->D)(Q:ae->Prop)
    (hi:fi ρ=.ok (L.map f)) (hq:Q (List.replicate own none++cap.map (bw ρ)))
    (h:∀ x∈L,(∀ ρ,Q ρ->gt (f x) ρ=.ok (mk x))/\Q (mk x)/\fe (mk x)=.ok (v x)/\(v x).tag≠.b) (hl:L.length<=1000) :
    aK own cap fi gt aM fe ρ=.ok (.lst .o (L.map v)):=by
 rw[Ct f mk (fun _=>true) v Q hi hq (fun x hx=>⟨(h x hx).1,(h x hx).2.1,rfl,fun _=>(h x hx).2.2⟩) hl];congr 3;exact List.filter_eq_self.mpr fun _ _=>rfl
def cJ{α β:Type}(step:β->α->β ⊕ D):List α->β->β ⊕ D
 | [],b=>.inl b
 |x::L,b=>match step b x with
  | .inl b'=>cJ step L b'
  | .inr d=>.inr d
theorem Cu{α β:Type}{gt:D->ae->Res ae}{gb:ae->FOut}(f:α->D)(S:β->ae->Prop)(step:β->α->β ⊕ D):∀ (L:List α) (b:β) (ρ:ae),S b ρ →
    (∀ x∈L,∀ b ρ,S b ρ->∃ ρ1,gt (f x) ρ=.ok ρ1/\match step b x with
     | .inl b'=>∃ ρ2,gb ρ1=.nx ρ2/\S b' ρ2
     | .inr d=>gb ρ1=.rt d) →
    match cJ step L b with
    | .inl b'=>∃ ρ',bo gt gb (L.map f) ρ=.nx ρ'/\S b' ρ'
    | .inr d=>bo gt gb (L.map f) ρ=.rt d
 | [],b,ρ,s,_=>⟨ρ,rfl,s⟩
 |x::L,b,ρ,s,h=>by
  obtain ⟨ρ1,h1,h2⟩:=h x List.mem_cons_self b ρ s;unfold cJ;revert h2
  cases hs:step b x with
  |inl b'=>
   rintro ⟨ρ2,h2,s2⟩;have ih:=Cu f S step L b' ρ2 s2 fun y hy=>h y (List.mem_cons_of_mem _ hy);show match cJ step L b' with
    | .inl b'=>∃ ρ',bo gt gb (f x::L.map f) ρ=.nx ρ'/\S b' ρ'
    | .inr d=>bo gt gb (f x::L.map f) ρ=.rt d
   revert ih
   cases cJ step L b' with
   |inl b2=>rintro ⟨ρ',e,s'⟩;exact ⟨ρ',bf h1 h2 e,s'⟩
   |inr d=>intro e;exact bf h1 h2 e
  |inr d=>intro h2;exact m9 h1 h2
theorem ot{α β:Type}(g:β->α->β):∀ (L:List α) (b:β),cJ (fun b x=>.inl (g b x)) L b=.inl (L.foldl g b)
 | [],_=>rfl
 |x::L,b=>ot g L (g b x)
theorem uC{α β:Type}{gt:D->ae->Res ae}{gb:ae->FOut}(f:α->D)(S:β->ae->Prop)(g:β->α->β)(L:List α)(b:β)(ρ:ae)(s:S b ρ)
    (h:∀ x∈L,∀ b ρ,S b ρ->∃ ρ1,gt (f x) ρ=.ok ρ1/\∃ ρ2,gb ρ1=.nx ρ2/\S (g b x) ρ2):∃ ρ',bo gt gb (L.map f) ρ=.nx ρ'/\S (L.foldl g b) ρ':=by
 have:=Cu (gt:=gt) (gb:=gb) f S (fun b x=>.inl (g b x)) L b ρ s h;rw[ot] at this;exact this
theorem rS(ys:List D):i8 ys=(List.range ys.length).map fun (j:Nat)=>D.tup [.int (j:Int),ys.getD j .non]:=by
 unfold i8;apply List.ext_getElem?;intro i;simp only[List.getElem?_map,List.getElem?_zipIdx,List.getElem?_range'];by_cases h:i<ys.length
 ·simp[h,List.getElem?_range]
 ·simp[h,List.getElem?_eq_none (show ys.length<=i by lia)]
theorem sX:∀ (l:List Bool),eN (l.map some)=some (l.all id)
 | []=>rfl
 |b::l=>by
  show (match eN (l.map some) with
   |some c=>some (b&&c)
   |none=>none)=_
  rw[sX l];rfl
theorem Am{α:Type}(f:α->D)(d:D)(e:α->Bool)(L:List α)(h:∀ x∈L,aU 3 (f x) d=some (e x)):ku d (L.map f)=some (L.any e):=by
 have:((L.map f).map fun y=>(aU 3 y d).map (!·))=(L.map fun x=>!e x).map some:=by
  rw[List.map_map,List.map_map];refine List.map_congr_left fun x hx=>?_;show (aU 3 (f x) d).map (!·)=some (!e x);rw[h x hx];rfl
 unfold ku;rw[this,sX];show some (!_)=_;congr 1;rw[List.all_map,List.any_eq_not_all_not];rfl
theorem wG(k:Int)(L:List Int):ku (.int k) (L.map D.int)=some (decide (k∈L)):=by
 rw[Am D.int (.int k) (fun x=>decide (x=k)) L (fun x _=>rfl)];congr 1;rw[Bool.eq_iff_iff];simp
theorem Ew(k:Int)(L:List Int)(neg:Bool):dIn neg (.int k) (.lst .f (L.map D.int))=.ok (.bl (neg != decide (k∈L))):=by
 show (match ku (.int k) (L.map D.int) with
  |some b=>Res.ok (D.bl (neg != b))
  |none=>.bad)=_
 rw[wG]
theorem sY{n:Nat}{F:List D->Res D}{fa:ae->Res (List D)}{ρ:ae}{ds ds':List D}{d:D}(h:fa ρ=.ok ds)(hn:ds.length=n)(hz:D.fzs ds=ds')(hF:F ds'=.ok d)(ha:(nb ds=true/\d.tag≠.b)\/d.atom=true):ce n F fa ρ=.ok d:=by
 unfold ce;rw[h,bok,if_pos hn];have:ee F ds=.ok d:=by
  unfold ee;rw[hz,hF];show (if _ then _ else _)=_;rw[if_pos ha]
 rw[this]
theorem nu{α β:Type}{gt:D->ae->Res ae}{gb:ae->FOut}(f:α->D)(S:List α->β->ae->Prop)(step:β->α->β ⊕ D)(full:List α)
    (h:∀ (L1:List α) (x:α) (L2:List α),L1++x::L2=full->∀ b ρ,S L1 b ρ->∃ ρ1,gt (f x) ρ=.ok ρ1/\match step b x with
     | .inl b'=>∃ ρ2,gb ρ1=.nx ρ2/\S (L1++[x]) b' ρ2
     | .inr d=>gb ρ1=.rt d):∀ (L2 L1:List α) (b:β) (ρ:ae),L1++L2=full->S L1 b ρ →
    match cJ step L2 b with
    | .inl b'=>∃ ρ',bo gt gb (L2.map f) ρ=.nx ρ'/\S full b' ρ'
    | .inr d=>bo gt gb (L2.map f) ρ=.rt d
 | [],L1,b,ρ,e,s=>⟨ρ,rfl,by rw[List.append_nil] at e;exact e ▸ s⟩
 |x::L,L1,b,ρ,e,s=>by
  obtain ⟨ρ1,h1,h2⟩:=h L1 x L e b ρ s;unfold cJ;revert h2
  cases hs:step b x with
  |inl b'=>
   rintro ⟨ρ2,h2,s2⟩;have ih:=nu f S step full h L (L1++[x]) b' ρ2 (by rw[List.append_assoc];exact e) s2;show match cJ step L b' with
    | .inl b'=>∃ ρ',bo gt gb (f x::L.map f) ρ=.nx ρ'/\S full b' ρ'
    | .inr d=>bo gt gb (f x::L.map f) ρ=.rt d
   revert ih
   cases cJ step L b' with
   |inl b2=>rintro ⟨ρ',e,s'⟩;exact ⟨ρ',bf h1 h2 e,s'⟩
   |inr d=>intro e;exact bf h1 h2 e
  |inr d=>intro h2;exact m9 h1 h2
theorem Ey{α:Type}{gt:D->ae->Res ae}{gb:ae->FOut}(f:α->D)(S:List α->ae->Prop)(full:List α)(ρ:ae)(s:S [] ρ)
    (h:∀ (L1:List α) (x:α) (L2:List α),L1++x::L2=full->∀ ρ,S L1 ρ->∃ ρ1,gt (f x) ρ=.ok ρ1/\∃ ρ2,gb ρ1=.nx ρ2/\S (L1++[x]) ρ2) :
    ∃ ρ',bo gt gb (full.map f) ρ=.nx ρ'/\S full ρ':=by
 have:=nu (gt:=gt) (gb:=gb) f (fun L (_:Unit)=>S L) (fun _ _=>.inl ()) full (fun L1 x L2 e _ ρ s=>h L1 x L2 e ρ s) full [] () ρ rfl s;rw[ot (fun (_:Unit) _=>())] at this;exact this
abbrev Row:=List (Str × Nat)
def bF(r:Row):List D:=(r.map (·.1)).map D.str
def cu(r:Row):List D:=(r.map fun q=>(q.2:Int)).map D.int
def bQ(r:Row):D:=.tup [.lst .f (bF r),.lst .f (cu r)]
def lkW(p:Parts)(s e:Int):List Str:=if s<=e then dy p s ((p.cols - 1:Nat):Int) e (p.cols - 1+(e.toNat - s.toNat)) else []
def lkL(p:Parts)(s:Int):List (List Str):=p.ends.map (lkW p s)
theorem mo(p:Parts)(s ex ey:Int):∀ t,(aZ p s ex ey t).length<=2 ^ t
 | 0=>by simp[aZ]
 |t+1=>by
  have:=ml p ex ey (aZ p s ex ey t);have:=mo p s ex ey t;show ((aZ p s ex ey t).flatMap _).length<=_;rw[Nat.pow_succ];omega
theorem An{m w:Nat}{p:Parts}(G:Good m w p)(h4:m<=4)(s e:Int)(he:e<p.rows)(hs:0<=s):(lkW p s e).length<=64:=by
 have c1:=G.c1;have r1:=G.r1;unfold lkW;split
 ·unfold dy
  rw[List.length_map];have h1:=mo p s ((p.cols - 1:Nat):Int) e (p.cols - 1+(e.toNat - s.toNat));have h2:2 ^ (p.cols - 1+(e.toNat - s.toNat))<=2 ^ 6:=Nat.pow_le_pow_right (by decide) (by omega);have h3:=List.length_filter_le (fun q:Pt=>decide (q.1=(((p.cols - 1:Nat):Int),e))) (aZ p s ((p.cols - 1:Nat):Int) e (p.cols - 1+(e.toNat - s.toNat)));omega
 ·simp
theorem wH{m w:Nat}{p:Parts}(G:Good m w p)(h8:m<=8)(s e:Int)(hs:0<=s)(hs2:s<p.rows)(he:e<p.rows)(x:Str)(hx:x∈lkW p s e) :
    asc x=true/\x.length<900/\∃ ps v,due p 0 s x=some (ps,v)/\aY (0,s) ps=(((p.cols - 1:Nat):Int),e):=by
 have c1:=G.c1;have r1:=G.r1;have o:On p 0 s:=⟨⟨by omega,by omega⟩,by omega,by omega⟩
 unfold lkW at hx;split at hx
 ·unfold dy at hx
  obtain ⟨q,hq,rfl⟩:=List.mem_map.mp hx;obtain ⟨hq,hq2⟩:=List.mem_filter.mp hq;obtain ⟨_,v,gq⟩:=jj G s ((p.cols - 1:Nat):Int) e o _ q hq;have pw:=(iH G s ((p.cols - 1:Nat):Int) e o (p.cols - 1+(e.toNat - s.toNat))).2 q hq;obtain ⟨ps,e1,e2⟩:=gq.g;refine ⟨gq.a,by rw[pw.2];omega,ps,v,?_,by rw[e2];simpa using hq2⟩;unfold due;rw[if_pos (ins_on.mpr o)];exact e1
 ·simp at hx
def e2(most:Nat)(r:Row)(Ls:List (List Str))(acc:List Row)(k:Nat):List Row:=if (k:Int)∉(r.map fun q=>(q.2:Int))/\acc.length<=most then acc++(Ls.getD k []).map (fun x=>r++[(x,k)]) else acc
def e3(most:Nat)(Ls:List (List Str))(acc:List Row)(r:Row):List Row:=(List.range Ls.length).foldl (e2 most r Ls) acc
def e4(most:Nat)(Ls:List (List Str))(R:List Row):List Row:=R.foldl (e3 most Ls) []
def nv(p:Parts)(most:Nat):List Row ⊕ D:=cJ (fun R s=>if most<(e4 most (lkL p s) R).length then .inr .non else .inl (e4 most (lkL p s) R)) p.starts [[]]
structure RowOk (p:Parts) (ss:List Int) (r:Row):Prop where
 l:r.length=ss.length
 n:(r.map (·.2)).Nodup
 a:∀ q∈ss.zip r,∃ e,p.ends[q.2.2]?=some e/\q.2.1∈lkW p q.1 e
theorem qT(r:Row)(x:Str)(k:Nat):bF (r++[(x,k)])=bF r++[.str x]:=by unfold bF;simp
theorem qU(r:Row)(x:Str)(k:Nat):cu (r++[(x,k)])=cu r++[.int (k:Int)]:=by unfold cu;simp
theorem ou(t:Tg)(r:Row):(D.lst t (bF r)).fz=.lst .f (bF r):=by rw[aW,bF,jS]
theorem sZ(t:Tg)(r:Row):(D.lst t (cu r)).fz=.lst .f (cu r):=by rw[aW,cu,cU]
theorem Cv(r:Row):(bQ r).fz=bQ r:=by unfold bQ;rw[dD,ao,ao,aC,ou,sZ]
theorem jT:∀ R:List Row,D.fzs (R.map bQ)=R.map bQ
 | []=>aC
 |r::R=>by rw[List.map_cons,ao,Cv,jT R]
theorem kK(L:List Str):(L.map D.str).map D.asF=L.map D.str:=by rw[List.map_map];rfl
theorem tm(xs:List D)(hx:xs.map D.asF=xs)(d:D)(hd:d.fz=d)(hl:xs.length<900):aL (.lst .f xs) (.lst .o [d])=.ok (.lst .o (xs++[d])):=by
 show (match some (xs.map D.asF),some (D.fzs [d]) with
  |some xs',some ys'=>if xs'.length+ys'.length<=sizeLine then Res.ok (D.lst .o (xs'++ys')) else .bad
  |_,_=>.bad)=_
 rw[hx,ao,aC,hd];show (if xs.length+1<=sizeLine then _ else _)=_;rw[if_pos (iw (by omega))]
theorem mq(r:Row):(bF r).map D.asF=bF r:=kK _
theorem yf(r:Row):(cu r).map D.asF=cu r:=cH _
theorem yg(r:Row):(bF r).length=r.length:=by simp[bF]
theorem yh(r:Row):(cu r).length=r.length:=by simp[cu]
theorem iI{f:ae->Res D}{ρ:ae}{xs:List D}(h:f ρ=.ok (.lst .f xs))(hx:xs.map D.asF=xs):aH f ρ=.ok xs:=by
 unfold aH;rw[h,bok];show (if _ then _ else bT (some (xs.map D.asF)))=_;rw[if_neg (ntb rfl),hx];rfl
theorem yi{fa:ae->Res (List D)}{ρ:ae}{xs:List D}(h:fa ρ=.ok [.lst .f xs])(hx:xs.map D.asF=xs):eT fa ρ=.ok ((List.range xs.length).map fun (j:Nat)=>D.tup [.int (j:Int),xs.getD j .non]):=by
 unfold eT;rw[h,bok];show (if Tg.f=Tg.b\/true=false then Res.bad else bT (some (i8 (xs.map D.asF))))=_;rw[if_neg (fun z=>z.elim (fun z=>nomatch z) fun z=>nomatch z),hx,rS];rfl
theorem yj(r:Row)(k:Nat)(ts:List Str)(hr:r.length<800)(ht:ts.length<=64)(ρ:ae)(h8:ρ[8]?=some (some (.lst .f (bF r))))(h9:ρ[9]?=some (some (.lst .f (cu r))))(h10:ρ[10]?=some (some (.int (k:Int))))(h11:ρ[11]?=some (some (.lst .f (ts.map D.str)))) :
    aK 1 [8,9,10] (aH (ad 11)) (au 0) aM (bY (ac (f2 aL (ad 1) (bv (ac (ad 0) ah))) (ac (f2 aL (ad 2) (bv (ac (ad 3) ah))) ah))) ρ=.ok (.lst .o ((ts.map fun x=>r++[(x,k)]).map bQ)):=by
 rw[List.map_map];refine nr D.str (fun x=>[some (.str x),some (.lst .f (bF r)),some (.lst .f (cu r)),some (.int (k:Int))]) (fun x=>bQ (r++[(x,k)])) (fun ρ=>∃ e,ρ=[e,some (.lst .f (bF r)),some (.lst .f (cu r)),some (.int (k:Int))]) ?_ ?_ ?_ (by omega)
 ·refine iI ?_ (kK ts)
  rw[c7 11 ρ _ h11];rfl
 ·refine ⟨none,?_⟩
  show [none,bw ρ 8,bw ρ 9,bw ρ 10]=_;unfold bw;rw[h8,h9,h10];rfl
 ·intro x _
  refine ⟨?_,⟨_,rfl⟩,?_,ntb rfl⟩
  ·rintro ρ ⟨e,rfl⟩
   rfl
  ·have c1:=tm (bF r) (mq r) (.str x) (dR x) (by rw[yg];omega)
   have c2:=tm (cu r) (yf r) (.int (k:Int)) (ay _) (by rw[yh];omega);have f1:=ou .o (r++[(x,k)]);have f2:=sZ .o (r++[(x,k)]);unfold bQ;rw[qT,qU];rw[qT] at f1;rw[qU] at f2;(repeat' first|(with_reducible first|apply c1|apply c2|apply f1|apply f2)|sizeOf_list_dec)
def tsD(t:Tg)(ts:List Str):D:=.lst t (ts.map D.str)
theorem wI(t:Tg):∀ Ls:List (List Str),D.fzs (Ls.map (tsD t))=Ls.map (tsD .f)
 | []=>aC
 |ts::Ls=>by rw[List.map_cons,ao,wI t Ls];unfold tsD;rw[aW,jS];rfl
def stK(p:Parts)(most:Nat)(R:List Row)(s:Int)(L5:D)(e6:Option D)(acc:List Row)(e8 e9 e10 e11:Option D):ae:=
 [some p.d,some (.int (most:Int)),some (.int ((p.cols - 1:Nat):Int)),some (.lst .f (R.map bQ)),some (.int s),some L5,e6,some (.lst .o (acc.map bQ)),e8,e9,e10,e11]
theorem Cw{i:Nat}{f:ae->Res D}{ρ ρ':ae}{xs ys:List D}(h0:ρ[i]?=some (some (.lst .o xs)))(h:f ρ=.ok (.lst .o ys))(hl:xs.length+ys.length<=1000)(he:ρ.set i (some (.lst .o (xs++ys)))=ρ'):iD i f ρ=.nx ρ':=by
 have:¬ sizeLine<xs.length+ys.length:=by have:1000<sizeLine:=(by decide);lia
 unfold iD;rw[h0];simp only[h,aok];rw[if_neg this,he]
abbrev gbK:ae->FOut:=(gIf (fX (ft2 (dIn true) (ad 10) (ad 9)) (ft2 dLe (fCB a8 (ac (ad 7) ah)) (ad 1))) (iD 7 (aK 1 [8,9,10] (aH (ad 11)) (au 0) aM (bY (ac (f2 aL (ad 1) (bv (ac (ad 0) ah))) (ac (f2 aL (ad 2) (bv (ac (ad 3) ah))) ah))))) aP)
theorem Ao(Ls:List (List Str))(k:Nat)(h:k<Ls.length):(Ls.map (tsD .f)).getD k .non=tsD .f (Ls.getD k []):=by
 simp[List.getD,h]
theorem Cy{m w:Nat}{p:Parts}(most:Nat)(hm:most<=400)(R:List Row)(s:Int)(e6:Option D)(r:Row)(hr:r.length<800)(Ls:List (List Str))(hL:∀ ts∈Ls,ts.length<=64)(acc:List Row)(ha:acc.length<=464)(e10 e11:Option D) :
    ∃ e10' e11',bA (eT (ac (ad 5) ah)) (bG [10,11]) gbK (stK p most R s (.lst .f (Ls.map (tsD .f))) e6 acc (some (.lst .f (bF r))) (some (.lst .f (cu r))) e10 e11)=.nx (stK p most R s (.lst .f (Ls.map (tsD .f))) e6 (e3 most Ls acc r) (some (.lst .f (bF r))) (some (.lst .f (cu r))) e10' e11')/\(e3 most Ls acc r).length<=464:=by
 have fi:=yi (fa:=ac (ad 5) ah) (ρ:=stK p most R s (.lst .f (Ls.map (tsD .f))) e6 acc (some (.lst .f (bF r))) (some (.lst .f (cu r))) e10 e11) (xs:=Ls.map (tsD .f)) rfl (by rw[List.map_map];rfl);rw[List.length_map] at fi
 obtain ⟨ρ',lp,⟨hl,e10',e11',rfl⟩⟩:=uC (gt:=bG [10,11]) (gb:=gbK) (fun (j:Nat)=>D.tup [.int (j:Int),(Ls.map (tsD .f)).getD j .non]) (fun (acc:List Row) ρ=>acc.length<=464/\∃ e10 e11,ρ=stK p most R s (.lst .f (Ls.map (tsD .f))) e6 acc (some (.lst .f (bF r))) (some (.lst .f (cu r))) e10 e11) (e2 most r Ls) (List.range Ls.length) acc _ ⟨ha,e10,e11,rfl⟩ (fun k hk acc ρ hpat=>by
  obtain ⟨ha,e10,e11,hρ⟩:=hpat
  subst hρ
  have hk:=List.mem_range.mp hk
  rw[Ao Ls k hk]
  refine ⟨stK p most R s (.lst .f (Ls.map (tsD .f))) e6 acc (some (.lst .f (bF r))) (some (.lst .f (cu r))) (some (.int (k:Int))) (some (tsD .f (Ls.getD k []))),rfl,?_⟩
  have hin:dIn true (.int (k:Int)) (.lst .f (cu r))=.ok (.bl (true != decide ((k:Int)∈r.map fun q=>(q.2:Int)))):=Ew _ _ _
  have tt:fX (ft2 (dIn true) (ad 10) (ad 9)) (ft2 dLe (fCB a8 (ac (ad 7) ah)) (ad 1)) (stK p most R s (.lst .f (Ls.map (tsD .f))) e6 acc (some (.lst .f (bF r))) (some (.lst .f (cu r))) (some (.int (k:Int))) (some (tsD .f (Ls.getD k []))))=.ok ((true != decide ((k:Int)∈r.map fun q=>(q.2:Int)))&&decide ((((acc.map bQ).length:Nat):Int)<=(most:Int))):=by
   unfold stK tsD
   have lb:∀ xs:List D,(D.lst .o xs).rd=.lst .b xs:=fun _=>rfl
   (repeat' first|(with_reducible first|apply hin)|sizeOf_list_dec)
  have hts:(Ls.getD k []).length<=64:=by
   refine hL _ ?_
   simp[List.getD,hk]
  unfold e2
  by_cases hc:(k:Int)∉(r.map fun q=>(q.2:Int))/\acc.length<=most
  ·rw[if_pos hc]
   refine ⟨_,dQ tt (by simp[hc.1];exact hc.2) (Cw (xs:=acc.map bQ) (ys:=((Ls.getD k []).map fun x=>r++[(x,k)]).map bQ) rfl (yj r k (Ls.getD k []) hr hts _ rfl rfl rfl rfl) (by simp at hts ⊢;lia) rfl),?_,some (.int (k:Int)),some (tsD .f (Ls.getD k [])),?_⟩
   ·simp at hts ⊢;lia
   ·unfold stK
    rw[List.map_append]
    rfl
  ·rw[if_neg hc]
   refine ⟨_,dr tt ?_ rfl,ha,_,_,rfl⟩
   by_cases h1:(k:Int)∈(r.map fun q=>(q.2:Int))
   ·simp[h1]
   ·have:¬ acc.length<=most:=fun z=>hc ⟨h1,z⟩
    simp[h1];lia)
 exact ⟨e10',e11',bE fi lp,hl⟩
theorem Cz{m w:Nat}{p:Parts}(most:Nat)(hm:most<=400)(R:List Row)(hR:∀ r∈R,r.length<800)(s:Int)(e6:Option D)(Ls:List (List Str))(hL:∀ ts∈Ls,ts.length<=64)(e8 e9 e10 e11:Option D) :
    ∃ e8' e9' e10' e11',bA (aH (ad 3)) (bG [8,9]) (bA (eT (ac (ad 5) ah)) (bG [10,11]) gbK) (stK p most R s (.lst .f (Ls.map (tsD .f))) e6 [] e8 e9 e10 e11)=.nx (stK p most R s (.lst .f (Ls.map (tsD .f))) e6 (e4 most Ls R) e8' e9' e10' e11')/\(e4 most Ls R).length<=464:=by
 have fi:=iI (f:=ad 3) (ρ:=stK p most R s (.lst .f (Ls.map (tsD .f))) e6 [] e8 e9 e10 e11) (xs:=R.map bQ) rfl (by rw[List.map_map];rfl)
 obtain ⟨ρ',lp,⟨hl,e8',e9',e10',e11',rfl⟩⟩:=uC (gt:=bG [8,9]) (gb:=bA (eT (ac (ad 5) ah)) (bG [10,11]) gbK) bQ (fun (acc:List Row) ρ=>acc.length<=464/\∃ e8 e9 e10 e11,ρ=stK p most R s (.lst .f (Ls.map (tsD .f))) e6 acc e8 e9 e10 e11) (e3 most Ls) R [] _ ⟨by simp,e8,e9,e10,e11,rfl⟩ (fun r hr acc ρ hpat=>by
  obtain ⟨ha,e8,e9,e10,e11,hρ⟩:=hpat
  subst hρ
  obtain ⟨e10',e11',h1,h2⟩:=Cy (m:=m) (w:=w) (p:=p) most hm R s e6 r (hR r hr) Ls hL acc ha e10 e11
  exact ⟨stK p most R s (.lst .f (Ls.map (tsD .f))) e6 acc (some (.lst .f (bF r))) (some (.lst .f (cu r))) e10 e11,rfl,_,h1,h2,_,_,_,_,rfl⟩)
 exact ⟨e8',e9',e10',e11',bE fi lp,hl⟩
abbrev gbE(a:Ads):ae->FOut:=cZ 5 (fIf (ft2 dGe (ad 6) (ad 4)) (aq 3 (gi a) (ac (ad 0) (ac (bY (ac (fC (.int 0)) (ac (ad 4) ah))) (ac (bY (ac (ad 2) (ac (ad 6) ah))) ah)))) (bv ah))
def stE(p:Parts)(most:Nat)(R:List Row)(s:Int)(Ls:List (List Str))(e6 e7 e8 e9 e10 e11:Option D):ae:=
 [some p.d,some (.int (most:Int)),some (.int ((p.cols - 1:Nat):Int)),some (.lst .f (R.map bQ)),some (.int s),some (.lst .o (Ls.map (tsD .o))),e6,e7,e8,e9,e10,e11]
theorem DK{t:ae->Res Bool}{f g:ae->Res D}{ρ:ae}{b:Bool}{d:D}(h1:t ρ=.ok b)(hb:b=true)(h2:f ρ=.ok d):fIf t f g ρ=.ok d:=by unfold fIf;rw[h1,bok,hb,if_pos rfl,h2]
theorem DL{t:ae->Res Bool}{f g:ae->Res D}{ρ:ae}{b:Bool}{d:D}(h1:t ρ=.ok b)(hb:b=false)(h2:g ρ=.ok d):fIf t f g ρ=.ok d:=by unfold fIf;rw[h1,bok,hb,if_neg (by decide),h2]
theorem CA(a:Ads){m w:Nat}{p:Parts}(G:Good m w p)(h4:m<=4)(hw:w<=4)(most:Nat)(R:List Row)(s:Int)(hs:0<=s)(e6 e7 e8 e9 e10 e11:Option D) :
    ∃ e6',bA (aH (f2 dIx (ad 0) (fC (.int 3)))) (au 6) (gbE a) (stE p most R s [] e6 e7 e8 e9 e10 e11)=.nx (stE p most R s (lkL p s) e6' e7 e8 e9 e10 e11):=by
 have c1:=G.c1;obtain ⟨el,sl,ei,si,s1⟩:=bL G;have fi:aH (f2 dIx (ad 0) (fC (.int 3))) (stE p most R s [] e6 e7 e8 e9 e10 e11)=.ok (p.ends.map D.int):=by
  refine nh ?_;unfold stE;(repeat' sizeOf_list_dec)
 obtain ⟨ρ',lp,⟨e6',rfl⟩⟩:=Ey (gt:=au 6) (gb:=gbE a) D.int (fun L1 ρ=>∃ e6,ρ=stE p most R s (L1.map (lkW p s)) e6 e7 e8 e9 e10 e11) p.ends _ ⟨e6,rfl⟩ (fun L1 e L2 hL ρ hpat=>by
  obtain ⟨e6,hρ⟩:=hpat
  subst hρ
  have hl1:L1.length<4:=by
   have:=congrArg List.length hL
   simp at this;lia
  have he:=ei e (by rw[<- hL];simp)
  refine ⟨stE p most R s (L1.map (lkW p s)) (some (.int e)) e7 e8 e9 e10 e11,rfl,stE p most R s ((L1++[e]).map (lkW p s)) (some (.int e)) e7 e8 e9 e10 e11,?_,_,rfl⟩
  refine m8 (xs:=(L1.map (lkW p s)).map (tsD .o)) (d:=tsD .o (lkW p s e)) rfl ?_ (ntb rfl) (by simp;lia) ?_
  ·have tt:ft2 dGe (ad 6) (ad 4) (stE p most R s (L1.map (lkW p s)) (some (.int e)) e7 e8 e9 e10 e11)=.ok (decide (s<=e)):=by unfold stE;(repeat' sizeOf_list_dec)
   unfold lkW
   by_cases h:s<=e
   ·rw[if_pos h]
    refine DK tt (by simpa using h) ?_
    have al:=Al a G (by lia) s.toNat (p.cols - 1) e.toNat (by lia) (by lia) (by lia)
    rw[show ((s.toNat:Nat):Int)=s by lia,show ((e.toNat:Nat):Int)=e by lia] at al
    have fz0:(D.tup [.int 0,.int s]).fz=.tup [.int 0,.int s]:=by rw[dD,ao,ao,aC,ay,ay]
    have fz1:∀ z:Int,(D.tup [.int z,.int e]).fz=.tup [.int z,.int e]:=fun z=>by rw[dD,ao,ao,aC,ay,ay]
    unfold stE tsD
    (repeat' first|(with_reducible first|apply al|apply fz0|apply fz1)|sizeOf_list_dec)
   ·rw[if_neg h]
    refine DL tt (by simpa using h) ?_
    show bv ah _=Res.ok (.lst .o [])
    (repeat' sizeOf_list_dec)
  ·unfold stE
   rw[List.map_append,List.map_append]
   rfl)
 exact ⟨e6',bE fi lp⟩
theorem kL{α β:Type}(P:β->Prop)(g:β->α->β):∀ (L:List α) (b:β),P b->(∀ b,P b->∀ x∈L,P (g b x))->P (L.foldl g b)
 | [],_,h,_=>h
 |x::L,b,h,hs=>kL P g L (g b x) (hs b h x List.mem_cons_self) fun b hb y hy=>hs b hb y (List.mem_cons_of_mem _ hy)
def Lng(Ls:List (List Str))(R:List Row)(r':Row):Prop:=∃ r∈R,∃ k x,k<Ls.length/\x∈Ls.getD k []/\(k:Int)∉(r.map fun q=>(q.2:Int))/\r'=r++[(x,k)]
theorem CB(most:Nat)(Ls:List (List Str))(R:List Row):∀ r'∈e4 most Ls R,Lng Ls R r':=by
 unfold e4;refine kL (fun acc=>∀ r'∈acc,Lng Ls R r') (e3 most Ls) R [] (by simp) fun acc h r hr=>?_;unfold e3;refine kL (fun acc=>∀ r'∈acc,Lng Ls R r') (e2 most r Ls) _ acc h fun acc h k hk=>?_;unfold e2;split
 ·rename_i hc
  intro r' h';rcases List.mem_append.mp h' with h1 | h1
  ·exact h r' h1
  ·obtain ⟨x,hx,rfl⟩:=List.mem_map.mp h1
   exact ⟨r,hr,k,x,List.mem_range.mp hk,hx,hc.1,rfl⟩
 ·exact h
theorem Ap{p:Parts}{ss:List Int}{s:Int}{R:List Row}(h:∀ r∈R,RowOk p ss r){r':Row}(hr:Lng (lkL p s) R r'):RowOk p (ss++[s]) r':=by
 obtain ⟨r,hr,k,x,hk,hx,hn,rfl⟩:=hr;have ok:=h r hr;unfold lkL at hk hx;rw[List.length_map] at hk;obtain ⟨e,he⟩:∃ e,p.ends[k]?=some e:=⟨p.ends[k],List.getElem?_eq_getElem hk⟩
 have hx:x∈lkW p s e:=by
  rw[List.getD,List.getElem?_map,he] at hx;exact hx
 refine ⟨by simp[ok.l],?_,?_⟩
 ·rw[List.map_append,List.nodup_append]
  refine ⟨ok.n,by simp,?_⟩;intro u hu v hv;have:v=k:=by simpa using hv
  subst this;rintro rfl;obtain ⟨q,hq,rfl⟩:=List.mem_map.mp hu;exact hn (List.mem_map.mpr ⟨q,hq,rfl⟩)
 ·intro q hq
  rw[List.zip_append ok.l.symm] at hq;rcases List.mem_append.mp hq with hq | hq
  ·exact ok.a q hq
  ·have:q=(s,(x,k)):=by simpa using hq
   subst this;exact ⟨e,he,hx⟩
def stG(p:Parts)(most:Nat)(R:List Row)(e4 e5 e6 e7 e8 e9 e10 e11:Option D):ae:=
 [some p.d,some (.int (most:Int)),some (.int ((p.cols - 1:Nat):Int)),some (.lst .f (R.map bQ)),e4,e5,e6,e7,e8,e9,e10,e11]
theorem pz(a:Ads){m w:Nat}{p:Parts}(G:Good m w p)(h4:m<=4)(hw:w<=4)(most:Nat)(hm:most<=400) :
    (nv p most=.inr .non/\cx a [p.d,.int (most:Int)]=.ok .non)\/∃ R,nv p most=.inl R/\cx a [p.d,.int (most:Int)]=.ok (.lst .f (R.map bQ))/\(∀ r∈R,RowOk p p.starts r)/\R.length<=464:=by
 have c1:=G.c1;obtain ⟨el,sl,ei,si,s1⟩:=bL G;obtain ⟨f0,fl⟩:=ie G;have s2:aw 2 (fFz (fCB a8 (ac (f2 dIx (f2 dIx (ad 0) (fC (.int 0))) (fC (.int 0))) ah))) [some p.d,some (.int (most:Int)),none,none,none,none,none,none,none,none,none,none]=.nx [some p.d,some (.int (most:Int)),some (.int ((p.cols - 1:Nat):Int)),none,none,none,none,none,none,none,none,none]:=by
  rw[show (((p.cols - 1:Nat)):Int)=((((p.right.getD 0 []).map D.int).length:Nat):Int) by rw[fl];lia];(repeat' first|(with_reducible first|apply f0)|sizeOf_list_dec)
 have s3:aw 3 (fFz (bv (ac (bY (ac (bv ah) (ac (bv ah) ah))) ah))) [some p.d,some (.int (most:Int)),some (.int ((p.cols - 1:Nat):Int)),none,none,none,none,none,none,none,none,none]=.nx (stG p most [[]] none none none none none none none none):=by
  have z0:(D.lst .o []).fz=.lst .f []:=by rw[aW,aC]
  have z0':(D.lst .f []).fz=.lst .f []:=by rw[aW,aC]
  have z1:(D.tup [.lst .f [],.lst .f []]).fz=.tup [.lst .f [],.lst .f []]:=by rw[dD,ao,ao,aC,z0']
  have z2:(D.lst .o [D.tup [.lst .f [],.lst .f []]]).fz=.lst .f [D.tup [.lst .f [],.lst .f []]]:=by rw[aW,ao,aC,z1]
  show _=FOut.nx [some p.d,some (.int (most:Int)),some (.int ((p.cols - 1:Nat):Int)),some (.lst .f [D.tup [.lst .f [],.lst .f []]]),none,none,none,none,none,none,none,none];(repeat' first|(with_reducible first|apply z0|apply z2)|sizeOf_list_dec)
 have fi:aH (f2 dIx (ad 0) (fC (.int 2))) (stG p most [[]] none none none none none none none none)=.ok (p.starts.map D.int):=by
  refine nh ?_;unfold stG;(repeat' sizeOf_list_dec)
 have lp:=nu (gt:=au 4) (gb:=(ar (aw 5 (bv ah))
  (ar (bA (aH (f2 dIx (ad 0) (fC (.int 3)))) (au 6) (gbE a))
  (ar (aw 7 (bv ah))
  (ar (fun ρ=>(bA (aH (ad 3)) (bG [8,9]) (bA (eT (ac (ad 5) ah)) (bG [10,11]) gbK)) (frzAt 5 ρ))
  (ar (fun ρ=>(aw 3 (fFz (ad 7))) (frzAt 7 ρ))
  (gIf (ft2 dGt (fCB a8 (ac (ad 3) ah)) (ad 1)) (bc (fC .non)) aP))))))) D.int (fun L1 (R:List Row) ρ=>(∀ r∈R,RowOk p L1 r)/\R.length<=464/\∃ e4 e5 e6 e7 e8 e9 e10 e11,ρ=stG p most R e4 e5 e6 e7 e8 e9 e10 e11) (fun R s=>if most<(e4 most (lkL p s) R).length then .inr .non else .inl (e4 most (lkL p s) R)) p.starts (fun L1 s L2 hL R ρ hpat=>by
   obtain ⟨hR,hl,e4',e5,e6,e7,e8,e9,e10,e11,hρ⟩:=hpat
   subst hρ
   have hs:=si s (by rw[<- hL];simp)
   have hl1:L1.length<4:=by
    have:=congrArg List.length hL
    simp at this;lia
   refine ⟨stG p most R (some (.int s)) e5 e6 e7 e8 e9 e10 e11,rfl,?_⟩
   obtain ⟨f6,b1⟩:=CA a G h4 hw most R s hs.1 e6 e7 e8 e9 e10 e11
   obtain ⟨g8,g9,g10,g11,b2,b3⟩:=Cz (m:=m) (w:=w) (p:=p) most hm R (fun r hr=>by rw[(hR r hr).l];lia) s f6 (lkL p s) (fun ts hts=>by
    obtain ⟨e,he,rfl⟩:=List.mem_map.mp hts
    exact An G h4 s e (ei e he).2 hs.1) e8 e9 e10 e11
   have t1:aw 5 (bv ah) (stG p most R (some (.int s)) e5 e6 e7 e8 e9 e10 e11)=.nx (stE p most R s [] e6 e7 e8 e9 e10 e11):=by
    show _=FOut.nx [some p.d,some (.int (most:Int)),some (.int ((p.cols - 1:Nat):Int)),some (.lst .f (R.map bQ)),some (.int s),some (.lst .o []),e6,e7,e8,e9,e10,e11]
    unfold stG;(repeat' sizeOf_list_dec)
   have t2:aw 7 (bv ah) (stE p most R s (lkL p s) f6 e7 e8 e9 e10 e11)=.nx (stK p most R s (.lst .o ((lkL p s).map (tsD .o))) f6 [] e8 e9 e10 e11):=by
    show _=FOut.nx [some p.d,some (.int (most:Int)),some (.int ((p.cols - 1:Nat):Int)),some (.lst .f (R.map bQ)),some (.int s),some (.lst .o ((lkL p s).map (tsD .o))),f6,some (.lst .o []),e8,e9,e10,e11]
    unfold stE;(repeat' sizeOf_list_dec)
   have t3:frzAt 5 (stK p most R s (.lst .o ((lkL p s).map (tsD .o))) f6 [] e8 e9 e10 e11)=stK p most R s (.lst .f ((lkL p s).map (tsD .f))) f6 [] e8 e9 e10 e11:=by
    unfold frzAt stK
    show List.set _ 5 (some (D.fz (.lst .o ((lkL p s).map (tsD .o)))))=_
    rw[aW,wI]
    rfl
   have t4:(aw 3 (fFz (ad 7))) (frzAt 7 (stK p most R s (.lst .f ((lkL p s).map (tsD .f))) f6 (e4 most (lkL p s) R) g8 g9 g10 g11))=.nx (stG p most (e4 most (lkL p s) R) (some (.int s)) (some (.lst .f ((lkL p s).map (tsD .f)))) f6 (some (.lst .f ((e4 most (lkL p s) R).map bQ))) g8 g9 g10 g11):=by
    have fr:frzAt 7 (stK p most R s (.lst .f ((lkL p s).map (tsD .f))) f6 (e4 most (lkL p s) R) g8 g9 g10 g11)=[some p.d,some (.int (most:Int)),some (.int ((p.cols - 1:Nat):Int)),some (.lst .f (R.map bQ)),some (.int s),some (.lst .f ((lkL p s).map (tsD .f))),f6,some (.lst .f ((e4 most (lkL p s) R).map bQ)),g8,g9,g10,g11]:=by
     unfold frzAt stK
     show List.set _ 7 (some (D.fz (.lst .o ((e4 most (lkL p s) R).map bQ))))=_
     rw[aW,jT]
     rfl
    rw[fr]
    have fz:(D.lst .f ((e4 most (lkL p s) R).map bQ)).fz=.lst .f ((e4 most (lkL p s) R).map bQ):=by rw[aW,jT]
    unfold stG
    (repeat' first|(with_reducible first|apply fz)|sizeOf_list_dec)
   have tt:ft2 dGt (fCB a8 (ac (ad 3) ah)) (ad 1) (stG p most (e4 most (lkL p s) R) (some (.int s)) (some (.lst .f ((lkL p s).map (tsD .f)))) f6 (some (.lst .f ((e4 most (lkL p s) R).map bQ))) g8 g9 g10 g11)=.ok (decide ((most:Int)<((((e4 most (lkL p s) R).map bQ).length:Nat):Int))):=by
    unfold stG;(repeat' sizeOf_list_dec)
   by_cases hc:most<(e4 most (lkL p s) R).length
   ·rw[if_pos hc]
    refine aB t1 (aB b1 (aB t2 (aB (by rw[t3];exact b2) (aB t4 (dQ tt (by simp;lia) ?_)))))
    (repeat' sizeOf_list_dec)
   ·rw[if_neg hc]
    exact ⟨_,aB t1 (aB b1 (aB t2 (aB (by rw[t3];exact b2) (aB t4 (dr tt (by simp;lia) rfl))))),fun r hr=>Ap hR (CB most _ R r hr),b3,_,_,_,_,_,_,_,_,rfl⟩) p.starts [] [[]] _ rfl ⟨fun r hr=>by
    have:r=[]:=by simpa using hr
    subst this
    exact ⟨rfl,by simp,by simp⟩,by simp,none,none,none,none,none,none,none,none,rfl⟩
 have hcE:cJ (fun R s=>if most<(e4 most (lkL p s) R).length then .inr .non else .inl (e4 most (lkL p s) R)) p.starts [[]]=nv p most:=rfl;rw[hcE] at lp;revert lp;have nonE:∀ (L:List Int) (R:List Row) (d:D),cJ (fun R s=>if most<(e4 most (lkL p s) R).length then .inr .non else .inl (e4 most (lkL p s) R)) L R=.inr d->d=.non:=by
  intro L;induction L with
  |nil=>intro R d h;cases h
  |cons s L ih=>
   intro R d h;unfold cJ at h;by_cases hc:most<(e4 most (lkL p s) R).length
   ·simp only[if_pos hc] at h
    cases h;rfl
   ·simp only[if_neg hc] at h
    exact ih _ _ h
 cases hE:nv p most with
 |inr d=>
  intro lp
  cases nonE _ _ _ hE
  refine .inl ⟨rfl,dW (ρ:=[some p.d,some (.int (most:Int)),none,none,none,none,none,none,none,none,none,none]) rfl ?_⟩;unfold fN;exact aB s2 (aB s3 (dU (bE fi lp)))
 |inl R=>
  rintro ⟨ρ',lp,hR,hl,e4',e5,e6,e7,e8,e9,e10,e11,rfl⟩;refine .inr ⟨R,rfl,dW (ρ:=[some p.d,some (.int (most:Int)),none,none,none,none,none,none,none,none,none,none]) rfl ?_,hR,hl⟩;unfold fN;refine aB s2 (aB s3 (aB (bE fi lp) ?_));unfold stG;(repeat' sizeOf_list_dec)
def trk(p:Parts)(s:Int)(x:Str):List (Int × Int):=(0,s)::match due p 0 s x with
 |some (ps,_)=>ps
 |none=>[]
def bU(p:Parts)(r:Row):List (List (Int × Int)):=(p.starts.zip r).map fun q=>trk p q.1 q.2.1
def cy(L:List (Int × Int)):D:=.lst .f (L.map plD)
theorem yk(L:List (List (Int × Int))):(L.map cy).map D.asF=L.map cy:=by rw[List.map_map];rfl
theorem Aq(L:List (Int × Int)):(cy L).fz=cy L:=qO .f L
theorem qV:∀ L:List (List (Int × Int)),D.fzs (L.map cy)=L.map cy
 | []=>aC
 |q::L=>by rw[List.map_cons,ao,Aq,qV L]
theorem dO{m w:Nat}{p:Parts}(G:Good m w p)(h8:m<=8){r:Row}(ok:RowOk p p.starts r){q:Int × (Str × Nat)}(hq:q∈p.starts.zip r) :
    asc q.2.1=true/\q.2.1.length<900/\∃ ps v e,due p 0 q.1 q.2.1=some (ps,v)/\p.ends[q.2.2]?=some e/\aY (0,q.1) ps=(((p.cols - 1:Nat):Int),e)/\(0<=e/\e<p.rows):=by
 obtain ⟨el,sl,ei,si,s1⟩:=bL G;obtain ⟨e,he,hx⟩:=ok.a q hq;have hs:=si q.1 (List.of_mem_zip hq).1;have hee:=ei e (List.mem_of_getElem? he);obtain ⟨h1,h2,ps,v,h3,h4⟩:=wH G h8 q.1 e hs.1 hs.2 hee.2 q.2.1 hx;exact ⟨h1,h2,ps,v,e,h3,he,h4,hee⟩
theorem pd(L:List Int)(r:Row):fG (L.map D.int) (bF r)=(L.zip r).map fun q=>D.tup [.int q.1,.str q.2.1]:=by
 unfold fG bF;rw[List.zip_map,List.zip_map_right,List.map_map,List.map_map];rfl
theorem gN{m w:Nat}{p:Parts}(G:Good m w p)(hw:w<=4){r:Row}(ok:RowOk p p.starts r):r.length<=4/\(p.starts.zip r).length=r.length/\1<=r.length:=by
 obtain ⟨el,sl,ei,si,s1⟩:=bL G;have:=ok.l;rw[List.length_zip];lia
theorem uD(a:Ads){m w:Nat}{p:Parts}(G:Good m w p)(h8:m<=8)(hw:w<=4){r:Row}(ok:RowOk p p.starts r) :
    eD a [p.d,.lst .f (bF r)]=.ok (.lst .o ((bU p r).map cy)):=by
 obtain ⟨l1,l2,l3⟩:=gN G hw ok;refine dW (ρ:=[some p.d,some (.lst .f (bF r))]) rfl ?_;unfold j3;have fi:hV (ac (f2 dIx (ad 0) (fC (.int 2))) (ac (ad 1) ah)) [some p.d,some (.lst .f (bF r))]=.ok ((p.starts.zip r).map fun q=>D.tup [.int q.1,.str q.2.1]):=by
  have hf:ac (f2 dIx (ad 0) (fC (.int 2))) (ac (ad 1) ah) [some p.d,some (.lst .f (bF r))]=.ok [.lst .f (p.starts.map D.int),.lst .f (bF r)]:=by (repeat' sizeOf_list_dec)
  unfold hV;rw[hf,bok];show (if Tg.f=Tg.b\/true=false\/Tg.f=Tg.b\/true=false then Res.bad else match some ((p.starts.map D.int).map D.asF),some ((bF r).map D.asF) with
   |some ys,some zs=>Res.ok (fG ys zs)
   |_,_=>.bad)=_
  rw[if_neg (by rintro (z | z | z | z)<;>cases z),cH,mq];show Res.ok (fG _ _)=_;rw[pd]
 have cp:=nr (own:=2) (cap:=[0]) (gt:=bG [0,1]) (fe:=f2 dIx (ce 4 (cD a) (ac (ad 2) (ac (fC (.int 0)) (ac (ad 0) (ac (ad 1) ah))))) (fC (.int 0))) (L:=p.starts.zip r) (fun q=>D.tup [.int q.1,.str q.2.1]) (fun q=>[some (.int q.1),some (.str q.2.1),some p.d]) (fun q=>cy (trk p q.1 q.2.1)) (fun ρ=>∃ e1 e2,ρ=[e1,e2,some p.d]) fi ⟨none,none,rfl⟩ (fun q hq=>by
  obtain ⟨h1,h2,ps,v,e,h3,h4,h5,h6⟩:=dO G h8 ok hq
  have wt:=qP a G 0 q.1 q.2.1 h1 h2
  rw[h3] at wt
  have wt:cD a [p.d,.int 0,.int q.1,.str q.2.1]=.ok (.tup [cy (trk p q.1 q.2.1),.int v]):=by
   rw[wt];unfold trk;rw[h3];rfl
  refine ⟨?_,⟨_,_,rfl⟩,?_,ntb rfl⟩
  ·rintro ρ ⟨e1,e2,rfl⟩;rfl
  ·refine oh (sY (ds:=[p.d,.int 0,.int q.1,.str q.2.1]) (by (repeat' sizeOf_list_dec)) rfl (by (repeat' first | (with_reducible exact Lw.aC) | (with_reducible apply Lw.jR) | (with_reducible first | exact Lw.ay _ | exact Lw.dR _ | exact Lw.iu _ | exact Lw.gj | exact Lw.gn _ | exact Lw.gm _ _ _ | exact Lw.ji _ | exact Lw.dg _ _ | exact Lw.b5 _ _ _))) wt (.inl ⟨rfl,ntb rfl⟩)) v_C (ix0 rfl)) (by lia)
 rw[gT cp (ntb rfl)];unfold bU;rw[List.map_map];rfl
def kq(q:Int × Int):List L2.Key × D:=([Sum.inl q.1,Sum.inl q.2],.bl true)
theorem tp(b:List (Int × Int))(q:Int × Int):ek (b.map kq) [Sum.inl q.1,Sum.inl q.2]=decide (q∈b):=by
 unfold ek;rw[List.any_map,Bool.eq_iff_iff];simp only[List.any_eq_true,decide_eq_true_eq,Function.comp,kq];constructor
 ·rintro ⟨x,hx,e⟩
  have:x=q:=by
   obtain ⟨x1,x2⟩:=x;obtain ⟨q1,q2⟩:=q;simp at e;simp[e]
  exact this ▸ hx
 ·intro h;exact ⟨q,h,by simp⟩
def fK(T:Option D)(b:List (Int × Int))(e2 e3:Option D):ae:=[T,some (.dic .o (b.map kq)),e2,e3]
abbrev wJ:ae->FOut:=(ar (gIf (ft2 kz (ad 3) (ad 1)) (bc (fC (.bl false))) aP)
 (mK 1 (ad 3) (.bl true)))
def ls1(b:List (Int × Int))(q:Int × Int):List (Int × Int) ⊕ D:=if q∈b then .inr (.bl false) else .inl (b++[q])
theorem pe:∀ (T b:List (Int × Int)),b.Nodup->cJ ls1 T b=if (b++T).Nodup then .inl (b++T) else .inr (.bl false)
 | [],b,h=>by rw[List.append_nil,if_pos h];rfl
 |q::T,b,h=>by
  unfold cJ ls1;by_cases hq:q∈b
  ·simp only[if_pos hq]
   rw[if_neg];intro z;exact (List.nodup_append.mp z).2.2 q hq q List.mem_cons_self rfl
  ·simp only[if_neg hq]
   have h':(b++[q]).Nodup:=by
    rw[List.nodup_append];refine ⟨h,by simp,?_⟩;intro u hu v hv;have:v=q:=by simpa using hv
    subst this;rintro rfl;exact hq hu
   show cJ ls1 T (b++[q])=_;rw[pe T (b++[q]) h',List.append_assoc];rfl
def ls2(b:List (Int × Int))(T:List (Int × Int)):List (Int × Int) ⊕ D:=if (b++T).Nodup then .inl (b++T) else .inr (.bl false)
theorem pf:∀ (Ts:List (List (Int × Int))) (b:List (Int × Int)),b.Nodup->cJ ls2 Ts b=if (b++Ts.flatten).Nodup then .inl (b++Ts.flatten) else .inr (.bl false)
 | [],b,h=>by rw[List.flatten_nil,List.append_nil,if_pos h];rfl
 |T::Ts,b,h=>by
  unfold cJ ls2;by_cases hq:(b++T).Nodup
  ·simp only[if_pos hq]
   show cJ ls2 Ts (b++T)=_;rw[pf Ts (b++T) hq,List.flatten_cons,List.append_assoc]
  ·simp only[if_neg hq]
   rw[if_neg];intro z;rw[List.flatten_cons,<- List.append_assoc] at z;exact hq (List.nodup_append.mp z).1
theorem ym(a:Ads)(Ts:List (List (Int × Int)))(hl:Ts.flatten.length<=900):fI a [.lst .f (Ts.map cy)]=.ok (.bl (decide Ts.flatten.Nodup)):=by
 have s1:aw 1 pK [some (.lst .f (Ts.map cy)),none,none,none]=.nx (fK (some (.lst .f (Ts.map cy))) [] none none):=rfl;have fi:=iI (f:=ad 0) (ρ:=fK (some (.lst .f (Ts.map cy))) [] none none) (xs:=Ts.map cy) rfl (yk Ts)
 have lp:=nu (gt:=au 2) (gb:=bA (aH (ad 2)) (au 3) wJ) cy (fun L1 (b:List (Int × Int)) ρ=>b=L1.flatten/\b.Nodup/\∃ e2 e3,ρ=fK (some (.lst .f (Ts.map cy))) b e2 e3) ls2 Ts (fun L1 T L2 hL b ρ hpat=>by
  obtain ⟨hb,hn,e2,e3,hρ⟩:=hpat
  subst hρ
  have hbl:b.length+T.length<=900:=by
   have:=congrArg (fun L=>L.flatten.length) hL
   simp at this
   rw[hb]
   simp at hl ⊢
   lia
  refine ⟨fK (some (.lst .f (Ts.map cy))) b (some (cy T)) e3,rfl,?_⟩
  have fi2:=iI (f:=ad 2) (ρ:=fK (some (.lst .f (Ts.map cy))) b (some (cy T)) e3) (xs:=T.map plD) rfl (by rw[List.map_map];rfl)
  have lp2:=nu (gt:=au 3) (gb:=wJ) plD (fun L1 (c:List (Int × Int)) ρ=>c=b++L1/\c.Nodup/\∃ e3,ρ=fK (some (.lst .f (Ts.map cy))) c (some (cy T)) e3) ls1 T (fun M1 q M2 hM c ρ hpat=>by
   obtain ⟨hc,hcn,e3,hρ⟩:=hpat
   subst hρ
   have hcl:c.length<900:=by
    have:=congrArg List.length hM
    rw[hc]
    simp at this ⊢
    lia
   refine ⟨fK (some (.lst .f (Ts.map cy))) c (some (cy T)) (some (plD q)),rfl,?_⟩
   have hi:kz (plD q) (.dic .b (c.map kq))=.ok (.bl (decide (q∈c))):=by
    show Res.ok (D.bl (ek (c.map kq) [Sum.inl q.1,Sum.inl q.2]))=_
    rw[tp]
   have tt:ft2 kz (ad 3) (ad 1) (fK (some (.lst .f (Ts.map cy))) c (some (cy T)) (some (plD q)))=.ok (decide (q∈c)):=t_2 (x:=plD q) (y:=.dic .b (c.map kq)) rfl rfl hi
   unfold ls1
   by_cases hq:q∈c
   ·rw[if_pos hq]
    exact dU (dQ tt (by simpa using hq) rfl)
   ·rw[if_neg hq]
    refine ⟨fK (some (.lst .f (Ts.map cy))) (c++[q]) (some (cy T)) (some (plD q)),aB (dr tt (by simpa using hq) rfl) ?_,by rw[hc,List.append_assoc],?_,_,rfl⟩
    ·unfold mK fK
     show (aft (Res.ok (plD q)) _)=_
     rw[aok]
     show (if sizeLine<=(c.map kq).length then FOut.bad else FOut.nx (List.set _ 1 (some (.dic .o (cP (c.map kq) [Sum.inl q.1,Sum.inl q.2] (.bl true))))))=_
     rw[if_neg (by have:1000<sizeLine:=(by decide);simp;lia)]
     unfold cP
     rw[tp,if_neg (by simpa using hq),List.map_append]
     rfl
    ·rw[List.nodup_append]
     refine ⟨hcn,by simp,?_⟩
     intro u hu v hv
     have:v=q:=by simpa using hv
     subst this
     rintro rfl
     exact hq hu) T [] b _ rfl ⟨by rw[List.append_nil],hn,e3,rfl⟩
  rw[pe T b hn] at lp2
  unfold ls2
  by_cases hc:(b++T).Nodup
  ·rw[if_pos hc] at lp2 ⊢
   obtain ⟨ρ',l1,_,_,e3',rfl⟩:=lp2
   exact ⟨_,bE fi2 l1,by rw[hb];simp,hc,_,_,rfl⟩
  ·rw[if_neg hc] at lp2 ⊢
   exact bE fi2 lp2) Ts [] [] _ rfl ⟨rfl,by simp,none,none,rfl⟩
 rw[pf Ts [] (by simp),List.nil_append] at lp;refine dW (ρ:=[some (.lst .f (Ts.map cy)),none,none,none]) rfl ?_;unfold lT;by_cases hc:Ts.flatten.Nodup
 ·rw[if_pos hc] at lp
  obtain ⟨ρ',l1,_,_,e2,e3,rfl⟩:=lp;rw[decide_eq_true hc];exact aB s1 (aB (bE fi l1) rfl)
 ·rw[if_neg hc] at lp
  rw[decide_eq_false hc];exact aB s1 (dU (bE fi lp))
theorem uE(s:Int × Int)(ps:List (Int × Int)):∃ L,s::ps=L++[aY s ps]:=by
 refine ⟨(s::ps).dropLast,?_⟩;have:(s::ps).getLast (by simp)=aY s ps:=by
  cases ps with
  |nil=>rfl
  |cons q ps=>unfold aY;rw[List.getLast?_eq_some_getLast (by simp)];simp
 rw[<- this,List.dropLast_concat_getLast]
def kM(tr:List (List (Int × Int)))(i:Nat)(q:Int × Int):Option Nat:=(List.range tr.length).find? fun j=>decide (j≠i)&&decide (q∈tr.getD j [])
def cw(tr:List (List (Int × Int))):Option (Nat × (Int × Int) × Nat):=(List.range tr.length).findSome? fun i=>(tr.getD i []).findSome? fun q=>(kM tr i q).map fun j=>(i,q,j)
theorem wK{m w:Nat}{p:Parts}(G:Good m w p)(h8:m<=8)(hw:w<=4){r:Row}(ok:RowOk p p.starts r):(bU p r).flatten.length<=900:=by
 obtain ⟨l1,l2,l3⟩:=gN G hw ok;have c1:=G.c1;have r1:=G.r1;have key:∀ L:List (Int × (Str × Nat)),(∀ q∈L,(trk p q.1 q.2.1).length<=200)->((L.map fun q=>trk p q.1 q.2.1).flatten).length<=200*L.length:=by
  intro L;induction L with
  |nil=>simp
  |cons q L ih=>
   intro h;have:=ih fun z hz=>h z (List.mem_cons_of_mem _ hz);have:=h q List.mem_cons_self;simp at *;lia
 have:=key (p.starts.zip r) (fun q hq=>by
  obtain ⟨e,he,hx⟩:=ok.a q hq
  obtain ⟨el,sl,ei,si,s1⟩:=bL G
  have hs:=si q.1 (List.of_mem_zip hq).1
  have hee:=ei e (List.mem_of_getElem? he)
  have o:On p 0 q.1:=⟨⟨by lia,by lia⟩,by lia,by lia⟩
  have hlen:q.2.1.length<=100:=by
   unfold lkW at hx
   split at hx
   ·unfold dy at hx
    obtain ⟨z,hz,hz2⟩:=List.mem_map.mp hx
    have pw:=(iH G q.1 ((p.cols - 1:Nat):Int) e o (p.cols - 1+(e.toNat - q.1.toNat))).2 z (List.mem_filter.mp hz).1
    rw[<- hz2,pw.2]
    lia
   ·simp at hx
  have hg:∀ (ls:List Str) (x y:Int) (ps:List (Int × Int)) (v:Int),go p ls x y=some (ps,v)->ps.length=ls.length:=by
   intro ls
   induction ls with
   |nil=>intro x y ps v h;have:([],1)=(ps,v):=Option.some.inj h;obtain ⟨rfl,rfl⟩:=Prod.mk.inj this;rfl
   |cons l ls ih=>
    intro x y ps v h
    rw[eL] at h
    by_cases h0:ax p x y l=0
    ·rw[if_pos h0] at h;cases h
    ·rw[if_neg h0] at h
     cases hg:go p ls (nX x l) (nY y l) with
     |none=>rw[hg] at h;cases h
     |some q=>
      obtain ⟨qs,u⟩:=q
      rw[hg] at h
      have h2:((nX x l,nY y l)::qs,ax p x y l*u)=(ps,v):=Option.some.inj h
      obtain ⟨rfl,rfl⟩:=Prod.mk.inj h2
      have:=ih _ _ _ _ hg
      simp[this]
  obtain ⟨h1,h2,ps,v,e',h3,h4,h5,h6⟩:=dO G h8 ok hq
  have:=hg _ _ _ _ _ (dE h3).2
  rw[gM] at this
  unfold trk
  rw[h3]
  simp
  lia)
 unfold bU;lia
def fy(z:Str)(k:Nat):Str:=⟨(z.cps.toList.take k).toArray⟩
def gp(z:Str)(k:Nat):Str:=⟨(z.cps.toList.drop k).toArray⟩
theorem jU(p:Parts):∀ (ls:List Str) (x y:Int) (ps:List (Int × Int)) (v:Int),go p ls x y=some (ps,v)->ps.length=ls.length/\∀ (c:Nat) (q:Int × Int),((x,y)::ps)[c]?=some q->q.1+q.2=x+y+c
 | [],x,y,ps,v,h=>by
  have:([],1)=(ps,v):=Option.some.inj h;obtain ⟨rfl,rfl⟩:=Prod.mk.inj this;refine ⟨rfl,fun c q hq=>?_⟩
  cases c with
  | zero => have : (x, y) = q := by simpa using hq
            subst this;simp
  |succ c=>simp at hq
 |l::ls,x,y,ps,v,h=>by
  rw[eL] at h;by_cases h0:ax p x y l=0
  ·rw[if_pos h0] at h;cases h
  ·rw[if_neg h0] at h
   cases hg:go p ls (nX x l) (nY y l) with
   |none=>rw[hg] at h;cases h
   |some q=>
    obtain ⟨qs,u⟩:=q;rw[hg] at h;have h2:((nX x l,nY y l)::qs,ax p x y l*u)=(ps,v):=Option.some.inj h;obtain ⟨rfl,rfl⟩:=Prod.mk.inj h2;obtain ⟨i1,i2⟩:=jU p ls _ _ _ _ hg;refine ⟨by simp[i1],fun c q hq=>?_⟩
    cases c with
    | zero => have : (x, y) = q := by simpa using hq
              subst this;simp
    |succ c=>
     have:=i2 c q (by simpa using hq);rw[this];unfold nX nY;split<;>push_cast<;>lia
theorem Ar{p:Parts}{s:Int}{x:Str}{ps:List (Int × Int)}{v:Int}(h:due p 0 s x=some (ps,v)):(trk p s x).length=x.length+1:=by
 have:=(jU p _ _ _ _ _ (dE h).2).1;rw[gM] at this;unfold trk;rw[h];simp[this]
def cutN(s:Int)(q:Int × Int):Nat:=(q.1+q.2 - s).toNat
theorem qW{p:Parts}{s:Int}{x:Str}{ps:List (Int × Int)}{v:Int}(h:due p 0 s x=some (ps,v)){c:Nat}{q:Int × Int}(hq:(trk p s x)[c]?=some q):q.1+q.2 - s=(c:Int)/\c<=x.length:=by
 have g:=dE h;have hl:=Ar h;unfold trk at hq;rw[h] at hq;have:=(jU p _ _ _ _ _ g.2).2 c q hq;refine ⟨by lia,?_⟩;have:c<(trk p s x).length:=by unfold trk;rw[h];exact (List.getElem?_eq_some_iff.mp hq).1
 lia
theorem As{p:Parts}{s:Int}{x:Str}{ps:List (Int × Int)}{v:Int}(h:due p 0 s x=some (ps,v)){q:Int × Int}(hq:q∈trk p s x):(trk p s x)[cutN s q]?=some q/\q.1+q.2 - s=(cutN s q:Int)/\cutN s q<=x.length:=by
 obtain ⟨c,hc⟩:=List.mem_iff_getElem?.mp hq;obtain ⟨h1,h2⟩:=qW h hc;have:cutN s q=c:=by unfold cutN;lia
 rw[this];exact ⟨hc,h1,h2⟩
theorem ph{p:Parts}{s:Int}{x:Str}{ps:List (Int × Int)}{v:Int}(h:due p 0 s x=some (ps,v)):(trk p s x).Nodup:=by
 refine List.pairwise_iff_getElem.mpr fun i j hi hj hij e=>?_;have h1:=qW h (List.getElem?_eq_getElem hi);have h2:=qW h (List.getElem?_eq_getElem hj);rw[e] at h1;lia
theorem uF{tr:List (List (Int × Int))}{i j:Nat}{q:Int × Int}(h:cw tr=some (i,q,j)):i<tr.length/\j<tr.length/\j≠i/\q∈tr.getD i []/\q∈tr.getD j []:=by
 unfold cw at h;obtain ⟨i',hi,h⟩:=List.exists_of_findSome?_eq_some h;obtain ⟨q',hq,h⟩:=List.exists_of_findSome?_eq_some h
 cases hm:kM tr i' q' with
 |none=>rw[hm] at h;cases h
 |some j'=>
  rw[hm] at h
  cases h
  unfold kM at hm;have h1:=List.find?_some hm;have h2:=List.mem_of_find?_eq_some hm;simp at h1;exact ⟨List.mem_range.mp hi,List.mem_range.mp h2,h1.1,hq,by simpa using h1.2⟩
theorem wL{m w:Nat}{p:Parts}(G:Good m w p)(h8:m<=8){r:Row}(ok:RowOk p p.starts r){q:Int × (Str × Nat)}(hq:q∈p.starts.zip r):q.2.1.length<=14:=by
 have c1:=G.c1;have r1:=G.r1;obtain ⟨e,he,hx⟩:=ok.a q hq;obtain ⟨el,sl,ei,si,s1⟩:=bL G;have hs:=si q.1 (List.of_mem_zip hq).1;have hee:=ei e (List.mem_of_getElem? he);have o:On p 0 q.1:=⟨⟨by lia,by lia⟩,by lia,by lia⟩
 unfold lkW at hx;split at hx
 ·unfold dy at hx
  obtain ⟨z,hz,hz2⟩:=List.mem_map.mp hx;have pw:=(iH G q.1 ((p.cols - 1:Nat):Int) e o (p.cols - 1+(e.toNat - q.1.toNat))).2 z (List.mem_filter.mp hz).1;rw[<- hz2,pw.2];lia
 ·simp at hx
def rw0(r:Row)(i:Nat):Str:=(r.getD i ("", 0)).1
def st0(p:Parts)(i:Nat):Int:=p.starts.getD i 0
theorem gr{m w:Nat}{p:Parts}(G:Good m w p)(h8:m<=8){r:Row}(ok:RowOk p p.starts r){i:Nat}(hi:i<r.length) :
    (p.starts.zip r)[i]?=some (st0 p i,r.getD i ("", 0))/\(bU p r).getD i []=trk p (st0 p i) (rw0 r i)/\(rw0 r i).length<=14/\∃ ps v,due p 0 (st0 p i) (rw0 r i)=some (ps,v):=by
 have hl:=ok.l;have hz:(p.starts.zip r)[i]?=some (st0 p i,r.getD i ("", 0)):=by
  rw[List.getElem?_eq_getElem (by rw[List.length_zip];lia),List.getElem_zip];unfold st0;simp[List.getD,hi,show i<p.starts.length by lia]
 obtain ⟨h1,h2,ps,v,e,h3,_⟩:=dO G h8 ok (List.mem_of_getElem? hz);refine ⟨hz,?_,wL G h8 ok (List.mem_of_getElem? hz),ps,v,h3⟩;unfold bU;rw[List.getD,List.getElem?_map,hz];rfl
def exW(p:Parts)(r:Row)(z:Nat × (Int × Int) × Nat):List Str:=
 ((r.map (·.1)).set z.1 (fy (rw0 r z.1) (cutN (st0 p z.1) z.2.1)++gp (rw0 r z.2.2) (cutN (st0 p z.2.2) z.2.1))).set z.2.2 (fy (rw0 r z.2.2) (cutN (st0 p z.2.2) z.2.1)++gp (rw0 r z.1) (cutN (st0 p z.1) z.2.1))
theorem jV{p:Parts}{x y:Int}{l:Str}(h:ax p x y l≠0):l = "r" \/ l = "u" := by
 unfold ax at h;split at h
 ·rename_i q;exact .inl q.1
 ·split at h
  ·rename_i q;exact .inr q.1
  ·exact absurd rfl h
theorem DM(x y:Int){l:Str}(h:l = "r" \/ l = "u"):x<=nX x l/\y<=nY y l:=by
 unfold nX nY;rcases h with rfl | rfl
 ·rw[if_pos rfl,if_pos rfl];lia
 ·rw[if_neg (by decide +kernel),if_neg (by decide +kernel)];lia
theorem iX{p:Parts}{l:Str}{ls:List Str}{x y:Int}{ps:List (Int × Int)}{v:Int}(h:go p (l::ls) x y=some (ps,v)) :
    ax p x y l≠0/\∃ qs u,go p ls (nX x l) (nY y l)=some (qs,u)/\ps=(nX x l,nY y l)::qs/\v=ax p x y l*u:=by
 rw[eL] at h;by_cases h0:ax p x y l=0
 ·rw[if_pos h0] at h;cases h
 ·rw[if_neg h0] at h
  refine ⟨h0,?_⟩
  cases hg:go p ls (nX x l) (nY y l) with
  |none=>rw[hg] at h;cases h
  |some q=>
   obtain ⟨qs,u⟩:=q;rw[hg] at h;have h2:((nX x l,nY y l)::qs,ax p x y l*u)=(ps,v):=Option.some.inj h;obtain ⟨rfl,rfl⟩:=Prod.mk.inj h2;exact ⟨qs,u,rfl,rfl,rfl⟩
theorem iY{p:Parts}{x y:Int}{ps:List (Int × Int)}{v:Int}(h:go p [] x y=some (ps,v)):ps=[]/\v=1:=by
 have:([],1)=(ps,v):=Option.some.inj h;obtain ⟨rfl,rfl⟩:=Prod.mk.inj this;exact ⟨rfl,rfl⟩
theorem nw{p:Parts}(ls:List Str):∀ {x y:Int} {ps:List (Int × Int)} {v:Int},go p ls x y=some (ps,v)->x<=(aY (x,y) ps).1/\y<=(aY (x,y) ps).2:=by
 induction ls with
 |nil=>
  intro x y ps v h;obtain ⟨rfl,_⟩:=iY h;exact ⟨Int.le_refl _,Int.le_refl _⟩
 |cons l ls ih=>
  intro x y ps v h;obtain ⟨h0,qs,u,hg,rfl,_⟩:=iX h;have:=ih hg;have:=DM x y (jV h0);rw[dF];lia
theorem At{m w:Nat}{p:Parts}(G:Good m w p)(s ex ey:Int)(ls:List Str):∀ {x y:Int} {ps:List (Int × Int)} {v:Int} (t:Nat) (z:Str),On p x y->go p ls x y=some (ps,v)->aY (x,y) ps=(ex,ey)->((x,y),z)∈aZ p s ex ey t →
    ((ex,ey),ls.foldl (·++·) z)∈aZ p s ex ey (t+ls.length):=by
 induction ls with
 |nil=>
  intro x y ps v t z o h he hz;obtain ⟨rfl,_⟩:=iY h;have:(x,y)=(ex,ey):=he;rw[this] at hz;exact hz
 |cons l ls ih=>
  intro x y ps v t z o h he hz;obtain ⟨h0,qs,u,hg,rfl,_⟩:=iX h;have hl:=jV h0;rw[dF] at he;have hge:=nw ls hg;rw[he] at hge;have th:=nk x y hl;have sp:=iW G o l;have hm:((nX x l,nY y l),z++l)∈aZ p s ex ey (t+1):=by
   show _∈(aZ p s ex ey t).flatMap _;refine List.mem_flatMap.mpr ⟨_,hz,?_⟩;have e1:((nX x l,nY y l),z++l)∈dN p ex ey ((x,y),z) l:=by
    unfold dN;rw[if_pos ⟨by dsimp only;rw[th.1,th.2,decide_eq_true hge.1,decide_eq_true hge.2];rfl,by dsimp only;lia⟩];dsimp only;rw[th.1,th.2];exact List.mem_singleton.mpr rfl
   unfold ext;rcases hl with rfl | rfl
   ·exact List.mem_append_left _ e1
   ·exact List.mem_append_right _ e1
  have:=ih (t+1) (z++l) (jC G o l h0) hg he hm;rw[show t+1+ls.length=t+(l::ls).length by simp only[List.length_cons];lia] at this;exact this
theorem Au(L:List Nat):∀ w:Str,(L.map fun c=>(⟨#[c]⟩:Str)).foldl (·++·) w=⟨w.cps++L.toArray⟩:=by
 induction L with
 |nil=>intro w;show w=_;cases w;simp
 |cons c L ih=>
  intro w;rw[List.map_cons,List.foldl_cons,ih];show (⟨(w.cps++#[c])++L.toArray⟩:Str)=_;rw[Array.append_assoc];congr 2;apply Array.ext';simp
theorem yn(x:Str):(a9 x).foldl (·++·) ("" : Str)=x:=by
 unfold a9;rw[Au];show (⟨(#[]:Array Nat)++x.cps.toList.toArray⟩:Str)=x;simp
theorem tq{m w:Nat}{p:Parts}(G:Good m w p)(s e:Int)(hs:0<=s)(hs2:s<p.rows){x:Str}{ps:List (Int × Int)}{v:Int}(h:go p (a9 x) 0 s=some (ps,v))(he:aY (0,s) ps=(((p.cols - 1:Nat):Int),e)):x∈lkW p s e:=by
 have c1:=G.c1;have o:On p 0 s:=⟨⟨by omega,by omega⟩,by omega,by omega⟩
 have hge:=nw _ h;rw[he] at hge;have hge2:s<=e:=hge.2;have hin:=At G s ((p.cols - 1:Nat):Int) e (a9 x) 0 "" o h he (List.mem_singleton.mpr rfl);rw[yn] at hin;have hlen:(a9 x).length=p.cols - 1+(e.toNat - s.toNat):=by
  have ga:=jU p _ _ _ _ _ h;have hl:((0,s)::ps)[ps.length]?=some (aY (0,s) ps):=by
   unfold aY
   cases ps with
   |nil=>rfl
   |cons a b=>rw[List.length_cons,List.getElem?_cons_succ,List.getLast?_eq_getElem?,List.length_cons];simp
  have:=ga.2 _ _ hl;rw[he] at this;dsimp only at this;lia
 unfold lkW;rw[if_pos hge2];unfold dy;rw[Nat.zero_add,hlen] at hin;exact List.mem_map.mpr ⟨_,List.mem_filter.mpr ⟨hin,by simp⟩,rfl⟩
theorem wM{p:Parts}(l2:List Str):∀ (l1:List Str) {x y:Int} {ps1 ps2:List (Int × Int)} {v1 v2:Int},go p l1 x y=some (ps1,v1)->go p l2 (aY (x,y) ps1).1 (aY (x,y) ps1).2=some (ps2,v2)->go p (l1++l2) x y=some (ps1++ps2,v1*v2):=by
 intro l1;induction l1 with
 |nil=>
  intro x y ps1 ps2 v1 v2 h1 h2;obtain ⟨rfl,rfl⟩:=iY h1;rw[Int.one_mul];exact h2
 |cons l ls ih=>
  intro x y ps1 ps2 v1 v2 h1 h2;obtain ⟨h0,qs,u,hg,rfl,rfl⟩:=iX h1;rw[dF] at h2;have:=ih hg h2;rw[List.cons_append,eL,if_neg h0,this];show some _=some _;rw[Int.mul_assoc];rfl
theorem yo{p:Parts}(l2:List Str):∀ (l1:List Str) {x y:Int} {ps:List (Int × Int)} {v:Int},go p (l1++l2) x y=some (ps,v)->∃ ps1 v1 ps2 v2,go p l1 x y=some (ps1,v1)/\go p l2 (aY (x,y) ps1).1 (aY (x,y) ps1).2=some (ps2,v2)/\ps=ps1++ps2/\v=v1*v2:=by
 intro l1;induction l1 with
 |nil=>intro x y ps v h;exact ⟨[],1,ps,v,rfl,h,rfl,by rw[Int.one_mul]⟩
 |cons l ls ih=>
  intro x y ps v h;obtain ⟨h0,qs,u,hg,rfl,rfl⟩:=iX h;obtain ⟨ps1,v1,ps2,v2,g1,g2,rfl,rfl⟩:=ih hg;refine ⟨(nX x l,nY y l)::ps1,ax p x y l*v1,ps2,v2,?_,?_,rfl,by rw[Int.mul_assoc]⟩
  ·rw[eL,if_neg h0,g1]
  ·rw[dF];exact g2
theorem jm(d:Int × Int)(a b:List (Int × Int)):aY d (a++b)=aY (aY d a) b:=by
 unfold aY
 cases b with
 |nil=>simp
 |cons q b=>rw[List.getLast?_append];simp[List.getLast?_cons]
theorem yp{p:Parts}(n:Nat):∀ (la lb:List Str),la.length+lb.length<=n->∀ {x y y' X ea eb:Int} {pa pb:List (Int × Int)} {va vb:Int},go p la x y=some (pa,va)->go p lb x y'=some (pb,vb)->y<y' →
    aY (x,y) pa=(X,ea)->aY (x,y') pb=(X,eb)->(∀ q∈(x,y)::pa,q∉(x,y')::pb)->ea<eb:=by
 induction n with
 |zero=>
  intro la lb hn x y y' X ea eb pa pb va vb ga gb hy ha hb _;have la0:la=[]:=List.length_eq_zero_iff.mp (by lia);subst la0;obtain ⟨rfl,_⟩:=iY ga;have gb':=nw _ gb;rw[hb] at gb';have ha':(x,y)=(X,ea):=ha;obtain ⟨rfl,rfl⟩:=Prod.mk.inj ha';have:=gb'.2;dsimp only at this;lia
 |succ n ih=>
  intro la lb hn x y y' X ea eb pa pb va vb ga gb hy ha hb hd
  cases la with
  |nil=>
   obtain ⟨rfl,_⟩:=iY ga;have gb':=nw _ gb;rw[hb] at gb';have ha':(x,y)=(X,ea):=ha;obtain ⟨rfl,rfl⟩:=Prod.mk.inj ha';have:=gb'.2;dsimp only at this;lia
  |cons l la=>
   obtain ⟨h0,qs,u,hg,rfl,_⟩:=iX ga;rw[dF] at ha;rcases jV h0 with rfl | rfl
   ·have e1:nX x "r" = x+1:=by unfold nX;rw[if_pos rfl]
    have e2:nY y "r" = y:=by unfold nY;rw[if_pos rfl]
    cases lb with
    |nil=>
     obtain ⟨rfl,_⟩:=iY gb;have hb':(x,y')=(X,eb):=hb;obtain ⟨rfl,rfl⟩:=Prod.mk.inj hb';have:=(nw _ hg).1;rw[ha] at this;dsimp only at this;rw[e1] at this;lia
    |cons l' lb=>
     obtain ⟨h0',qs',u',hg',rfl,_⟩:=iX gb;have hb2:=hb;rw[dF] at hb2;rcases jV h0' with rfl | rfl
     ·have e3:nY y' "r" = y':=by unfold nY;rw[if_pos rfl]
      exact ih la lb (by simp only[List.length_cons] at hn;lia) hg hg' (by rw[e2,e3];exact hy) ha hb2 (fun q hq hq'=>hd q (List.mem_cons_of_mem _ hq) (List.mem_cons_of_mem _ hq'))
     ·have e3:nX x "u" = x:=by unfold nX;rw[if_neg (by decide +kernel)]
      have e4:nY y' "u" = y' + 1:=by unfold nY;rw[if_neg (by decide +kernel)]
      rw[e3,e4] at hg' hb2;refine ih ("r" :: la) lb (by simp only[List.length_cons] at hn ⊢;lia) ga hg' (by lia) (by rw[dF];exact ha) hb2 (fun q hq hq'=>hd q hq (List.mem_cons_of_mem _ ?_));rw[e3,e4];exact hq'
   ·have e1:nX x "u" = x:=by unfold nX;rw[if_neg (by decide +kernel)]
    have e2:nY y "u" = y+1:=by unfold nY;rw[if_neg (by decide +kernel)]
    rw[e1,e2] at hg ha;by_cases h:y+1=y'
    ·subst h
     exact absurd (List.mem_cons_self) (hd (x,y+1) (List.mem_cons_of_mem _ (by rw[e1,e2];exact List.mem_cons_self)))
    ·refine ih la lb (by simp only[List.length_cons] at hn;lia) hg gb (by lia) ha hb (fun q hq hq'=>hd q (List.mem_cons_of_mem _ ?_) hq')
     rw[e1,e2];exact hq
theorem kN{tr:List (List (Int × Int))}{i:Nat}{q:Int × Int}:kM tr i q=none ↔ ∀ k<tr.length,k≠i->q∉tr.getD k []:=by
 unfold kM;rw[List.find?_eq_none];constructor
 ·intro h k hk hne hq
  exact h k (List.mem_range.mpr hk) (by rw[decide_eq_true hne,decide_eq_true hq];rfl)
 ·intro h k hk z
  simp only[Bool.and_eq_true,decide_eq_true_eq] at z;exact h k (List.mem_range.mp hk) z.1 z.2
theorem meet_some{tr:List (List (Int × Int))}{i j:Nat}{q:Int × Int}:kM tr i q=some j ↔ j<tr.length/\j≠i/\q∈tr.getD j []/\∀ k<j,k≠i->q∉tr.getD k []:=by
 unfold kM;rw[List.find?_range_eq_some];constructor
 ·intro ⟨h1,h2,h3⟩
  simp only[Bool.and_eq_true,decide_eq_true_eq] at h1;refine ⟨List.mem_range.mp h2,h1.1,h1.2,fun k hk hne hq=>?_⟩;have:=h3 k hk;rw[decide_eq_true hne,decide_eq_true hq] at this
  cases this
 ·intro ⟨h1,h2,h3,h4⟩
  refine ⟨by rw[decide_eq_true h2,decide_eq_true h3];rfl,List.mem_range.mpr h1,fun k hk=>?_⟩;by_cases hne:k=i
  ·subst hne;simp
  ·rw[decide_eq_false (h4 k hk hne)];simp
theorem wN{n i:Nat}{l1 l2:List Nat}(h:List.range n=l1++i::l2):l1=List.range i/\i<n:=by
 have hi:(List.range n)[l1.length]?=some i:=by rw[h];simp
 have hl:l1.length<n:=by have:=congrArg List.length h;simp at this;lia
 rw[List.getElem?_range hl] at hi
 cases hi
 refine ⟨?_,hl⟩;have:=congrArg (List.take l1.length) h;rw[List.take_left' rfl,List.take_range,Nat.min_eq_left (Nat.le_of_lt hl)] at this;exact this.symm
theorem first_iff{tr:List (List (Int × Int))}{i j:Nat}{q:Int × Int}:cw tr=some (i,q,j) ↔ i<tr.length/\(∀ i0<i,∀ q0∈tr.getD i0 [],∀ k<tr.length,k≠i0->q0∉tr.getD k []) ∧
    ∃ L1 L2,tr.getD i []=L1++q::L2/\(∀ q0∈L1,∀ k<tr.length,k≠i->q0∉tr.getD k [])/\j<tr.length/\j≠i/\q∈tr.getD j []/\∀ k<j,k≠i->q∉tr.getD k []:=by
 unfold cw;rw[List.findSome?_eq_some_iff];have mp {i:Nat} {q:Int × Int}:(kM tr i q).map (fun j=>(i,q,j))=none ↔ ∀ k<tr.length,k≠i->q∉tr.getD k []:=by rw[Option.map_eq_none_iff,kN]
 constructor
 ·intro ⟨l1,i',l2,e,h,hn⟩
  obtain ⟨el,hi⟩:=wN e;obtain ⟨L1,q',L2,e2,h2,hn2⟩:=List.findSome?_eq_some_iff.mp h;obtain ⟨j',hj,e3⟩:=Option.map_eq_some_iff.mp h2
  cases e3
  refine ⟨hi,fun i0 h0 q0 hq0=>?_,L1,L2,e2,fun q0 hq0=>mp.mp (hn2 q0 hq0),meet_some.mp hj⟩;have:=hn i0 (by rw[el];exact List.mem_range.mpr h0);rw[List.findSome?_eq_none_iff] at this;exact mp.mp (this q0 hq0)
 ·intro ⟨hi,h1,L1,L2,e2,h2,h3⟩
  refine ⟨List.range i,i,(List.range (tr.length - i - 1)).map (· + (i+1)),?_,?_,fun i0 h0=>?_⟩
  ·refine List.ext_getElem? fun t=>?_
   by_cases ht:t<tr.length
   ·rw[List.getElem?_range ht]
    rcases Nat.lt_trichotomy t i with c | c | c
    ·rw[List.getElem?_append_left (by simpa using c),List.getElem?_range c]
    ·subst c;rw[List.getElem?_append_right (by simp)];simp
    ·rw[List.getElem?_append_right (by simp;lia),List.length_range]
     obtain ⟨d,rfl⟩:∃ d,t=i+1+d:=⟨t - i - 1,by lia⟩
     rw[show i+1+d - i=d+1 by lia,List.getElem?_cons_succ,List.getElem?_map,List.getElem?_range (by lia)];simp;lia
   ·rw[List.getElem?_eq_none (by simpa using Nat.le_of_not_lt ht),List.getElem?_eq_none (by simp;lia)]
  ·refine List.findSome?_eq_some_iff.mpr ⟨L1,q,L2,e2,?_,fun q0 hq0=>mp.mpr (h2 q0 hq0)⟩
   rw[meet_some.mpr h3];rfl
  ·rw[List.findSome?_eq_none_iff]
   exact fun q0 hq0=>mp.mpr (h1 i0 (List.mem_range.mp h0) q0 hq0)
theorem yq{α:Type}{q:α}:∀ {A L B M:List α},q∉A->q∉L->A++q::B=L++q::M->A=L:=by
 intro A;induction A with
 |nil=>
  intro L B M _ hL e
  cases L with
  |nil=>rfl
  |cons x L=>simp only[List.nil_append,List.cons_append,List.cons.injEq] at e;exact absurd (by rw[e.1];exact List.mem_cons_self) hL
 |cons x A ih=>
  intro L B M hA hL e
  cases L with
  |nil=>simp only[List.nil_append,List.cons_append,List.cons.injEq] at e;exact absurd (by rw[e.1];exact List.mem_cons_self) hA
  |cons y L=>
   simp only[List.cons_append,List.cons.injEq] at e;rw[e.1,ih (fun m=>hA (List.mem_cons_of_mem _ m)) (fun m=>hL (List.mem_cons_of_mem _ m)) e.2]
theorem uG{tr tr':List (List (Int × Int))}{i j:Nat}{q:Int × Int}{A B C E:List (Int × Int)}(h:cw tr=some (i,q,j))(hl:tr'.length=tr.length)
    (hi:tr.getD i []=A++q::B) (hj:tr.getD j []=C++q::E) (hi':tr'.getD i []=A++q::E) (hj':tr'.getD j []=C++q::B) (ho:∀ k,k≠i->k≠j->tr'.getD k []=tr.getD k []) (nd:(tr.getD i []).Nodup):i<j/\cw tr'=some (i,q,j):=by
 obtain ⟨il,h1,L1,L2,e,h2,jl,hne,hq,h3⟩:=first_iff.mp h;have hij:i<j:=by
  rcases Nat.lt_trichotomy i j with c | c | c
  ·exact c
  ·exact absurd c.symm hne
  ·exact absurd (by rw[hi];simp) (h1 j c q hq i il (fun z=>hne z.symm))
 refine ⟨hij,first_iff.mpr ?_⟩;have qA:q∉A:=fun m=>by rw[hi,List.nodup_append] at nd;exact nd.2.2 q m q List.mem_cons_self rfl
 have qL:q∉L1:=fun m=>by rw[e,List.nodup_append] at nd;exact nd.2.2 q m q List.mem_cons_self rfl
 have hAL:A=L1:=yq qA qL (hi.symm.trans e);subst hAL;rw[hl];have sub (k:Nat) (q0:Int × Int) (m:q0∈tr'.getD k []):q0∈tr.getD k []\/((k=i\/k=j)/\(q0∈tr.getD i []\/q0∈tr.getD j [])):=by
  by_cases ki:k=i
  ·subst ki
   rw[hi'] at m;rcases List.mem_append.mp m with m | m
   ·exact .inl (by rw[hi];exact List.mem_append_left _ m)
   ·exact .inr ⟨.inl rfl,.inr (by rw[hj];exact List.mem_append_right _ m)⟩
  ·by_cases kj:k=j
   ·subst kj
    rw[hj'] at m;rcases List.mem_append.mp m with m | m
    ·exact .inl (by rw[hj];exact List.mem_append_left _ m)
    ·exact .inr ⟨.inr rfl,.inl (by rw[hi];exact List.mem_append_right _ m)⟩
   ·rw[ho k ki kj] at m;exact .inl m
 refine ⟨il,fun i0 h0 q0 hq0 k hk hne0 hm=>?_,A,E,hi',fun q0 hq0 k hk hne0 hm=>?_,jl,hne,by rw[hj'];simp,fun k hk hne0=>?_⟩
 ·rw[ho i0 (Nat.ne_of_lt h0) (by lia)] at hq0
  rcases sub k q0 hm with z | ⟨_,z | z⟩
  ·exact h1 i0 h0 q0 hq0 k hk hne0 z
  ·exact h1 i0 h0 q0 hq0 i il (by lia) z
  ·exact h1 i0 h0 q0 hq0 j jl (by lia) z
 ·by_cases kj:k=j
  ·subst kj
   rw[hj'] at hm;rcases List.mem_append.mp hm with m | m
   ·exact h2 q0 hq0 k hk hne0 (by rw[hj];exact List.mem_append_left _ m)
   ·rw[hi,List.nodup_append] at nd
    exact nd.2.2 q0 hq0 q0 m rfl
  ·rw[ho k hne0 kj] at hm
   exact h2 q0 hq0 k hk hne0 hm
 ·rw[ho k hne0 (Nat.ne_of_lt hk)]
  exact h3 k hk hne0
theorem qX{p:Parts}{s:Int}{x:Str}{ps:List (Int × Int)}{v:Int}(h:due p 0 s x=some (ps,v)){q:Int × Int}(hq:q∈trk p s x) :
    ∃ A B ps2 v1 v2,go p (a9 (fy x (cutN s q))) 0 s=some (A,v1)/\go p (a9 (gp x (cutN s q))) q.1 q.2=some (ps2,v2)/\aY (0,s) A=q/\v=v1*v2/\(0,s)::A=B++[q]/\trk p s x=B++q::ps2/\(fy x (cutN s q)).length=cutN s q/\cutN s q<=x.length/\ps=A++ps2:=by
 obtain ⟨h1,h2,h3⟩:=As h hq;have g:=(dE h).2;have e1:a9 (fy x (cutN s q))=(a9 x).take (cutN s q):=by unfold a9 fy;rw[List.map_take]
 have e2:a9 (gp x (cutN s q))=(a9 x).drop (cutN s q):=by unfold a9 gp;rw[List.map_drop]
 have g':=g;rw[<- List.take_append_drop (cutN s q) (a9 x)] at g';obtain ⟨ps1,v1,ps2,v2,g1,g2,e3,e4⟩:=yo _ _ g';have hlen:ps1.length=cutN s q:=by
  have:=(jU p _ _ _ _ _ g1).1;rw[List.length_take,gM] at this;lia
 have ht:trk p s x=(0,s)::(ps1++ps2):=by unfold trk;rw[h,e3]
 have hl:((0,s)::ps1)[cutN s q]?=some q:=by
  rw[ht,<- List.cons_append,List.getElem?_append_left (by simp[hlen])] at h1;exact h1
 obtain ⟨B,hB⟩:=uE (0,s) ps1;have he:aY (0,s) ps1=q:=by
  have:((0,s)::ps1)[cutN s q]?=some (aY (0,s) ps1):=by
   have hb:B.length=cutN s q:=by have:=congrArg List.length hB;simp at this;lia
   rw[hB,<- hb];simp
  rw[hl] at this;exact (Option.some.inj this).symm
 rw[he] at g2 hB;refine ⟨ps1,B,ps2,v1,v2,by rw[e1];exact g1,by rw[e2];exact g2,he,e4,hB,?_,?_,h3,e3⟩
 ·rw[ht,<- List.cons_append,hB,List.append_assoc];rfl
 ·have:(a9 (fy x (cutN s q))).length=cutN s q:=by rw[e1,List.length_take,gM];lia
  rw[gM] at this;exact this
def swX(p:Parts)(r:Row)(z:Nat × (Int × Int) × Nat):Str:=fy (rw0 r z.1) (cutN (st0 p z.1) z.2.1)++gp (rw0 r z.2.2) (cutN (st0 p z.2.2) z.2.1)
def swY(p:Parts)(r:Row)(z:Nat × (Int × Int) × Nat):Str:=fy (rw0 r z.2.2) (cutN (st0 p z.2.2) z.2.1)++gp (rw0 r z.1) (cutN (st0 p z.1) z.2.1)
def rk0(r:Row)(i:Nat):Nat:=(r.getD i ("", 0)).2
def swR(p:Parts)(r:Row)(z:Nat × (Int × Int) × Nat):Row:=(r.set z.1 (swX p r z,rk0 r z.2.2)).set z.2.2 (swY p r z,rk0 r z.1)
theorem fA(p:Parts)(r:Row)(z:Nat × (Int × Int) × Nat):(swR p r z).length=r.length:=by unfold swR;simp
theorem y6(p:Parts)(r:Row)(z:Nat × (Int × Int) × Nat):(swR p r z).map (·.1)=exW p r z:=by
 unfold swR exW swX swY;rw[List.map_set,List.map_set]
theorem pO(p:Parts)(r:Row)(z:Nat × (Int × Int) × Nat):(swR p r z).map (·.2)=((r.map (·.2)).set z.1 (rk0 r z.2.2)).set z.2.2 (rk0 r z.1):=by
 unfold swR;rw[List.map_set,List.map_set]
theorem ig(p:Parts)(r:Row)(i j:Nat)(q:Int × Int)(hi:i<r.length)(hj:j<r.length)(t:Nat):(swR p r (i,q,j))[t]?=if t=j then some (swY p r (i,q,j),rk0 r i) else if t=i then some (swX p r (i,q,j),rk0 r j) else r[t]?:=by
 unfold swR;dsimp only;rw[List.getElem?_set,List.length_set];by_cases e:t=j
 ·subst e;rw[if_pos rfl,if_pos hj,if_pos rfl]
 ·rw[if_neg (fun z=>e z.symm),if_neg e,List.getElem?_set]
  by_cases e2:t=i
  ·subst e2;rw[if_pos rfl,if_pos hi,if_pos rfl]
  ·rw[if_neg (fun z=>e2 z.symm),if_neg e2]
theorem getD_some{α:Type}{L:List α}{t:Nat}{a d:α}(h:L[t]?=some a):L.getD t d=a:=by rw[List.getD,h];rfl
theorem lD{r:Row}{t:Nat}{q:Str × Nat}(h:r[t]?=some q):rw0 r t=q.1/\rk0 r t=q.2:=by unfold rw0 rk0;rw[getD_some h];exact ⟨rfl,rfl⟩
theorem yr{L:List Nat}(h:L.Nodup){i j:Nat}{a b:Nat}(hij:i≠j)(hi:L[i]?=some a)(hj:L[j]?=some b):((L.set i b).set j a).Nodup:=by
 have il:=(List.getElem?_eq_some_iff.mp hi).1;have jl:=(List.getElem?_eq_some_iff.mp hj).1;have inj:∀ (x y:Nat) (c:Nat),L[x]?=some c->L[y]?=some c->x=y:=fun x y c hx hy=>by
  obtain ⟨xl,ex⟩:=List.getElem?_eq_some_iff.mp hx;obtain ⟨yl,ey⟩:=List.getElem?_eq_some_iff.mp hy;rcases Nat.lt_trichotomy x y with z | z | z
  ·exact absurd (ex.trans ey.symm) ((List.pairwise_iff_getElem.mp h) x y xl yl z)
  ·exact z
  ·exact absurd (ey.trans ex.symm) ((List.pairwise_iff_getElem.mp h) y x yl xl z)
 have at':∀ t,((L.set i b).set j a)[t]?=if t=j then some a else if t=i then some b else L[t]?:=fun t=>by
  rw[List.getElem?_set,List.length_set];by_cases e:t=j
  ·subst e;rw[if_pos rfl,if_pos jl,if_pos rfl]
  ·rw[if_neg (fun z=>e z.symm),if_neg e,List.getElem?_set]
   by_cases e2:t=i
   ·subst e2;rw[if_pos rfl,if_pos il,if_pos rfl]
   ·rw[if_neg (fun z=>e2 z.symm),if_neg e2]
 refine List.pairwise_iff_getElem.mpr fun x y xl yl hxy e=>?_;have hx:=at' x;have hy:=at' y;rw[List.getElem?_eq_getElem xl] at hx;rw[List.getElem?_eq_getElem yl,<- e] at hy;generalize ((L.set i b).set j a)[x]=c at hx hy;by_cases x1:x=j
 ·rw[if_pos x1] at hx
  cases hx
  by_cases y1:y=j
  ·lia
  ·rw[if_neg y1] at hy
   by_cases y2:y=i
   ·rw[if_pos y2] at hy
    cases hy
    exact hij (inj i j _ hi hj)
   ·rw[if_neg y2] at hy
    exact y2 (inj y i _ hy.symm hi)
 ·rw[if_neg x1] at hx
  by_cases x2:x=i
  ·rw[if_pos x2] at hx
   cases hx
   by_cases y1:y=j
   ·rw[if_pos y1] at hy
    cases hy
    exact hij (inj i j _ hi hj)
   ·rw[if_neg y1,if_neg (by lia)] at hy
    exact y1 (inj y j _ hy.symm hj)
  ·rw[if_neg x2] at hx
   by_cases y1:y=j
   ·rw[if_pos y1] at hy
    cases hy
    exact x2 (inj x i _ hx.symm hi)
   ·rw[if_neg y1] at hy
    by_cases y2:y=i
    ·rw[if_pos y2] at hy
     cases hy
     exact x1 (inj x j _ hx.symm hj)
    ·rw[if_neg y2] at hy
     have:=inj x y _ hx.symm hy.symm;lia
theorem jW{a b:Str}{c:Nat}(h:a.length=c):fy (a++b) c=a/\gp (a++b) c=b:=by
 have hl:a.cps.toList.length=c:=by rw[<- h];simp[Str.length]
 have e:(a++b).cps.toList=a.cps.toList++b.cps.toList:=by
  show (a.cps++b.cps).toList=_;rw[Array.toList_append]
 constructor
 ·unfold fy
  rw[e,List.take_left' hl]
 ·unfold gp
  rw[e,List.drop_left' hl]
theorem tu(x:Str)(c:Nat):fy x c++gp x c=x:=by
 unfold fy gp;show (⟨(x.cps.toList.take c).toArray++(x.cps.toList.drop c).toArray⟩:Str)=x
 cases x with
 |mk cps=>
 congr 1;apply Array.ext';simp
structure Sw (p:Parts) (r:Row) (i j:Nat) (q:Int × Int):Prop where
 hi:i<r.length
 hj:j<r.length
 lt:i<j
 ok:RowOk p p.starts (swR p r (i,q,j))
 first:cw (bU p (swR p r (i,q,j)))=some (i,q,j)
 back:exW p (swR p r (i,q,j)) (i,q,j)=r.map (·.1)
 wts:∃ a b c d:Int,wt p (st0 p i) (rw0 r i)=a*b/\wt p (st0 p j) (rw0 r j)=c*d/\wt p (st0 p i) (swX p r (i,q,j))=a*d/\wt p (st0 p j) (swY p r (i,q,j))=c*b
theorem lE{p:Parts}{s:Int}{x:Str}{ps:List (Int × Int)}{v:Int}(h:go p (a9 x) 0 s=some (ps,v)):wt p s x=v:=by unfold wt;rw[h]
theorem wO{p:Parts}{s:Int}{x:Str}{ps:List (Int × Int)}{v:Int}(o:On p 0 s)(h:go p (a9 x) 0 s=some (ps,v)):due p 0 s x=some (ps,v):=by unfold due;rw[if_pos (ins_on.mpr o)];exact h
theorem qY{m w:Nat}{p:Parts}(G:Good m w p)(h8:m<=8)(hw:w<=4){r:Row}(ok:RowOk p p.starts r){i j:Nat}{q:Int × Int}(hf:cw (bU p r)=some (i,q,j)):Sw p r i j q:=by
 obtain ⟨l1,l2,l3⟩:=gN G hw ok;have hlt:(bU p r).length=r.length:=by unfold bU;rw[List.length_map,l2]
 obtain ⟨hi,hj,hne,hqi,hqj⟩:=uF hf;rw[hlt] at hi hj;obtain ⟨zi,ti,si,psi,vi,di⟩:=gr G h8 ok hi;obtain ⟨zj,tj,sj,psj,vj,dj⟩:=gr G h8 ok hj;have hri:r[i]?=some (r.getD i ("", 0)):=by simp[List.getD,hi]
 have hrj:r[j]?=some (r.getD j ("", 0)):=by simp[List.getD,hj]
 obtain ⟨_,_,psi',vi',ei,di',hei,eni,bei⟩:=dO G h8 ok (List.mem_of_getElem? zi);obtain ⟨_,_,psj',vj',ej,dj',hej,enj,bej⟩:=dO G h8 ok (List.mem_of_getElem? zj);have di'':due p 0 (st0 p i) (rw0 r i)=some (psi',vi'):=di';have dj'':due p 0 (st0 p j) (rw0 r j)=some (psj',vj'):=dj';rw[di] at di'';rw[dj] at dj''
 cases di''
 cases dj''
 have hqi':=hqi;have hqj':=hqj;rw[ti] at hqi';rw[tj] at hqj';obtain ⟨Ai,Bi,Pi,a,b,ga,gb,eai,rfl,hBi,hTi,tli,cli,rfl⟩:=qX di hqi';obtain ⟨Aj,Bj,Pj,c,d,gc,gd,eaj,rfl,hBj,hTj,tlj,clj,rfl⟩:=qX dj hqj';have oi:=(dE di).1;have oj:=(dE dj).1;have gx:go p (a9 (swX p r (i,q,j))) 0 (st0 p i)=some (Ai++Pj,a*d):=by
  unfold swX;rw[mm];exact wM _ _ ga (by rw[eai];exact gd)
 have gy:go p (a9 (swY p r (i,q,j))) 0 (st0 p j)=some (Aj++Pi,c*b):=by
  unfold swY;rw[mm];exact wM _ _ gc (by rw[eaj];exact gb)
 have enx:aY (0,st0 p i) (Ai++Pj)=(((p.cols - 1:Nat):Int),ej):=by
  have enj':aY (0,st0 p j) (Aj++Pj)=(((p.cols - 1:Nat):Int),ej):=enj;rw[jm,eaj] at enj';rw[jm,eai];exact enj'
 have eny:aY (0,st0 p j) (Aj++Pi)=(((p.cols - 1:Nat):Int),ei):=by
  have eni':aY (0,st0 p i) (Ai++Pi)=(((p.cols - 1:Nat):Int),ei):=eni;rw[jm,eai] at eni';rw[jm,eaj];exact eni'
 have ok':RowOk p p.starts (swR p r (i,q,j)):=by
  refine ⟨by rw[fA];exact ok.l,?_,fun z hz=>?_⟩
  ·rw[pO]
   refine yr ok.n (fun e=>hne e.symm) ?_ ?_
   ·rw[List.getElem?_map,hri];rfl
   ·rw[List.getElem?_map,hrj];rfl
  ·obtain ⟨t,ht⟩:=List.mem_iff_getElem?.mp hz
   obtain ⟨h1,h2⟩:=List.getElem?_zip_eq_some.mp ht;rw[ig p r i j q hi hj] at h2;by_cases e:t=j
   ·subst e
    rw[if_pos rfl] at h2;have e2:=Option.some.inj h2;have e1:z.1=st0 p t:=by unfold st0;rw[getD_some h1]
    rw[e1,<- e2];exact ⟨ei,hei,tq G _ _ oj.2.1 oj.2.2 gy eny⟩
   ·rw[if_neg e] at h2
    by_cases e3:t=i
    ·subst e3
     rw[if_pos rfl] at h2;have e2:=Option.some.inj h2;have e1:z.1=st0 p t:=by unfold st0;rw[getD_some h1]
     rw[e1,<- e2];exact ⟨ej,hej,tq G _ _ oi.2.1 oi.2.2 gx enx⟩
    ·rw[if_neg e3] at h2
     exact ok.a z (List.mem_of_getElem? (List.getElem?_zip_eq_some.mpr ⟨h1,h2⟩))
 have hlt':(bU p (swR p r (i,q,j))).length=(bU p r).length:=by
  unfold bU;rw[List.length_map,List.length_map,List.length_zip,List.length_zip,fA]
 have rxi:rw0 (swR p r (i,q,j)) i=swX p r (i,q,j):=(lD (by rw[ig p r i j q hi hj,if_neg (fun e=>hne e.symm),if_pos rfl])).1;have rxj:rw0 (swR p r (i,q,j)) j=swY p r (i,q,j):=(lD (by rw[ig p r i j q hi hj,if_pos rfl])).1;have hi':i<(swR p r (i,q,j)).length:=by rw[fA];exact hi
 have hj':j<(swR p r (i,q,j)).length:=by rw[fA];exact hj
 have ti':(bU p (swR p r (i,q,j))).getD i []=Bi++q::Pj:=by
  rw[(gr G h8 ok' hi').2.1,rxi];unfold trk;rw[wO oi gx];show (0,st0 p i)::(Ai++Pj)=_;rw[<- List.cons_append,hBi,List.append_assoc];rfl
 have tj':(bU p (swR p r (i,q,j))).getD j []=Bj++q::Pi:=by
  rw[(gr G h8 ok' hj').2.1,rxj];unfold trk;rw[wO oj gy];show (0,st0 p j)::(Aj++Pi)=_;rw[<- List.cons_append,hBj,List.append_assoc];rfl
 have hk:=uG hf hlt' (ti.trans hTi) (tj.trans hTj) ti' tj' (fun k k1 k2=>by
  by_cases hkl:k<r.length
  ·rw[(gr G h8 ok hkl).2.1,(gr G h8 ok' (by rw[fA];exact hkl)).2.1]
   have:rw0 (swR p r (i,q,j)) k=rw0 r k:=by
    unfold rw0
    rw[List.getD,List.getD,ig p r i j q hi hj,if_neg k2,if_neg k1]
   rw[this]
  ·rw[List.getD,List.getD,List.getElem?_eq_none (by rw[hlt',hlt];lia),List.getElem?_eq_none (by rw[hlt];lia)]) (by rw[ti];exact ph di)
 refine ⟨hi,hj,hk.1,ok',hk.2,?_,a,b,c,d,lE (dE di).2,lE (dE dj).2,lE gx,lE gy⟩;unfold exW;dsimp only;rw[rxi,rxj];unfold swX swY;dsimp only;rw[(jW tli).1,(jW tli).2,(jW tlj).1,(jW tlj).2,tu,tu];refine List.ext_getElem? fun t=>?_;have hw1:(swR p r (i,q,j)).map (·.1)=exW p r (i,q,j):=y6 p r (i,q,j);rw[List.getElem?_set,List.length_set,List.length_map,fA];by_cases e:j=t
 ·subst e
  rw[if_pos rfl,if_pos hj,List.getElem?_map,hrj];rfl
 ·rw[if_neg e,List.getElem?_set,List.length_map,fA]
  by_cases e2:i=t
  ·subst e2
   rw[if_pos rfl,if_pos hi,List.getElem?_map,hri];rfl
  ·rw[if_neg e2,List.getElem?_map,List.getElem?_map,ig p r i j q hi hj,if_neg (fun z=>e z.symm),if_neg (fun z=>e2 z.symm)]
theorem y7{m w:Nat}{p:Parts}(G:Good m w p)(ls:List Str):∀ {x y:Int} {ps:List (Int × Int)} {v:Int},On p x y->go p ls x y=some (ps,v)->0<=v/\v<=1000 ^ ls.length:=by
 induction ls with
 |nil=>intro x y ps v o h;obtain ⟨_,rfl⟩:=iY h;decide
 |cons l ls ih=>
  intro x y ps v o h;obtain ⟨h0,qs,u,hg,_,rfl⟩:=iX h;have i:=ih (jC G o l h0) hg;have s:=iW G o l;refine ⟨Int.mul_nonneg s.1 i.1,?_⟩;rw[List.length_cons,Int.pow_succ,Int.mul_comm (1000 ^ ls.length)];exact Int.mul_le_mul s.2 i.2 i.1 (by decide)
def Ez(ks:List Int)(l:Nat)(t:Int)(e:Nat):Int:=if ks.getD l 0<ks.getD e 0 then -t else t
def cj(ks:List Int):Int:=(List.range ks.length).foldl (fun t l=>(List.range l).foldl (Ez ks l) t) 1
theorem kO{b:Nat}{v:Int}(h:v.natAbs<2 ^ b)(hb:b<=4000):v.natAbs<ii:=Nat.lt_of_lt_of_le h (Nat.pow_le_pow_right (by decide) hb)
theorem wP{i j:Int}(h1:i.natAbs<ii)(h2:j.natAbs<ii):jN (.int i) (.int j)=.ok (.int (i*j)):=by
 unfold jN gI;simp only;rw[if_pos (by rw[Bool.and_eq_true,decide_eq_true_eq,decide_eq_true_eq];exact ⟨h1,h2⟩)]
def c9(p:Parts)(r:Row):Int:=(p.starts.zip r).foldl (fun t q=>t*wt p q.1 q.2.1) 1
theorem first_none{tr:List (List (Int × Int))}:cw tr=none ↔ ∀ i<tr.length,∀ q∈tr.getD i [],∀ k<tr.length,k≠i->q∉tr.getD k []:=by
 unfold cw;rw[List.findSome?_eq_none_iff];constructor
 ·intro h i hi q hq
  have:=h i (List.mem_range.mpr hi);rw[List.findSome?_eq_none_iff] at this;have:=this q hq;rw[Option.map_eq_none_iff,kN] at this;exact this
 ·intro h i hi
  rw[List.findSome?_eq_none_iff];intro q hq;rw[Option.map_eq_none_iff,kN];exact h i (List.mem_range.mp hi) q hq
theorem fT{α:Type}{L:List α}{i:Nat}{d:α}(h:i<L.length):L.getD i d=L[i]:=by simp[List.getD,h]
theorem yt{tr:List (List (Int × Int))}(h:∀ T∈tr,T.Nodup):tr.flatten.Nodup ↔ cw tr=none:=by
 rw[first_none];unfold List.Nodup;rw[List.pairwise_flatten];constructor
 ·intro ⟨_,h2⟩ i hi q hq k hk hne hq2
  rw[fT hi] at hq;rw[fT hk] at hq2;rcases Nat.lt_trichotomy i k with c | c | c
  ·exact (List.pairwise_iff_getElem.mp h2) i k hi hk c q hq q hq2 rfl
  ·exact hne c.symm
  ·exact (List.pairwise_iff_getElem.mp h2) k i hk hi c q hq2 q hq rfl
 ·intro h2
  refine ⟨h,List.pairwise_iff_getElem.mpr fun i k hi hk hik x hx y hy e=>?_⟩;subst e;exact h2 i hi x (by rw[fT hi];exact hx) k hk (by lia) (by rw[fT hk];exact hy)
theorem uH{m w:Nat}{p:Parts}(G:Good m w p)(h8:m<=8){r:Row}(ok:RowOk p p.starts r):∀ T∈bU p r,T.Nodup:=by
 intro T hT;unfold bU at hT;obtain ⟨q,hq,rfl⟩:=List.mem_map.mp hT;obtain ⟨h1,h2,ps,v,e,h3,_⟩:=dO G h8 ok hq;exact ph h3
theorem wQ{m w:Nat}{p:Parts}(G:Good m w p)(hw:w<=4){r:Row}(ok:RowOk p p.starts r):∀ k∈r.map (·.2),k<r.length:=by
 intro k hk;obtain ⟨z,hz,rfl⟩:=List.mem_map.mp hk;obtain ⟨t,ht⟩:=List.mem_iff_getElem?.mp hz;obtain ⟨l1,l2,l3⟩:=gN G hw ok;have htl:=(List.getElem?_eq_some_iff.mp ht).1;have hs:p.starts[t]?=some (p.starts[t]'(by rw[<- ok.l];exact htl)):=List.getElem?_eq_getElem _;obtain ⟨e,he,_⟩:=ok.a (_,z) (List.mem_of_getElem? (List.getElem?_zip_eq_some.mpr ⟨hs,ht⟩));have:=(List.getElem?_eq_some_iff.mp he).1
 have:=(bL G).2.1;rw[ok.l];lia
def bD(ks:List Nat):List Int:=ks.map fun (k:Nat)=>(k:Int)
theorem fU(r:Row):(r.map fun q=>(q.2:Int))=bD (r.map (·.2)):=by unfold bD;rw[List.map_map];rfl
def swK(ks:List Nat)(i j:Nat):List Nat:=(ks.set i (ks.getD j 0)).set j (ks.getD i 0)
def CC:Bool:=(List.range 4).all fun a=>(List.range 4).all fun b=>(decide (a=b))||(List.range 2).all fun i=>(List.range 2).all fun j=>(!decide (i<j))||decide (cj (bD (swK [a,b] i j))=- cj (bD [a,b]))
theorem DN(a:Nat)(ha:a<4)(b:Nat)(hb:b<4)(n:a≠b)(i:Nat)(hi:i<2)(j:Nat)(hj:j<2)(hij:i<j):cj (bD (swK [a,b] i j))=- cj (bD [a,b]):=by
 have h:CC=true:=by decide +kernel
 unfold CC at h;simp only[List.all_eq_true,List.mem_range,Bool.or_eq_true,decide_eq_true_eq,Bool.not_eq_true',decide_eq_false_iff_not] at h;rcases h a ha b hb with z | z
 ·lia
 ·rcases z i hi j hj with y | y
  ·exact absurd hij y
  ·exact y
def CD:Bool:=(List.range 4).all fun a=>(List.range 4).all fun b=>(List.range 4).all fun c=>(decide (a=b)||decide (a=c)||decide (b=c))||(List.range 3).all fun i=>(List.range 3).all fun j=>(!decide (i<j))||decide (cj (bD (swK [a,b,c] i j))=- cj (bD [a,b,c]))
theorem DO(a:Nat)(ha:a<4)(b:Nat)(hb:b<4)(c:Nat)(hc:c<4)(n:a≠b/\a≠c/\b≠c)(i:Nat)(hi:i<3)(j:Nat)(hj:j<3)(hij:i<j):cj (bD (swK [a,b,c] i j))=- cj (bD [a,b,c]):=by
 have h:CD=true:=by decide +kernel
 unfold CD at h;simp only[List.all_eq_true,List.mem_range,Bool.or_eq_true,decide_eq_true_eq,Bool.not_eq_true',decide_eq_false_iff_not] at h;rcases h a ha b hb c hc with z | z
 ·lia
 ·rcases z i hi j hj with y | y
  ·exact absurd hij y
  ·exact y
def CF:Bool:=(List.range 4).all fun a=>(List.range 4).all fun b=>(List.range 4).all fun c=>(List.range 4).all fun d=>(decide (a=b)||decide (a=c)||decide (a=d)||decide (b=c)||decide (b=d)||decide (c=d))||(List.range 4).all fun i=>(List.range 4).all fun j=>(!decide (i<j))||decide (cj (bD (swK [a,b,c,d] i j))=- cj (bD [a,b,c,d]))
theorem DP(a:Nat)(ha:a<4)(b:Nat)(hb:b<4)(c:Nat)(hc:c<4)(d:Nat)(hd:d<4)(n:a≠b/\a≠c/\a≠d/\b≠c/\b≠d/\c≠d)(i:Nat)(hi:i<4)(j:Nat)(hj:j<4)(hij:i<j):cj (bD (swK [a,b,c,d] i j))=- cj (bD [a,b,c,d]):=by
 have h:CF=true:=by decide +kernel
 unfold CF at h;simp only[List.all_eq_true,List.mem_range,Bool.or_eq_true,decide_eq_true_eq,Bool.not_eq_true',decide_eq_false_iff_not] at h;rcases h a ha b hb c hc d hd with z | z
 ·lia
 ·rcases z i hi j hj with y | y
  ·exact absurd hij y
  ·exact y
theorem DQ(ks:List Nat)(hl:ks.length<=4)(hk:∀ k∈ks,k<4)(n:ks.Nodup){i j:Nat}(hij:i<j)(hj:j<ks.length):cj (bD (swK ks i j))=- cj (bD ks):=by
 match ks,hl,hk,n,hj with
 | [],_,_,_,hj=>simp at hj
 | [a],_,_,_,hj=>simp at hj;lia
 | [a,b],_,hk,n,hj=>exact DN a (hk a (by simp)) b (hk b (by simp)) (by simpa using n) i (by simp at hj;lia) j hj hij
 | [a,b,c],_,hk,n,hj=>exact DO a (hk a (by simp)) b (hk b (by simp)) c (hk c (by simp)) (by simp at n;lia) i (by simp at hj;lia) j hj hij
 | [a,b,c,d],_,hk,n,hj=>exact DP a (hk a (by simp)) b (hk b (by simp)) c (hk c (by simp)) d (hk d (by simp)) (by simp at n;lia) i (by simp at hj;lia) j hj hij
 |a::b::c::d::e::ks,hl,_,_,_=>simp at hl
theorem yu{m w:Nat}{p:Parts}(G:Good m w p)(hw:w<=4){r:Row}(ok:RowOk p p.starts r){i j:Nat}{q:Int × Int}(S:Sw p r i j q):cj ((swR p r (i,q,j)).map fun z=>(z.2:Int))=- cj (r.map fun z=>(z.2:Int)):=by
 obtain ⟨l1,l2,l3⟩:=gN G hw ok;rw[fU,fU,pO];have:=DQ (r.map (·.2)) (by rw[List.length_map];exact l1) (fun k hk=>Nat.lt_of_lt_of_le (wQ G hw ok k hk) l1) ok.n S.lt (by rw[List.length_map];exact S.hj);unfold swK at this;have e1:(r.map (·.2)).getD j 0=rk0 r j:=by unfold rk0;simp[List.getD,S.hj]
 have e2:(r.map (·.2)).getD i 0=rk0 r i:=by unfold rk0;simp[List.getD,S.hi]
 rw[e1,e2] at this;exact this
theorem Av(L:List Int)(hl:L.length<=4){i j:Nat}(hij:i<j)(hj:j<L.length){a b c d:Int}(h1:L.getD i 0=a*b)(h2:L.getD j 0=c*d):((L.set i (a*d)).set j (c*b)).foldl (· * ·) 1=L.foldl (· * ·) 1:=by
 match L,hl,hj with
 | [],_,hj=>simp at hj
 | [x],_,hj=>simp at hj;lia
 | [x,y],_,hj=>
  simp at hj;obtain ⟨rfl,rfl⟩:i=0/\j=1:=by lia
  have h1:x=a*b:=h1;have h2:y=c*d:=h2;subst h1 h2;show 1*(a*d)*(c*b)=1*(a*b)*(c*d);ac_rfl
 | [x,y,z],_,hj=>
  simp at hj;obtain (⟨rfl,rfl⟩ | ⟨rfl,rfl⟩ | ⟨rfl,rfl⟩):(i=0/\j=1)\/(i=0/\j=2)\/(i=1/\j=2):=by lia
  ·have h1:x=a*b:=h1
   have h2:y=c*d:=h2;subst h1 h2;show 1*(a*d)*(c*b)*z=1*(a*b)*(c*d)*z;ac_rfl
  ·have h1:x=a*b:=h1
   have h2:z=c*d:=h2;subst h1 h2;show 1*(a*d)*y*(c*b)=1*(a*b)*y*(c*d);ac_rfl
  ·have h1:y=a*b:=h1
   have h2:z=c*d:=h2;subst h1 h2;show 1*x*(a*d)*(c*b)=1*x*(a*b)*(c*d);ac_rfl
 | [x,y,z,u],_,hj=>
  simp at hj;obtain (⟨rfl,rfl⟩ | ⟨rfl,rfl⟩ | ⟨rfl,rfl⟩ | ⟨rfl,rfl⟩ | ⟨rfl,rfl⟩ | ⟨rfl,rfl⟩):(i=0/\j=1)\/(i=0/\j=2)\/(i=1/\j=2)\/(i=0/\j=3)\/(i=1/\j=3)\/(i=2/\j=3):=by lia
  ·have h1:x=a*b:=h1
   have h2:y=c*d:=h2;subst h1 h2;show 1*(a*d)*(c*b)*z*u=1*(a*b)*(c*d)*z*u;ac_rfl
  ·have h1:x=a*b:=h1
   have h2:z=c*d:=h2;subst h1 h2;show 1*(a*d)*y*(c*b)*u=1*(a*b)*y*(c*d)*u;ac_rfl
  ·have h1:y=a*b:=h1
   have h2:z=c*d:=h2;subst h1 h2;show 1*x*(a*d)*(c*b)*u=1*x*(a*b)*(c*d)*u;ac_rfl
  ·have h1:x=a*b:=h1
   have h2:u=c*d:=h2;subst h1 h2;show 1*(a*d)*y*z*(c*b)=1*(a*b)*y*z*(c*d);ac_rfl
  ·have h1:y=a*b:=h1
   have h2:u=c*d:=h2;subst h1 h2;show 1*x*(a*d)*z*(c*b)=1*x*(a*b)*z*(c*d);ac_rfl
  ·have h1:z=a*b:=h1
   have h2:u=c*d:=h2;subst h1 h2;show 1*x*y*(a*d)*(c*b)=1*x*y*(a*b)*(c*d);ac_rfl
 |a::b::c::d::e::ks,hl,_=>simp at hl
def wtL(p:Parts)(r:Row):List Int:=(p.starts.zip r).map fun q=>wt p q.1 q.2.1
theorem qZ(p:Parts)(r:Row):c9 p r=(wtL p r).foldl (· * ·) 1:=by unfold c9 wtL;rw[List.foldl_map]
theorem ny{m w:Nat}{p:Parts}(G:Good m w p)(h8:m<=8){r:Row}(ok:RowOk p p.starts r){t:Nat}(ht:t<r.length):(wtL p r)[t]?=some (wt p (st0 p t) (rw0 r t)):=by
 unfold wtL;rw[List.getElem?_map,(gr G h8 ok ht).1];rfl
theorem wR{m w:Nat}{p:Parts}(G:Good m w p)(h8:m<=8)(hw:w<=4){r:Row}(ok:RowOk p p.starts r){i j:Nat}{q:Int × Int}(S:Sw p r i j q):c9 p (swR p r (i,q,j))=c9 p r:=by
 obtain ⟨l1,l2,l3⟩:=gN G hw ok;obtain ⟨a,b,c,d,w1,w2,w3,w4⟩:=S.wts;have hl:(wtL p r).length=r.length:=by unfold wtL;rw[List.length_map,l2]
 rw[qZ,qZ,<- Av (wtL p r) (by rw[hl];exact l1) S.lt (by rw[hl];exact S.hj) (getD_some (by rw[ny G h8 ok S.hi,w1])) (getD_some (by rw[ny G h8 ok S.hj,w2]))];congr 1;refine List.ext_getElem? fun t=>?_;rw[List.getElem?_set,List.length_set,hl];have hij:=S.lt;by_cases ht:t<r.length
 ·rw[ny G h8 S.ok (by rw[fA];exact ht)]
  have hat:=ig p r i j q S.hi S.hj t;by_cases e:j=t
  ·subst e
   rw[if_pos rfl,if_pos S.hj];rw[if_pos rfl] at hat;rw[(lD hat).1,w4]
  ·rw[if_neg e,List.getElem?_set,hl]
   rw[if_neg (fun z=>e z.symm)] at hat;by_cases e2:i=t
   ·subst e2
    rw[if_pos rfl,if_pos S.hi];rw[if_pos rfl] at hat;rw[(lD hat).1,w3]
   ·rw[if_neg e2,ny G h8 ok ht]
    rw[if_neg (fun z=>e2 z.symm)] at hat;have:rw0 (swR p r (i,q,j)) t=rw0 r t:=by unfold rw0;rw[List.getD,List.getD,hat]
    rw[this]
 ·have h1:(wtL p (swR p r (i,q,j)))[t]?=none:=by
     refine List.getElem?_eq_none ?_;unfold wtL;rw[List.length_map,List.length_zip,fA];have:=ok.l;lia
  have:=S.hj;rw[h1,if_neg (by lia),List.getElem?_set,if_neg (by lia),List.getElem?_eq_none (by lia)]
theorem uI(L:List Nat)(hl:L.length<=4)(h1:L.Pairwise (· < ·))(h2:∀ k∈L,k<L.length):L=List.range L.length:=by
 match L,hl with
 | [],_=>rfl
 | [a],_=>
  have:=h2 a (by simp);simp at this;subst this;rfl
 | [a,b],_=>
  have e2:=h2 b (by simp);simp at h1 e2;obtain ⟨rfl,rfl⟩:a=0/\b=1:=by lia
  rfl
 | [a,b,c],_=>
  have e3:=h2 c (by simp);simp at h1 e3;obtain ⟨rfl,rfl,rfl⟩:a=0/\b=1/\c=2:=by lia
  rfl
 | [a,b,c,d],_=>
  have e3:=h2 d (by simp);simp at h1 e3;obtain ⟨rfl,rfl,rfl,rfl⟩:a=0/\b=1/\c=2/\d=3:=by lia
  rfl
 |a::b::c::d::e::ks,hl=>simp at hl
theorem wS{L:List Int}(h:L.Pairwise (· < ·)){i j:Nat}{a b:Int}(hi:L[i]?=some a)(hj:L[j]?=some b):(i<j->a<b)/\(a<b->i<j):=by
 obtain ⟨il,ia⟩:=List.getElem?_eq_some_iff.mp hi;obtain ⟨jl,ja⟩:=List.getElem?_eq_some_iff.mp hj;constructor
 ·intro hij
  have:=(List.pairwise_iff_getElem.mp h) i j il jl hij;rw[ia,ja] at this;exact this
 ·intro hab
  rcases Nat.lt_trichotomy i j with c | c | c
  ·exact c
  ·subst c;rw[ia] at ja;lia
  ·have:=(List.pairwise_iff_getElem.mp h) j i jl il c
   rw[ia,ja] at this;lia
theorem Aw{m w:Nat}{p:Parts}(G:Good m w p)(h8:m<=8)(hw:w<=4){r:Row}(ok:RowOk p p.starts r)(hl:cw (bU p r)=none):r.map (·.2)=List.range r.length:=by
 obtain ⟨l1,l2,l3⟩:=gN G hw ok;obtain ⟨n,n1,n2,rs,re⟩:=G.many;have hlt:(bU p r).length=r.length:=by unfold bU;rw[List.length_map,l2]
 have key:=uI (r.map (·.2)) (by rw[List.length_map];exact l1) ?_ (by rw[List.length_map];exact wQ G hw ok)
 ·rw[List.length_map] at key;exact key
 ·refine List.pairwise_iff_getElem.mpr fun i j hi hj hij=>?_
  rw[List.length_map] at hi hj;obtain ⟨zi,ti,_,_⟩:=gr G h8 ok hi;obtain ⟨zj,tj,_,_⟩:=gr G h8 ok hj;obtain ⟨_,_,psi,vi,ei,di,ki,ni,_⟩:=dO G h8 ok (List.mem_of_getElem? zi);obtain ⟨_,_,psj,vj,ej,dj,kj,nj,_⟩:=dO G h8 ok (List.mem_of_getElem? zj);have di:due p 0 (st0 p i) (rw0 r i)=some (psi,vi):=di;have dj:due p 0 (st0 p j) (rw0 r j)=some (psj,vj):=dj;have ss:st0 p i<st0 p j:=by
   have hsi:p.starts[i]?=some (st0 p i):=by unfold st0;simp[List.getD,show i<p.starts.length by rw[<- ok.l];exact hi]
   have hsj:p.starts[j]?=some (st0 p j):=by unfold st0;simp[List.getD,show j<p.starts.length by rw[<- ok.l];exact hj]
   exact (wS rs.asc hsi hsj).1 hij
  have ti2:trk p (st0 p i) (rw0 r i)=(0,st0 p i)::psi:=by unfold trk;rw[di]
  have tj2:trk p (st0 p j) (rw0 r j)=(0,st0 p j)::psj:=by unfold trk;rw[dj]
  have he:=yp ((a9 (rw0 r i)).length+(a9 (rw0 r j)).length) _ _ (Nat.le_refl _) (dE di).2 (dE dj).2 ss ni nj (fun q hq hq'=>by
   rw[<- ti2,<- ti] at hq
   rw[<- tj2,<- tj] at hq'
   exact (first_none.mp hl) i (by rw[hlt];exact hi) q hq j (by rw[hlt];exact hj) (by lia) hq')
  have:=(wS re.asc ki kj).2 he;rw[List.getElem_map,List.getElem_map];have e1:r.getD i ("", 0)=r[i]:=fT hi;have e2:r.getD j ("", 0)=r[j]:=fT hj;rw[e1,e2] at this;exact this
def upW(p:Parts)(y x:Nat):Int:=(p.up.getD y []).getD x 0
def rtW(p:Parts)(y x:Nat):Int:=(p.right.getD y []).getD x 0
def dG(p:Parts)(x:Nat)(arr:List Int):Nat->Int
 | 0=>arr.getD 0 0
 |y+1=>arr.getD (y+1) 0+dG p x arr y*upW p y x
def eE(p:Parts)(x:Nat)(arr:List Int):List Int:=(List.range p.rows).map (dG p x arr)
theorem ow{fa:ae->Res (List D)}{ρ:ae}{i n:Nat}(h:fa ρ=.ok [.int (i:Int),.int ((i+n:Nat):Int)])(hn:i+n<1000):iK fa ρ=.ok (aD (i:Int) n):=by
 unfold iK;rw[h,bok];show (if _ then _ else _)=_;rw[if_pos (by simp only[Bool.and_eq_true,decide_eq_true_eq];omega)];congr 2;omega
theorem EA(xs:List Int)(k:Nat)(h:k<xs.length):dIx (.lst .b (xs.map D.int)) (.int (k:Int))=.ok (.int (xs.getD k 0)):=by
 have:=dS (t:=.b) xs (k:Int) (by omega) (by omega);simpa using this
theorem rf(xs:List Int)(k:Nat)(h:k<xs.length):dIx (.lst .f (xs.map D.int)) (.int (k:Int))=.ok (.int (xs.getD k 0)):=by
 have:=dS (t:=.f) xs (k:Int) (by omega) (by omega);simpa using this
theorem y8(g:List (List Int))(k:Nat)(h:k<g.length):dIx (.lst .f (ai .f g)) (.int (k:Int))=.ok (.lst .f ((g.getD k []).map D.int)):=by
 have:=lC g (k:Int) (by omega) (by omega);simpa using this
def stC(a:Ads)(p:Parts)(x:Nat)(arr sums:List Int)(e:Option D):ae:=[some (bM a p),some (.int (x:Int)),some (.lst .f (arr.map D.int)),some (.lst .o (sums.map D.int)),e]
abbrev gbC(a:Ads):ae->FOut:=cZ 3 (f2 aL (f2 dIx (ad 2) (ad 4)) (f2 bB (f2 dIx (ad 3) (f2 cR (ad 4) (fC (.int 1)))) (f2 dIx (f2 dIx (f1 (ci a.Net "up") (ad 0)) (f2 cR (ad 4) (fC (.int 1)))) (ad 1))))
theorem eo(f:Nat->Int)(n k:Nat)(h:k<n):((List.range n).map f).getD k 0=f k:=by
 simp[List.getD,h]
theorem CG{m w:Nat}{p:Parts}(G:Good m w p)(y x:Nat):0<=upW p y x/\upW p y x<=1000:=by
 unfold upW;by_cases h:y+1<p.rows
 ·have:=nc G (y:Int) (by omega) (by omega)
  exact jB (by simpa using this.2) _
 ·have:p.up.getD y []=[]:=by have:=G.ul;simp[List.getD,List.getElem?_eq_none (show p.up.length<=y by omega)]
  rw[this];simp
theorem CH{m w:Nat}{p:Parts}(G:Good m w p)(y x:Nat):0<=rtW p y x/\rtW p y x<=1000:=by
 unfold rtW;by_cases h:y<p.rows
 ·have:=hZ G (y:Int) (by omega) (by omega)
  exact jB (by simpa using this.2) _
 ·have:p.right.getD y []=[]:=by have:=G.rl;simp[List.getD,List.getElem?_eq_none (show p.right.length<=y by omega)]
  rw[this];simp
theorem uJ(a:Ads){m w:Nat}{p:Parts}(G:Good m w p)(h8:m<=8)(x:Nat)(hx:x<p.cols)(arr:List Int)(ha:arr.length=p.rows)(i:Nat)(hi:i+1<p.rows) :
    gbC a (stC a p x arr ((List.range (i+1)).map (dG p x arr)) (some (.int (1+(i:Int)))))=.nx (stC a p x arr ((List.range (i+2)).map (dG p x arr)) (some (.int (1+(i:Int))))):=by
 have r1:=G.r1;have e1:dIx (.lst .f (arr.map D.int)) (.int (1+(i:Int)))=.ok (.int (arr.getD (i+1) 0)):=by
  have:=rf arr (i+1) (by omega);rwa [show (((i+1:Nat)):Int)=1+(i:Int) by omega] at this
 have e2:dIx (.lst .b (((List.range (i+1)).map (dG p x arr)).map D.int)) (.int (1+(i:Int) - 1))=.ok (.int (dG p x arr i)):=by
  rw[show (1+(i:Int) - 1)=(i:Int) by omega,EA _ i (by simp),eo _ _ _ (by omega)]
 have e3:dIx (.lst .f (ai .f p.up)) (.int (1+(i:Int) - 1))=.ok (.lst .f ((p.up.getD i []).map D.int)):=by
  rw[show (1+(i:Int) - 1)=(i:Int) by omega];exact y8 p.up i (by have:=G.ul;omega)
 have e4:dIx (.lst .f ((p.up.getD i []).map D.int)) (.int (x:Int))=.ok (.int (upW p i x)):=by
  have:=nc G (i:Int) (by omega) (by omega);exact rf _ x (by have:=this.1;simp at this;simp;omega)
 have hu:=CG G i x;have hm:bB (.int (dG p x arr i)) (.int (upW p i x))=.ok (.int (dG p x arr i*upW p i x)):=jQ _ _ (by omega);refine m8 (xs:=((List.range (i+1)).map (dG p x arr)).map D.int) (d:=.int (arr.getD (i+1) 0+dG p x arr i*upW p i x)) rfl ?_ (fun z=>nomatch z) (by simp;omega) ?_
 ·unfold stC;(repeat' first|(with_reducible first|apply e1|apply e2|apply e3|apply e4|apply hm|apply yZ)|sizeOf_list_dec)
 ·show _=stC _ _ _ _ _ _
  unfold stC;rw[List.range_succ (n:=i+1),List.map_append,List.map_append];rfl
theorem nz(a:Ads){m w:Nat}{p:Parts}(G:Good m w p)(h8:m<=8)(x:Nat)(hx:x<p.cols)(arr:List Int)(ha:arr.length=p.rows):∀ (n i:Nat) (e:Option D),i+1+n=p.rows →
    ∃ e',bo (au 4) (gbC a) ((List.range' i n).map fun (j:Nat)=>D.int (1+(j:Int))) (stC a p x arr ((List.range (i+1)).map (dG p x arr)) e)=.nx (stC a p x arr (eE p x arr) e')
 | 0,i,e,h=>⟨e,by unfold eE;rw[<- h];rfl⟩
 |n+1,i,e,h=>by
  obtain ⟨e',ih⟩:=nz a G h8 x hx arr ha n (i+1) (some (.int (1+(i:Int)))) (by omega);refine ⟨e',?_⟩;rw[List.range'_succ,List.map_cons];exact bf (dX (by show 4<5;decide) rfl) (uJ a G h8 x hx arr ha i (by omega)) ih
theorem tw(a:Ads){m w:Nat}{p:Parts}(G:Good m w p)(h8:m<=8)(x:Nat)(hx:x<p.cols)(arr:List Int)(ha:arr.length=p.rows):eV a [bM a p,.int (x:Int),.lst .f (arr.map D.int)]=.ok (.lst .o ((eE p x arr).map D.int)):=by
 have r1:=G.r1;obtain ⟨n,hn⟩:∃ n,p.rows=1+n:=⟨p.rows - 1,by omega⟩
 obtain ⟨e',lp⟩:=nz a G h8 x hx arr ha n 0 none (by omega);have e0:dIx (.lst .f (arr.map D.int)) (.int 0)=.ok (.int (arr.getD 0 0)):=rf arr 0 (by omega);have hr:aD ((1:Nat):Int) n=(List.range' 0 n).map fun (j:Nat)=>D.int (1+(j:Int)):=by rw[aD,List.range_eq_range'];rfl
 refine dW (ρ:=[some (bM a p),some (.int (x:Int)),some (.lst .f (arr.map D.int)),none,none]) rfl ?_;unfold oU;refine aB (ρ':=stC a p x arr ((List.range (0+1)).map (dG p x arr)) none) ?_ (aB (bE (items:=aD ((1:Nat):Int) n) (ow ?_ (by omega)) (by rw[hr];exact lp)) rfl)
 ·show _=FOut.nx [some (bM a p),some (.int (x:Int)),some (.lst .f (arr.map D.int)),some (.lst .o [.int (arr.getD 0 0)]),none]
  (repeat' first|(with_reducible first|apply e0)|sizeOf_list_dec)
 ·show _=Res.ok [D.int 1,D.int ((1+n:Nat):Int)]
  rw[<- hn];unfold stC;(repeat' first|(with_reducible first|apply ol)|sizeOf_list_dec)
def b6(p:Parts)(s:Int):Nat->List Int
 | 0=>eE p 0 ((List.range p.rows).map fun (y:Nat)=>if (y:Int)=s then 1 else 0)
 |x+1=>eE p (x+1) ((List.range p.rows).map fun y=>(b6 p s x).getD y 0*rtW p y x)
theorem rg(p:Parts)(s:Int):∀ x,(b6 p s x).length=p.rows
 | 0=>by simp[b6,eE]
 |x+1=>by simp[b6,eE]
def stS(a:Ads)(p:Parts)(s:Int)(sums:List Int)(e3 e4:Option D):ae:=[some (bM a p),some (.int s),some (.lst .f (sums.map D.int)),e3,e4]
abbrev CI(a:Ads):ae->FOut:=(ar (aw 4 (fFz (aK 1 [0,2,3] (b7 (ac (f1 (ci a.Net "rows") (ad 0)) ah)) (au 0) aM (f2 bB (f2 dIx (ad 2) (ad 0)) (f2 dIx (f2 dIx (f1 (ci a.Net "right") (ad 1)) (ad 0)) (f2 cR (ad 3) (fC (.int 1))))))))
 (aw 2 (fFz (aq 3 (eV a) (ac (ad 0) (ac (ad 3) (ac (ad 4) ah)))))))
def uK(f:Nat->Int):D->D
 | .int i=>.int (f i.toNat)
 |d=>d
theorem rh(f:Nat->Int)(n:Nat):(aD 0 n).map (uK f)=((List.range n).map f).map D.int:=by
 unfold aD;rw[List.map_map,List.map_map];refine List.map_congr_left fun x _=>?_;simp[uK]
theorem yv(a:Ads){m w:Nat}{p:Parts}(G:Good m w p)(h8:m<=8)(s:Int)(x:Nat)(hx:x+1<p.cols)(e4:Option D) :
    ∃ e4',CI a (stS a p s (b6 p s x) (some (.int (1+(x:Int)))) e4)=.nx (stS a p s (b6 p s (x+1)) (some (.int (1+(x:Int)))) e4'):=by
 have r1:=G.r1;have cl:=rg p s x;have ca:=tw a G h8 (x+1) hx ((List.range p.rows).map fun y=>(b6 p s x).getD y 0*rtW p y x) (by simp);rw[show (((x+1:Nat)):Int)=1+(x:Int) by omega] at ca;have fi:b7 (ac (f1 (ci a.Net "rows") (ad 0)) ah) (stS a p s (b6 p s x) (some (.int (1+(x:Int)))) e4)=.ok (aD 0 p.rows):=by
  refine dA ?_ (by omega);unfold stS;(repeat' first|(with_reducible first|apply ol)|sizeOf_list_dec)
 have cp:=fw (cap:=[0,2,3]) (fe:=f2 bB (f2 dIx (ad 2) (ad 0)) (f2 dIx (f2 dIx (f1 (ci a.Net "right") (ad 1)) (ad 0)) (f2 cR (ad 3) (fC (.int 1))))) (uK fun y=>(b6 p s x).getD y 0*rtW p y x) fi (fun d hd=>by
  obtain ⟨y,hy,rfl⟩:=eX hd
  refine ⟨?_,fun z=>nomatch z⟩
  have e1:=rf (b6 p s x) y (by omega)
  have e2:=y8 p.right y (by have:=G.rl;omega)
  have e3:dIx (.lst .f ((p.right.getD y []).map D.int)) (.int (1+(x:Int) - 1))=.ok (.int (rtW p y x)):=by
   have:=hZ G (y:Int) (by omega) (by omega)
   rw[show (1+(x:Int) - 1)=(x:Int) by omega]
   exact rf _ x (by have:=this.1;simp at this;simp;omega)
  have hu:=CH G y x
  have hm:bB (.int ((b6 p s x).getD y 0)) (.int (rtW p y x))=.ok (.int ((b6 p s x).getD y 0*rtW p y x)):=jQ _ _ (by omega)
  show _=Res.ok (D.int ((b6 p s x).getD ((y:Int).toNat) 0*rtW p ((y:Int).toNat) x))
  rw[Int.toNat_natCast]
  show f2 bB _ _ [some (.int (y:Int)),some (bM a p),some (.lst .f ((b6 p s x).map D.int)),some (.int (1+(x:Int)))]=_
  (repeat' first|(with_reducible first|apply e1|apply e2|apply e3|apply hm|apply qM)|sizeOf_list_dec)) (by simp[aD];omega)
 rw[rh] at cp;refine ⟨some (.lst .f (((List.range p.rows).map fun y=>(b6 p s x).getD y 0*rtW p y x).map D.int)),aB (ρ':=stS a p s (b6 p s x) (some (.int (1+(x:Int)))) (some (.lst .f (((List.range p.rows).map fun y=>(b6 p s x).getD y 0*rtW p y x).map D.int)))) ?_ ?_⟩
 ·refine yY (Ck cp (fun z=>nomatch z) (dg _ _)) (fun z=>nomatch z) (by show 4<5;decide) ?_
  unfold stS;rfl
 ·unfold stS
  show aw 2 _ _=FOut.nx [some (bM a p),some (.int s),some (.lst .f ((eE p (x+1) ((List.range p.rows).map fun y=>(b6 p s x).getD y 0*rtW p y x)).map D.int)),some (.int (1+(x:Int))),some (.lst .f (((List.range p.rows).map fun y=>(b6 p s x).getD y 0*rtW p y x).map D.int))];(repeat' first|(with_reducible first|apply ca)|sizeOf_list_dec)
theorem rj(a:Ads){m w:Nat}{p:Parts}(G:Good m w p)(h8:m<=8)(s:Int):∀ (n i:Nat) (e3 e4:Option D),i+1+n=p.cols →
    ∃ e3' e4',bo (au 3) (CI a) ((List.range' i n).map fun (j:Nat)=>D.int (1+(j:Int))) (stS a p s (b6 p s i) e3 e4)=.nx (stS a p s (b6 p s (p.cols - 1)) e3' e4')
 | 0,i,e3,e4,h=>⟨e3,e4,by rw[show p.cols - 1=i by omega];rfl⟩
 |n+1,i,e3,e4,h=>by
  obtain ⟨e4',b⟩:=yv a G h8 s i (by omega) e4;obtain ⟨e3'',e4'',ih⟩:=rj a G h8 s n (i+1) (some (.int (1+(i:Int)))) e4' (by omega);refine ⟨e3'',e4'',?_⟩;rw[List.range'_succ,List.map_cons];exact bf (dX (by show 3<5;decide) rfl) b ih
theorem Ax(a:Ads){m w:Nat}{p:Parts}(G:Good m w p)(h8:m<=8)(s:Int):cB a [bM a p,.int s]=.ok (.lst .f ((b6 p s (p.cols - 1)).map D.int)):=by
 have r1:=G.r1;have c1:=G.c1;obtain ⟨n,hn⟩:∃ n,p.cols=1+n:=⟨p.cols - 1,by omega⟩
 obtain ⟨e3,e4,lp⟩:=rj a G h8 s n 0 none none (by omega);have hr:aD ((1:Nat):Int) n=(List.range' 0 n).map fun (j:Nat)=>D.int (1+(j:Int)):=by rw[aD,List.range_eq_range'];rfl
 have ca:eV a [bM a p,.int 0,.lst .f (((List.range p.rows).map fun (y:Nat)=>if (y:Int)=s then 1 else 0).map D.int)]=_:=tw a G h8 0 (by omega) ((List.range p.rows).map fun (y:Nat)=>if (y:Int)=s then 1 else 0) (by simp);have fi:b7 (ac (f1 (ci a.Net "rows") (ad 0)) ah) [some (bM a p),some (.int s),none,none,none]=.ok (aD 0 p.rows):=by
  refine dA ?_ (by omega);(repeat' first|(with_reducible first|apply ol)|sizeOf_list_dec)
 have cp:=fw (cap:=[1]) (fe:=fIf (ft2 dEq (ad 0) (ad 1)) (fC (.int 1)) (fC (.int 0))) (uK fun y=>if (y:Int)=s then 1 else 0) fi (fun d hd=>by
  obtain ⟨y,hy,rfl⟩:=eX hd
  refine ⟨?_,fun z=>nomatch z⟩
  show fIf _ _ _ [some (.int (y:Int)),some (.int s)]=Res.ok (.int (if (((y:Int).toNat:Nat):Int)=s then 1 else 0))
  rw[Int.toNat_natCast]
  have e:fIf (ft2 dEq (ad 0) (ad 1)) (fC (.int 1)) (fC (.int 0)) [some (.int (y:Int)),some (.int s)]=.ok (if decide ((y:Int)=s)=true then .int 1 else .int 0):=by (repeat' sizeOf_list_dec)
  rw[e]
  by_cases q:(y:Int)=s<;>simp[q]) (by simp[aD];omega)
 rw[rh] at cp;refine dW (ρ:=[some (bM a p),some (.int s),none,none,none]) rfl ?_;unfold fR;refine aB (ρ':=stS a p s (b6 p s 0) none none) ?_ (aB (bE (items:=aD ((1:Nat):Int) n) (ow ?_ (by omega)) (by rw[hr];exact lp)) ?_)
 ·have hz:(D.lst .o (((List.range p.rows).map fun (y:Nat)=>if (y:Int)=s then (1:Int) else 0).map D.int)).fz=_:=dg _ _
  show _=FOut.nx [some (bM a p),some (.int s),some (.lst .f ((eE p 0 ((List.range p.rows).map fun (y:Nat)=>if (y:Int)=s then 1 else 0)).map D.int)),none,none];(repeat' first|(with_reducible first|apply ca|apply cp)|sizeOf_list_dec)
 ·show _=Res.ok [D.int 1,D.int ((1+n:Nat):Int)]
  rw[<- hn];unfold stS;(repeat' first|(with_reducible first|apply uA)|sizeOf_list_dec)
 ·unfold stS
  (repeat' sizeOf_list_dec)
def bR(p:Parts)(s:Int):List Int:=p.ends.map fun e=>(b6 p s (p.cols - 1)).getD e.toNat 0
def stT(a:Ads)(p:Parts)(Fd:List (List Int))(e2 e3:Option D):ae:=[some (bM a p),some (.lst .o (ai .o Fd)),e2,e3]
abbrev gbT(a:Ads):ae->FOut:=(ar (aw 3 (fFz (aq 2 (cB a) (ac (ad 0) (ac (ad 2) ah)))))
 (cZ 1 (aK 1 [3] (aH (f1 (ci a.Net "ends") (ad 0))) (au 0) aM (f2 dIx (ad 1) (ad 0)))))
theorem uL(a:Ads){m w:Nat}{p:Parts}(G:Good m w p)(h8:m<=8)(hw:w<=4)(s:Int)(Fd:List (List Int))(hF:Fd.length<100)(e3:Option D) :
    ∃ e3',gbT a (stT a p Fd (some (.int s)) e3)=.nx (stT a p (Fd++[bR p s]) (some (.int s)) e3'):=by
 have so:=Ax a G h8 s;have cl:=rg p s (p.cols - 1);obtain ⟨el,_,ei,_,_⟩:=bL G;have fi:aH (f1 (ci a.Net "ends") (ad 0)) (stT a p Fd (some (.int s)) (some (.lst .f ((b6 p s (p.cols - 1)).map D.int))))=.ok (p.ends.map D.int):=by
  refine nh ?_;unfold stT;(repeat' first|(with_reducible first|apply sP)|sizeOf_list_dec)
 have cp:=fw (cap:=[3]) (fe:=f2 dIx (ad 1) (ad 0)) (onV fun e=>(b6 p s (p.cols - 1)).getD e.toNat 0) fi (fun d hd=>by
  obtain ⟨e,he,rfl⟩:=List.mem_map.mp hd
  refine ⟨?_,fun z=>nomatch z⟩
  have h2:=ei e he
  have e1:=dS (t:=.f) (b6 p s (p.cols - 1)) e h2.1 (by omega)
  show f2 dIx _ _ [some (.int e),some (.lst .f ((b6 p s (p.cols - 1)).map D.int))]=Res.ok (D.int ((b6 p s (p.cols - 1)).getD e.toNat 0))
  (repeat' first|(with_reducible first|apply e1)|sizeOf_list_dec)) (by simp;omega)
 rw[Ag] at cp;refine ⟨some (.lst .f ((b6 p s (p.cols - 1)).map D.int)),aB (ρ':=stT a p Fd (some (.int s)) (some (.lst .f ((b6 p s (p.cols - 1)).map D.int)))) ?_ (m8 (xs:=ai .o Fd) (d:=.lst .o ((bR p s).map D.int)) rfl cp (fun z=>nomatch z) (by simp[ai];omega) ?_)⟩
 ·unfold stT;(repeat' first|(with_reducible first|apply so)|sizeOf_list_dec)
 ·unfold stT;rw[wC];rfl
theorem nA(a:Ads){m w:Nat}{p:Parts}(G:Good m w p)(h8:m<=8)(hw:w<=4):∀ (L:List Int) (Fd:List (List Int)) (e2 e3:Option D),Fd.length+L.length<100 →
    ∃ e2' e3',bo (au 2) (gbT a) (L.map D.int) (stT a p Fd e2 e3)=.nx (stT a p (Fd++L.map (bR p)) e2' e3')
 | [],Fd,e2,e3,_=>⟨e2,e3,by rw[List.map_nil,List.map_nil,List.append_nil];rfl⟩
 |s::L,Fd,e2,e3,h=>by
  obtain ⟨e3',b⟩:=uL a G h8 hw s Fd (by simp at h;omega) e3;obtain ⟨e2'',e3'',ih⟩:=nA a G h8 hw L (Fd++[bR p s]) (some (.int s)) e3' (by simp at h ⊢;omega);refine ⟨e2'',e3'',?_⟩;rw[List.map_cons];refine bf (dX (by show 2<4;decide) rfl) b (ih.trans ?_);rw[List.append_assoc];rfl
theorem DR(a:Ads){m w:Nat}{p:Parts}(G:Good m w p)(h8:m<=8)(hw:w<=4):lu a [bM a p]=.ok (.lst .o (ai .o (p.starts.map (bR p)))):=by
 obtain ⟨el,sl,_,_,_⟩:=bL G;obtain ⟨e2,e3,lp⟩:=nA a G h8 hw p.starts [] none none (by simp;omega);refine dW (ρ:=[some (bM a p),none,none,none]) rfl ?_;unfold sI;refine aB (ρ':=stT a p [] none none) ?_ (aB (bE (nh ?_) lp) rfl)
 ·show _=FOut.nx [some (bM a p),some (.lst .o []),none,none]
  (repeat' sizeOf_list_dec)
 ·unfold stT;(repeat' first|(with_reducible first|apply o8)|sizeOf_list_dec)
def cf(p:Parts)(s:Int)(x y:Nat):Int:=(b6 p s x).getD y 0
theorem uM(p:Parts)(s:Int)(y:Nat)(hy:y<p.rows):cf p s 0 y=dG p 0 ((List.range p.rows).map fun (y:Nat)=>if (y:Int)=s then 1 else 0) y:=by
 unfold cf b6 eE;rw[eo _ _ _ hy]
theorem yw(p:Parts)(s:Int)(x y:Nat)(hy:y<p.rows):cf p s (x+1) y=dG p (x+1) ((List.range p.rows).map fun y=>cf p s x y*rtW p y x) y:=by
 show (eE _ _ _).getD y 0=_;unfold eE;rw[eo _ _ _ hy];rfl
theorem rk(p:Parts)(s:Int)(h:0<p.rows):cf p s 0 0=if (0:Int)=s then 1 else 0:=by
 rw[uM p s 0 h];show ((List.range p.rows).map _).getD 0 0=_;rw[eo _ _ _ h];rfl
theorem nB(p:Parts)(s:Int)(y:Nat)(h:y+1<p.rows):cf p s 0 (y+1)=(if ((y+1:Nat):Int)=s then 1 else 0)+cf p s 0 y*upW p y 0:=by
 rw[uM p s (y+1) h,uM p s y (by omega)];show ((List.range p.rows).map _).getD (y+1) 0+_=_;rw[eo _ _ _ h]
theorem rm(p:Parts)(s:Int)(x:Nat)(h:0<p.rows):cf p s (x+1) 0=cf p s x 0*rtW p 0 x:=by
 rw[yw p s x 0 h];show ((List.range p.rows).map _).getD 0 0=_;rw[eo _ _ _ h]
theorem rn(p:Parts)(s:Int)(x y:Nat)(h:y+1<p.rows):cf p s (x+1) (y+1)=cf p s x (y+1)*rtW p (y+1) x+cf p s (x+1) y*upW p y (x+1):=by
 rw[yw p s x (y+1) h,yw p s x y (by omega)];show ((List.range p.rows).map _).getD (y+1) 0+_=_;rw[eo _ _ _ h]
theorem dc(p:Parts)(s:Int):∀ (x y:Nat),y<p.rows->(y:Int)<s->cf p s x y=0
 | 0,0,hy,h=>by rw[rk p s hy,if_neg (by omega)]
 | 0,y+1,hy,h=>by rw[nB p s y hy,if_neg (by omega),dc p s 0 y (by omega) (by omega)];simp
 |x+1,0,hy,h=>by rw[rm p s x hy,dc p s x 0 hy h];simp
 |x+1,y+1,hy,h=>by rw[rn p s x y hy,dc p s x (y+1) hy h,dc p s (x+1) y (by omega) (by omega)];simp
def Ws(p:Parts)(s:Int)(x y:Int)(R:List Pt):Int:=(R.map fun q=>if q.1=(x,y) then wt p s q.2 else 0).sum
theorem fV(p:Parts)(s x y:Int)(q:Pt)(R:List Pt):Ws p s x y (q::R)=(if q.1=(x,y) then wt p s q.2 else 0)+Ws p s x y R:=by unfold Ws;rw[List.map_cons,List.sum_cons]
theorem wT(p:Parts)(s x y:Int)(R S:List Pt):Ws p s x y (R++S)=Ws p s x y R+Ws p s x y S:=by
 induction R with
 |nil=>unfold Ws;simp
 |cons q R ih=>rw[List.cons_append,fV,fV,ih,Int.add_assoc]
theorem rp{m w:Nat}{p:Parts}(G:Good m w p)(s ex ey x y:Int)(hx:x<=ex)(hy:y<=ey)(q:Pt)(o:On p q.1.1 q.1.2){v:Int}(gq:Gone p s q v){l:Str}(hl:l = "r" \/ l = "u") :
    Ws p s x y (dN p ex ey q l)=if (nX q.1.1 l,nY q.1.2 l)=(x,y) then wt p s q.2*ax p q.1.1 q.1.2 l else 0:=by
 obtain ⟨tx,ty⟩:=nk q.1.1 q.1.2 hl;have hin:=iW G o l;unfold dN;rw[tx,ty];by_cases hc:(decide (nX q.1.1 l<=ex)&&decide (nY q.1.2 l<=ey))=true/\0<ax p q.1.1 q.1.2 l
 ·rw[if_pos hc,fV]
  have g2:=gq.ext hl (show ax p q.1.1 q.1.2 l≠0 by omega);rw[show wt p s (((nX q.1.1 l,nY q.1.2 l),q.2++l):Pt).2=v*ax p q.1.1 q.1.2 l from g2.wt,gq.wt];unfold Ws;simp
 ·rw[if_neg hc]
  by_cases he:(nX q.1.1 l,nY q.1.2 l)=(x,y)
  ·rw[if_pos he]
   obtain ⟨e1,e2⟩:=Prod.mk.inj he;have:ax p q.1.1 q.1.2 l=0:=by
    rw[e1,e2] at hc;simp[hx,hy] at hc;omega
   rw[this,Int.mul_zero];rfl
  ·rw[if_neg he];rfl
theorem CJ(x y:Int):nX x "r" = x+1/\nY y "r" = y:=by unfold nX nY;exact ⟨if_pos rfl,if_pos rfl⟩
theorem CK(x y:Int):nX x "u" = x/\nY y "u" = y+1:=by unfold nX nY;exact ⟨if_neg (by decide +kernel),if_neg (by decide +kernel)⟩
theorem rA{m w:Nat}{p:Parts}(G:Good m w p)(s ex ey x y:Int)(hx:x<=ex)(hy:y<=ey):∀ R:List Pt,(∀ q∈R,On p q.1.1 q.1.2/\∃ v,Gone p s q v) →
    Ws p s x y (R.flatMap (ext p ex ey))=Ws p s (x - 1) y R*ax p (x - 1) y "r" + Ws p s x (y - 1) R*ax p x (y - 1) "u"
 | [],_=>by unfold Ws;simp
 |q::R,h=>by
  obtain ⟨o,v,gq⟩:=h q List.mem_cons_self;rw[List.flatMap_cons,wT,rA G s ex ey x y hx hy R fun z hz=>h z (List.mem_cons_of_mem _ hz),fV,fV];unfold ext;rw[wT,rp G s ex ey x y hx hy q o gq (.inl rfl),rp G s ex ey x y hx hy q o gq (.inr rfl)];rw[(CJ q.1.1 q.1.2).1,(CJ q.1.1 q.1.2).2,(CK q.1.1 q.1.2).1,(CK q.1.1 q.1.2).2];obtain ⟨⟨qx,qy⟩,qw⟩:=q
  have a1:(if ((qx+1,qy):Int × Int)=(x,y) then wt p s qw*ax p qx qy "r" else 0)=(if ((qx,qy):Int × Int)=(x - 1,y) then wt p s qw else 0)*ax p (x - 1) y "r" := by
   by_cases e:((qx,qy):Int × Int)=(x - 1,y)
   ·obtain ⟨e1,e2⟩:=Prod.mk.inj e
    rw[if_pos e,if_pos (by rw[e1,e2];simp),e1,e2]
   ·rw[if_neg e,if_neg (by intro z;obtain ⟨e1,e2⟩:=Prod.mk.inj z;exact e (by rw[e2,show qx=x - 1 by omega])),Int.zero_mul]
  have a2:(if ((qx,qy+1):Int × Int)=(x,y) then wt p s qw*ax p qx qy "u" else 0)=(if ((qx,qy):Int × Int)=(x,y - 1) then wt p s qw else 0)*ax p x (y - 1) "u" := by
   by_cases e:((qx,qy):Int × Int)=(x,y - 1)
   ·obtain ⟨e1,e2⟩:=Prod.mk.inj e
    rw[if_pos e,if_pos (by rw[e1,e2];simp),e1,e2]
   ·rw[if_neg e,if_neg (by intro z;obtain ⟨e1,e2⟩:=Prod.mk.inj z;exact e (by rw[e1,show qy=y - 1 by omega])),Int.zero_mul]
  dsimp only;rw[a1,a2,Int.add_mul,Int.add_mul];omega
theorem rB{m w:Nat}{p:Parts}(G:Good m w p)(s ex ey:Int)(o:On p 0 s)(t:Nat)(x y:Int)(h:x<0\/y<0):Ws p s x y (aZ p s ex ey t)=0:=by
 have key:∀ R:List Pt,(∀ q∈R,On p q.1.1 q.1.2)->Ws p s x y R=0:=by
  intro R;induction R with
  |nil=>intro _;rfl
  |cons q R ih=>
   intro hR;have oq:=hR q List.mem_cons_self;unfold On at oq;rw[fV,ih fun z hz=>hR z (List.mem_cons_of_mem _ hz),if_neg (by intro z;rw[z] at oq;simp at oq;omega)];rfl
 exact key _ fun q hq=>(jj G s ex ey o t q hq).1
theorem wU(p:Parts)(x y:Nat)(hx:x+1<p.cols):ax p (x:Int) (y:Int) "r" = rtW p y x:=by
 unfold ax;rw[if_pos ⟨rfl,by omega⟩];simp[rtW]
theorem nC(p:Parts)(x y:Nat)(hy:y+1<p.rows):ax p (x:Int) (y:Int) "u" = upW p y x:=by
 unfold ax;rw[if_neg (by rintro ⟨h,_⟩;exact absurd h (by decide +kernel)),if_pos ⟨rfl,by omega⟩];simp[upW]
theorem CL{m w:Nat}{p:Parts}(G:Good m w p)(s ex ey:Nat)(hs:s<p.rows)(hex:ex<p.cols)(hey:ey<p.rows):∀ (t x y:Nat),x<=ex->y<=ey →
    Ws p (s:Int) (x:Int) (y:Int) (aZ p s ex ey t)=if x+y=s+t then cf p s x y else 0:=by
 have o:On p 0 (s:Int):=⟨⟨by omega,by omega⟩,by omega,by omega⟩
 intro t;induction t with
 |zero=>
  intro x y hx hy;show Ws p _ _ _ [((0,(s:Int)), "")]=_;rw[fV,show Ws p (s:Int) (x:Int) (y:Int) []=0 from rfl,Int.add_zero];have w1:wt p (s:Int) (((0,(s:Int)), ""):Pt).2=1:=rfl;rw[w1];by_cases e:x=0/\y=s
  ·obtain ⟨rfl,rfl⟩:=e
   rw[if_pos (show (((0,(y:Int)), ""):Pt).1=(((0:Nat):Int),(y:Int)) from rfl),if_pos (by omega)]
   cases y with
   |zero=>rw[rk p _ (by omega)];rfl
   |succ y=>rw[nB p _ y (by omega),if_pos rfl,dc p _ 0 y (by omega) (by omega)];simp
  ·rw[if_neg (by intro z;obtain ⟨e1,e2⟩:=Prod.mk.inj z;exact e ⟨by omega,by omega⟩)]
   split
   ·rw[dc p _ x y (by omega) (by omega)]
   ·rfl
 |succ t ih=>
  intro x y hx hy;show Ws p _ _ _ ((aZ p s ex ey t).flatMap (ext p ex ey))=_;rw[rA G s ex ey x y (by omega) (by omega) _ (jj G s ex ey o t)]
  cases x with
  |zero=>
   rw[rB G s ex ey o t (((0:Nat):Int) - 1) y (by omega),Int.zero_mul,Int.zero_add]
   cases y with
   |zero=>rw[rB G s ex ey o t _ (((0:Nat):Int) - 1) (by omega),Int.zero_mul,if_neg (by omega)]
   |succ y=>
    rw[show (((y+1:Nat):Int) - 1)=(y:Int) by omega,ih 0 y (by omega) (by omega),nC p 0 y (by omega)];by_cases e:0+(y+1)=s+(t+1)
    ·rw[if_pos e,if_pos (by omega),nB p _ y (by omega),if_neg (by omega),Int.zero_add]
    ·rw[if_neg e,if_neg (by omega),Int.zero_mul]
  |succ x=>
   rw[show (((x+1:Nat):Int) - 1)=(x:Int) by omega,ih x y (by omega) hy,wU p x y (by omega)]
   cases y with
   |zero=>
    rw[rB G s ex ey o t _ (((0:Nat):Int) - 1) (by omega),Int.zero_mul,Int.add_zero];by_cases e:x+1+0=s+(t+1)
    ·rw[if_pos e,if_pos (by omega),rm p _ x (by omega)]
    ·rw[if_neg e,if_neg (by omega),Int.zero_mul]
   |succ y=>
    rw[show (((y+1:Nat):Int) - 1)=(y:Int) by omega,ih (x+1) y hx (by omega),nC p (x+1) y (by omega)];by_cases e:x+1+(y+1)=s+(t+1)
    ·rw[if_pos e,if_pos (by omega),if_pos (by omega),rn p _ x y (by omega)]
    ·rw[if_neg e,if_neg (by omega),if_neg (by omega),Int.zero_mul,Int.zero_mul];rfl
def Mat(n m:Nat)(R:List (List Int)):Prop:=R.length=n/\∀ r∈R,r.length=m
def cz:Nat->List (List Int)->Option Nat
 |_,[]=>none
 |i,r::R=>if r.getD 0 0=0 then cz (i+1) R else some i
def bg(top:List Int)(d:Int)(row:List Int):List Int:=(List.range (row.length - 1)).map fun j=>(top.getD 0 0*row.getD (1+j) 0 - row.getD 0 0*top.getD (1+j) 0).fdiv d
def bare:Nat->List (List Int)->Int->Int->Int
 | 0,_,turn,last=>turn*last
 |n+1,R,turn,last=>match cz 0 R with
  |none=>0
  |some k=>bare n ((R.eraseIdx k).map (bg (R.getD k []) last)) (if k % 2=1 then -turn else turn) ((R.getD k []).getD 0 0)
theorem pP{t:Tg}(r:List Int)(h:0<r.length):dIx (.lst t (r.map D.int)) (.int 0)=.ok (.int (r.getD 0 0)):=dS r 0 (by omega) (by omega)
abbrev gbF:ae->FOut:=(gIf (ft2 (eM true) (f2 dIx (ad 2) (fC (.int 0))) (fC (.int 0))) (bc (ad 1)) aP)
def nD(i:Nat)(R:List (List Int)):List D:=((ai .f R).zipIdx i).map fun p=>.tup [.int (p.2:Int),p.1]
theorem nE(v0:Option D):∀ (R:List (List Int)) (i:Nat) (e1 e2:Option D),(∀ r∈R,0<r.length) →
    match cz i R with
    |some k=>bo (bG [1,2]) gbF (nD i R) [v0,e1,e2]=.rt (.int (k:Int))
    |none=>∃ e1' e2',bo (bG [1,2]) gbF (nD i R) [v0,e1,e2]=.nx [v0,e1',e2']
 | [],i,e1,e2,_=>⟨e1,e2,rfl⟩
 |r::R,i,e1,e2,h=>by
  have e:=pP (t:=.f) r (h r List.mem_cons_self);have tt:ft2 (eM true) (f2 dIx (ad 2) (fC (.int 0))) (fC (.int 0)) [v0,some (.int (i:Int)),some (.lst .f (r.map D.int))]=.ok (!decide (r.getD 0 0=0)):=by (repeat' first|(with_reducible first|apply e)|sizeOf_list_dec)
  have ih:=nE v0 R (i+1) (some (.int (i:Int))) (some (.lst .f (r.map D.int))) fun x hx=>h x (List.mem_cons_of_mem _ hx);show match (if r.getD 0 0=0 then cz (i+1) R else some i) with
   |some k=>bo (bG [1,2]) gbF (.tup [.int (i:Int),.lst .f (r.map D.int)]::nD (i+1) R) [v0,e1,e2]=.rt (.int (k:Int))
   |none=>∃ e1' e2',bo (bG [1,2]) gbF (.tup [.int (i:Int),.lst .f (r.map D.int)]::nD (i+1) R) [v0,e1,e2]=.nx [v0,e1',e2']
  by_cases h0:r.getD 0 0=0
  ·rw[if_pos h0]
   have b:gbF [v0,some (.int (i:Int)),some (.lst .f (r.map D.int))]=.nx [v0,some (.int (i:Int)),some (.lst .f (r.map D.int))]:=dr tt (by simp only[h0];rfl) rfl;revert ih
   cases cz (i+1) R with
   |some k=>intro ih;exact bf (ρ1:=[v0,some (.int (i:Int)),some (.lst .f (r.map D.int))]) rfl b ih
   |none=>rintro ⟨f1,f2',ih⟩;exact ⟨f1,f2',bf (ρ1:=[v0,some (.int (i:Int)),some (.lst .f (r.map D.int))]) rfl b ih⟩
  ·rw[if_neg h0]
   refine m9 (ρ1:=[v0,some (.int (i:Int)),some (.lst .f (r.map D.int))]) rfl (dQ tt (by rw[decide_eq_false h0];rfl) ?_);(repeat' sizeOf_list_dec)
def DS:Option Nat->D
 |some k=>.int (k:Int)
 |none=>.non
theorem Ay(g:List (List Int)):D.its (.lst .f (ai .f g))=some (ai .f g):=by
 show some ((ai .f g).map D.asF)=_;rw[eY]
theorem kP(a:Ads)(R:List (List Int))(h:∀ r∈R,0<r.length):bz a [.lst .f (ai .f R)]=.ok (DS (cz 0 R)):=by
 have lp:=nE (some (.lst .f (ai .f R))) R 0 none none h;have fi:eT (ac (ad 0) ah) [some (.lst .f (ai .f R)),none,none]=.ok (nD 0 R):=by
  have hf:ac (ad 0) ah [some (.lst .f (ai .f R)),none,none]=.ok [.lst .f (ai .f R)]:=by (repeat' sizeOf_list_dec)
  unfold eT;rw[hf,bok];show (if Tg.f=Tg.b\/true=false then Res.bad else bT ((D.its (.lst .f (ai .f R))).map i8))=_;rw[if_neg (by rintro (z | z)<;>cases z),Ay];rfl
 refine dW (ρ:=[some (.lst .f (ai .f R)),none,none]) rfl ?_;unfold hW;revert lp
 cases cz 0 R with
 |some k=>intro lp;exact dU (bE fi lp)
 |none=>
  rintro ⟨e1,e2,lp⟩;refine aB (bE fi lp) ?_;show _=FOut.rt .non;(repeat' sizeOf_list_dec)
def Bd(b:Nat)(R:List (List Int)):Prop:=∀ r∈R,∀ v∈r,v.natAbs<2 ^ b
theorem Az{i j:Int}(h1:j≠0)(h2:j.natAbs<ii):ju (.int i) (.int j)=.ok (.int (i.fdiv j)):=by
 unfold ju gI;simp only;rw[if_pos (by rw[Bool.and_eq_true,decide_eq_true_eq,decide_eq_true_eq];exact ⟨h1,h2⟩)]
theorem yx{fa:ae->Res (List D)}{ρ:ae}{i n:Nat}(h:fa ρ=.ok [.int (i:Int),.int ((i+n:Nat):Int)])(hn:i+n<1000):iK fa ρ=.ok (aD (i:Int) n):=by
 unfold iK;rw[h,bok];show (if _ then _ else _)=_;rw[if_pos (by simp only[Bool.and_eq_true,decide_eq_true_eq];omega)];congr 2;omega
theorem y9(xs:List Int)(k:Nat)(h:k<xs.length):dIx (.lst .f (xs.map D.int)) (.int (k:Int))=.ok (.int (xs.getD k 0)):=by
 have:=dS (t:=.f) xs (k:Int) (by omega) (by omega);simpa using this
theorem er{r:List Int}{k:Nat}(h:k<r.length):r.getD k 0∈r:=by simp[List.getD,List.getElem?_eq_getElem h]
def onN(lo:Int)(f:Nat->Int):D->D
 | .int i=>.int (f (i - lo).toNat)
 |d=>d
theorem AA(lo:Int)(f:Nat->Int)(n:Nat):(aD lo n).map (onN lo f)=((List.range n).map f).map D.int:=by
 unfold aD;rw[List.map_map,List.map_map];refine List.map_congr_left fun x _=>?_;show D.int (f (lo+(x:Int) - lo).toNat)=D.int (f x);rw[show lo+(x:Int) - lo=(x:Int) by omega,Int.toNat_natCast]
theorem uN{lo:Int}{n:Nat}{x:D}(h:x∈aD lo n):∃ i:Nat,i<n/\x=.int (lo+(i:Int)):=by
 unfold aD at h;obtain ⟨i,hi,rfl⟩:=List.mem_map.mp h;exact ⟨i,List.mem_range.mp hi,rfl⟩
theorem AB(a:Ads)(row top:List Int)(d:Int)(b m:Nat)(hr:row.length=m+1)(ht:top.length=m+1)(hm:m<100)(hb:b<=4000)(br:∀ v∈row,v.natAbs<2 ^ b)(bt:∀ v∈top,v.natAbs<2 ^ b)(bd:d.natAbs<2 ^ b)(hd:d≠0) :
    eW a [.lst .f (row.map D.int),.lst .f (top.map D.int),.int d]=.ok (.lst .o ((bg top d row).map D.int)):=by
 refine dW (ρ:=[some (.lst .f (row.map D.int)),some (.lst .f (top.map D.int)),some (.int d)]) rfl ?_;unfold oV;have ln:fCB a8 (ac (ad 0) ah) [some (.lst .f (row.map D.int)),some (.lst .f (top.map D.int)),some (.int d)]=.ok (.int ((1+m:Nat):Int)):=by
  rw[show (1+m)=(row.map D.int).length by simp;omega];(repeat' sizeOf_list_dec)
 have fi:iK (ac (fC (.int 1)) (ac (fCB a8 (ac (ad 0) ah)) ah)) [some (.lst .f (row.map D.int)),some (.lst .f (top.map D.int)),some (.int d)]=.ok (aD ((1:Nat):Int) m):=yx (dq v_C (dq ln m6)) (by omega)
 have cp:=fw (cap:=[0,1,2]) (fe:=f2 ju (f2 cR (f2 jN (f2 dIx (ad 2) (fC (.int 0))) (f2 dIx (ad 1) (ad 0))) (f2 jN (f2 dIx (ad 1) (fC (.int 0))) (f2 dIx (ad 2) (ad 0)))) (ad 3)) (onN 1 fun j=>(top.getD 0 0*row.getD (1+j) 0 - row.getD 0 0*top.getD (1+j) 0).fdiv d) fi (fun x hx=>by
  obtain ⟨j,hj,rfl⟩:=uN hx
  refine ⟨?_,fun z=>nomatch z⟩
  have e1:=pP (t:=.f) top (by omega)
  have e2:=pP (t:=.f) row (by omega)
  have e3:dIx (.lst .f (row.map D.int)) (.int (((1:Nat):Int)+(j:Int)))=.ok (.int (row.getD (1+j) 0)):=by
   rw[show ((1:Nat):Int)+(j:Int)=((1+j:Nat):Int) by omega];exact y9 row (1+j) (by omega)
  have e4:dIx (.lst .f (top.map D.int)) (.int (((1:Nat):Int)+(j:Int)))=.ok (.int (top.getD (1+j) 0)):=by
   rw[show ((1:Nat):Int)+(j:Int)=((1+j:Nat):Int) by omega];exact y9 top (1+j) (by omega)
  have m1:=wP (kO (bt _ (er (k:=0) (by omega))) hb) (kO (br _ (er (k:=1+j) (by omega))) hb)
  have m2:=wP (kO (br _ (er (k:=0) (by omega))) hb) (kO (bt _ (er (k:=1+j) (by omega))) hb)
  have dv:=fun i=>Az (i:=i) hd (kO bd hb)
  show f2 ju _ _ [some (.int (((1:Nat):Int)+(j:Int))),some (.lst .f (row.map D.int)),some (.lst .f (top.map D.int)),some (.int d)]=Res.ok (D.int ((top.getD 0 0*row.getD (1+(((1:Nat):Int)+(j:Int) - 1).toNat) 0 - row.getD 0 0*top.getD (1+(((1:Nat):Int)+(j:Int) - 1).toNat) 0).fdiv d))
  rw[show (((1:Nat):Int)+(j:Int) - 1)=(j:Int) by omega,Int.toNat_natCast]
  (repeat' first|(with_reducible first|apply e1|apply e2|apply e3|apply e4|apply m1|apply m2|apply dv)|sizeOf_list_dec)) (by simp[aD];omega)
 have e:(aD ((1:Nat):Int) m).map (onN 1 fun j=>(top.getD 0 0*row.getD (1+j) 0 - row.getD 0 0*top.getD (1+j) 0).fdiv d)=(bg top d row).map D.int:=by
  rw[show ((1:Nat):Int)=1 from rfl,AA];unfold bg;rw[hr];rfl
 rw[e] at cp;exact gT cp (fun z=>nomatch z)
theorem nF(a b:Int):(a.fdiv b).natAbs<=a.natAbs:=natAbs_fdiv_le a b
theorem CM{top row:List Int}{d:Int}{b m:Nat}(hr:row.length=m+1)(ht:top.length=m+1)(br:∀ v∈row,v.natAbs<2 ^ b)(bt:∀ v∈top,v.natAbs<2 ^ b):(bg top d row).length=m/\∀ v∈bg top d row,v.natAbs<2 ^ (2*b+1):=by
 refine ⟨by simp[bg,hr],fun v hv=>?_⟩;unfold bg at hv;obtain ⟨j,hj,rfl⟩:=List.mem_map.mp hv;have hj:=List.mem_range.mp hj;refine Nat.lt_of_le_of_lt (nF _ _) ?_;have h1:=bt _ (er (r:=top) (k:=0) (by omega));have h2:=br _ (er (r:=row) (k:=1+j) (by omega));have h3:=br _ (er (r:=row) (k:=0) (by omega));have h4:=bt _ (er (r:=top) (k:=1+j) (by omega))
 have e1:(top.getD 0 0*row.getD (1+j) 0).natAbs<2 ^ b*2 ^ b:=by rw[Int.natAbs_mul];exact Nat.mul_lt_mul'' h1 h2
 have e2:(row.getD 0 0*top.getD (1+j) 0).natAbs<2 ^ b*2 ^ b:=by rw[Int.natAbs_mul];exact Nat.mul_lt_mul'' h3 h4
 have e3:2 ^ (2*b+1)=2 ^ b*2 ^ b+2 ^ b*2 ^ b:=by rw[Nat.pow_succ,Nat.two_mul,Nat.pow_add];omega
 rw[e3];generalize top.getD 0 0*row.getD (1+j) 0=x at *;generalize row.getD 0 0*top.getD (1+j) 0=y at *;omega
theorem kQ:∀ (R:List (List Int)) (i k:Nat),cz i R=some k->i<=k/\k<i+R.length/\(R.getD (k - i) []).getD 0 0≠0
 | [],i,k,h=>by cases h
 |r::R,i,k,h=>by
  have h:(if r.getD 0 0=0 then cz (i+1) R else some i)=some k:=h;split at h
  ·obtain ⟨h1,h2,h3⟩:=kQ R (i+1) k h
   refine ⟨by omega,by simp;omega,?_⟩;rw[show k - i=(k - (i+1))+1 by omega];exact h3
  ·rename_i hn
   cases h
   refine ⟨Nat.le_refl _,by simp,?_⟩;rw[Nat.sub_self];exact hn
def bS(sq:Option D)(R:List (List Int))(turn last:Int)(e4 e5:Option D):ae:=[sq,some (.lst .o (ai .f R)),some (.int turn),some (.int last),e4,e5]
abbrev tD:ae->Res Bool:=ft2 dGt (fCB a8 (ac (ad 1) ah)) (fC (.int 0))
abbrev ox(a:Ads):ae->FOut:=(ar (aw 4 (fFz (aq 1 (bz a) (ac (ad 1) ah))))
 (ar (gIf (ft2 (kn false) (ad 4) (fC .non)) (bc (fC (.int 0))) aP)
 (ar (gIf (ft2 dEq (f2 cS (ad 4) (fC (.int 2))) (fC (.int 1))) (aw 2 (fFz (f1 l8 (ad 2)))) aP)
 (ar (nQ 5 1 (ad 4))
 (ar (fun ρ=>(jv 1 (aw 1 (aK 1 [3,5] (aH (ad 1)) (au 0) aM (ce 3 (eW a) (ac (ad 0) (ac (ad 2) (ac (ad 1) ah))))))) (frzAt 1 ρ))
 (aw 3 (fFz (f2 dIx (ad 5) (fC (.int 0))))))))))
theorem DT{k n:Nat}(h:k<n):seqIndex? (k:Int) n=some k:=(L2.nK (show L2.ixN n (k:Int)=some k by unfold L2.ixN;rw[if_pos (by omega),if_pos (by omega)];simp)).1
theorem rT(R:List (List Int))(k:Nat):(ai .f R).eraseIdx k=ai .f (R.eraseIdx k):=by unfold ai;rw[kG]
theorem wV(R:List (List Int))(k:Nat)(h:k<R.length):(ai .f R)[k]?=some (.lst .f ((R.getD k []).map D.int)):=by
 unfold ai;rw[List.getElem?_map,List.getElem?_eq_getElem h];simp[List.getD,List.getElem?_eq_getElem h]
theorem yy{n:Nat}{F:List D->Res D}{fa:ae->Res (List D)}{ρ:ae}{ds ds':List D}{d:D}(h:fa ρ=.ok ds)(hn:ds.length=n)(hz:D.fzs ds=ds')(hF:F ds'=.ok d)(ha:(nb ds=true/\d.tag≠.b)\/d.atom=true):ce n F fa ρ=.ok d:=by
 unfold ce;rw[h,bok,if_pos hn];have:ee F ds=.ok d:=by
  unfold ee;rw[hz,hF];show (if _ then _ else _)=_;rw[if_pos ha]
 rw[this]
theorem wW(a:Ads)(sq:Option D)(R:List (List Int))(turn last:Int)(e4 e5:Option D)(n b k:Nat)(M:Mat (n+1) (n+1) R)(hn:n<90)(hB:Bd b R)(hl:last.natAbs<2 ^ b)(hl0:last≠0)(hb:b<=4000)(hk:cz 0 R=some k) :
    ox a (bS sq R turn last e4 e5)=.nx (bS sq ((R.eraseIdx k).map (bg (R.getD k []) last)) (if k % 2=1 then -turn else turn) ((R.getD k []).getD 0 0) (some (.int (k:Int))) (some (.lst .f ((R.getD k []).map D.int)))):=by
 obtain ⟨h1,h2,h3⟩:=kQ R 0 k hk;rw[Nat.zero_add] at h2;have hkm:R.getD k []∈R:=by simp[List.getD,List.getElem?_eq_getElem h2]
 have ht:=M.2 _ hkm;have ff:=kP a R fun r hr=>by rw[M.2 r hr];omega
 rw[hk] at ff;have ff:bz a [.lst .f (ai .f R)]=.ok (.int (k:Int)):=ff;have fg:∀ t,(D.lst t (ai .f R)).fz=.lst .f (ai .f R):=fun t=>b5 t .f R;have s4:aw 4 (fFz (aq 1 (bz a) (ac (ad 1) ah))) (bS sq R turn last e4 e5)=.nx (bS sq R turn last (some (.int (k:Int))) e5):=by
  unfold bS;(repeat' first|(with_reducible first|apply ff|apply fg)|sizeOf_list_dec)
 have s5:gIf (ft2 (kn false) (ad 4) (fC .non)) (bc (fC (.int 0))) aP (bS sq R turn last (some (.int (k:Int))) e5)=.nx (bS sq R turn last (some (.int (k:Int))) e5):=dr (b:=false) rfl rfl rfl
 have s6:gIf (ft2 dEq (f2 cS (ad 4) (fC (.int 2))) (fC (.int 1))) (aw 2 (fFz (f1 l8 (ad 2)))) aP (bS sq R turn last (some (.int (k:Int))) e5)=.nx (bS sq R (if k % 2=1 then -turn else turn) last (some (.int (k:Int))) e5):=by
  have m2:=gS (k:Int) 2 (by decide);have tt:ft2 dEq (f2 cS (ad 4) (fC (.int 2))) (fC (.int 1)) (bS sq R turn last (some (.int (k:Int))) e5)=.ok (decide ((k:Int) % 2=1)):=by unfold bS;(repeat' first|(with_reducible first|apply m2)|sizeOf_list_dec)
  by_cases hp:k % 2=1
  ·rw[if_pos hp]
   refine dQ tt (by simp;omega) ?_;unfold bS;(repeat' sizeOf_list_dec)
  ·rw[if_neg hp]
   exact dr tt (by simp;omega) rfl
 have s7:nQ 5 1 (ad 4) (bS sq R (if k % 2=1 then -turn else turn) last (some (.int (k:Int))) e5)=.nx (bS sq (R.eraseIdx k) (if k % 2=1 then -turn else turn) last (some (.int (k:Int))) (some (.lst .f ((R.getD k []).map D.int)))):=by
  have g1:(bS sq R (if k % 2=1 then -turn else turn) last (some (.int (k:Int))) e5)[1]?=some (some (.lst .o (ai .f R))):=rfl;have gk:ad 4 (bS sq R (if k % 2=1 then -turn else turn) last (some (.int (k:Int))) e5)=.ok (.int (k:Int)):=rfl;have hlen:(ai .f R).length=R.length:=by simp[ai]
  unfold nQ;simp only[g1,gk,aok,hlen,DT h2,wV R k h2];have hM:=M.1;rw[if_neg (by
   rintro (z | z | z | z)
   ·exact nomatch z
   ·exact absurd z (by show ¬ 6<=5;decide)
   ·omega
   ·omega),dg,rT]
  rfl
 have hel:(R.eraseIdx k).length=n:=by rw[List.length_eraseIdx_of_lt h2,M.1];rfl
 have hem:∀ r∈R.eraseIdx k,r∈R:=fun r hr=>List.mem_of_mem_eraseIdx hr
 have s8:jv 1 (aw 1 (aK 1 [3,5] (aH (ad 1)) (au 0) aM (ce 3 (eW a) (ac (ad 0) (ac (ad 2) (ac (ad 1) ah)))))) (frzAt 1 (bS sq (R.eraseIdx k) (if k % 2=1 then -turn else turn) last (some (.int (k:Int))) (some (.lst .f ((R.getD k []).map D.int)))))=.nx (bS sq ((R.eraseIdx k).map (bg (R.getD k []) last)) (if k % 2=1 then -turn else turn) last (some (.int (k:Int))) (some (.lst .f ((R.getD k []).map D.int)))):=by
  generalize hturn:(if k % 2=1 then -turn else turn)=tn;have fr:frzAt 1 (bS sq (R.eraseIdx k) tn last (some (.int (k:Int))) (some (.lst .f ((R.getD k []).map D.int))))=[sq,some (.lst .f (ai .f (R.eraseIdx k))),some (.int tn),some (.int last),some (.int (k:Int)),some (.lst .f ((R.getD k []).map D.int))]:=by
   unfold frzAt bS;show List.set _ 1 (some (D.fz (.lst .o (ai .f (R.eraseIdx k)))))=_;rw[b5];rfl
  rw[fr];have fi:aH (ad 1) [sq,some (.lst .f (ai .f (R.eraseIdx k))),some (.int tn),some (.int last),some (.int (k:Int)),some (.lst .f ((R.getD k []).map D.int))]=.ok (ai .f (R.eraseIdx k)):=mf rfl
  have cp:=fw (cap:=[3,5]) (fe:=ce 3 (eW a) (ac (ad 0) (ac (ad 2) (ac (ad 1) ah)))) (fun d=>match d with | .lst _ xs=>.lst .o ((bg (R.getD k []) last (xs.map fun d=>match d with | .int i=>i | _=>0)).map D.int) | d=>d) fi (fun x hx=>by
   obtain ⟨r,hr,rfl⟩:=List.mem_map.mp hx
   have hrm:=hem r hr
   refine ⟨?_,fun z=>nomatch z⟩
   have rd:=AB a r (R.getD k []) last b n (M.2 r hrm) ht (by omega) hb (hB r hrm) (hB _ hkm) hl hl0
   have e:(r.map D.int).map (fun d=>match d with | .int i=>i | _=>(0:Int))=r:=by rw[List.map_map];exact List.map_id' r
   show ce 3 _ _ [some (.lst .f (r.map D.int)),some (.int last),some (.lst .f ((R.getD k []).map D.int))]=Res.ok (D.lst .o ((bg (R.getD k []) last ((r.map D.int).map fun d=>match d with | .int i=>i | _=>0)).map D.int))
   rw[e]
   refine yy (ds:=[.lst .f (r.map D.int),.lst .f ((R.getD k []).map D.int),.int last]) (by (repeat' sizeOf_list_dec)) rfl (by (repeat' first | (with_reducible exact Lw.aC) | (with_reducible apply Lw.jR) | (with_reducible first | exact Lw.ay _ | exact Lw.dR _ | exact Lw.iu _ | exact Lw.gj | exact Lw.gn _ | exact Lw.gm _ _ _ | exact Lw.ji _ | exact Lw.dg _ _ | exact Lw.b5 _ _ _))) rd (.inl ⟨rfl,fun z=>nomatch z⟩)) (by simp[ai];omega)
  have e:(ai .f (R.eraseIdx k)).map (fun d=>match d with | .lst _ xs=>D.lst .o ((bg (R.getD k []) last (xs.map fun d=>match d with | .int i=>i | _=>0)).map D.int) | d=>d)=ai .o ((R.eraseIdx k).map (bg (R.getD k []) last)):=by
   unfold ai;rw[List.map_map,List.map_map];refine List.map_congr_left fun r _=>?_;show D.lst .o ((bg (R.getD k []) last ((r.map D.int).map fun d=>match d with | .int i=>i | _=>0)).map D.int)=D.lst .o ((bg (R.getD k []) last r).map D.int);rw[List.map_map,show ((fun d:D=>match d with | .int i=>i | _=>(0:Int)) ∘ D.int)=id from rfl,List.map_id]
  rw[e] at cp;unfold jv;rw[mZ cp (fun z=>nomatch z) (by show 1<6;decide)];show FOut.nx (frz1At 1 [sq,some (.lst .o (ai .o ((R.eraseIdx k).map (bg (R.getD k []) last)))),some (.int tn),some (.int last),some (.int (k:Int)),some (.lst .f ((R.getD k []).map D.int))])=_;unfold frz1At;show FOut.nx (List.set _ 1 (some (.lst .o (D.fzs (ai .o ((R.eraseIdx k).map (bg (R.getD k []) last)))))))=_;rw[dM];rfl
 refine aB s4 (aB s5 (aB s6 (aB s7 (aB s8 ?_))));have e0:=pP (t:=.f) (R.getD k []) (by omega);unfold bS;(repeat' first|(with_reducible first|apply e0)|sizeOf_list_dec)
theorem wX(a:Ads)(sq:Option D)(R:List (List Int))(turn last:Int)(e4 e5:Option D)(n:Nat)(M:Mat (n+1) (n+1) R)(hk:cz 0 R=none):ox a (bS sq R turn last e4 e5)=.rt (.int 0):=by
 have ff:=kP a R fun r hr=>by rw[M.2 r hr];omega
 rw[hk] at ff;have ff:bz a [.lst .f (ai .f R)]=.ok .non:=ff;have fg:∀ t,(D.lst t (ai .f R)).fz=.lst .f (ai .f R):=fun t=>b5 t .f R;have s4:aw 4 (fFz (aq 1 (bz a) (ac (ad 1) ah))) (bS sq R turn last e4 e5)=.nx (bS sq R turn last (some .non) e5):=by
  unfold bS;(repeat' first|(with_reducible first|apply ff|apply fg)|sizeOf_list_dec)
 refine aB s4 (dU (dQ (b:=true) rfl rfl ?_));(repeat' sizeOf_list_dec)
def bb:Nat->Nat->Nat
 | 0,b=>b
 |n+1,b=>bb n (2*b+1)
theorem za:∀ n b,b<=bb n b
 | 0,b=>Nat.le_refl _
 |n+1,b=>Nat.le_trans (by omega) (za n (2*b+1))
theorem nG(a:Ads)(sq:Option D):∀ (n:Nat) (R:List (List Int)) (turn last:Int) (b fuel:Nat) (e4 e5:Option D),Mat n n R->n<90->Bd b R->last.natAbs<2 ^ b->last≠0->(turn=1\/turn=-1)->bb n b<=4000->n<fuel →
    (∃ t' l' e4' e5',eU tD (ox a) fuel (bS sq R turn last e4 e5)=.nx (bS sq [] t' l' e4' e5')/\t' * l'=bare n R turn last/\(t'=1\/t'=-1))\/(eU tD (ox a) fuel (bS sq R turn last e4 e5)=.rt (.int 0)/\bare n R turn last=0)
 | 0,R,turn,last,b,fuel+1,e4,e5,M,_,_,_,_,ht,_,_=>by
  have hR:R=[]:=List.eq_nil_of_length_eq_zero M.1;subst hR;refine .inl ⟨turn,last,e4,e5,?_,rfl,ht⟩;have tt:tD (bS sq [] turn last e4 e5)=.ok (decide ((0:Int)<(((ai .f []).length:Nat):Int))):=by unfold bS;(repeat' sizeOf_list_dec)
  unfold eU;rw[tt,aok,if_neg (by simp[ai])]
 |n+1,R,turn,last,b,fuel+1,e4,e5,M,hn,hB,hl,hl0,ht,hbb,hf=>by
  have hb:b<=4000:=Nat.le_trans (za (n+1) b) hbb;have tt:tD (bS sq R turn last e4 e5)=.ok (decide ((0:Int)<(((ai .f R).length:Nat):Int))):=by unfold bS;(repeat' sizeOf_list_dec)
  have htt:decide ((0:Int)<(((ai .f R).length:Nat):Int))=true:=by
   have:=M.1;simp[ai];omega
  cases hk:cz 0 R with
  |none=>
   refine .inr ⟨?_,by unfold bare;rw[hk]⟩;unfold eU;rw[tt,aok,htt,if_pos rfl,wX a sq R turn last e4 e5 n M hk]
  |some k=>
   obtain ⟨h1,h2,h3⟩:=kQ R 0 k hk;rw[Nat.zero_add] at h2;rw[Nat.sub_zero] at h3;have hkm:R.getD k []∈R:=by simp[List.getD,List.getElem?_eq_getElem h2]
   have tk:=M.2 _ hkm;have hel:(R.eraseIdx k).length=n:=by rw[List.length_eraseIdx_of_lt h2,M.1];rfl
   have hrd:∀ r∈(R.eraseIdx k).map (bg (R.getD k []) last),r.length=n/\∀ v∈r,v.natAbs<2 ^ (2*b+1):=fun r hr=>by
    obtain ⟨r0,hr0,rfl⟩:=List.mem_map.mp hr;have hm:=List.mem_of_mem_eraseIdx hr0;exact CM (M.2 r0 hm) tk (hB r0 hm) (hB _ hkm)
   have ts:=wW a sq R turn last e4 e5 n b k M (by omega) hB hl hl0 hb hk;have hl':((R.getD k []).getD 0 0).natAbs<2 ^ (2*b+1):=Nat.lt_of_lt_of_le (hB _ hkm _ (er (k:=0) (by omega))) (Nat.pow_le_pow_right (by decide) (by omega))
   have ih:=nG a sq n ((R.eraseIdx k).map (bg (R.getD k []) last)) (if k % 2=1 then -turn else turn) ((R.getD k []).getD 0 0) (2*b+1) fuel (some (.int (k:Int))) (some (.lst .f ((R.getD k []).map D.int))) ⟨by rw[List.length_map,hel],fun r hr=>(hrd r hr).1⟩ (by omega) (fun r hr=>(hrd r hr).2) hl' h3 (by split<;>omega) hbb (by omega)
   have eb:bare (n+1) R turn last=bare n ((R.eraseIdx k).map (bg (R.getD k []) last)) (if k % 2=1 then -turn else turn) ((R.getD k []).getD 0 0):=by
    show (match cz 0 R with
     |none=>0
     |some k=>bare n ((R.eraseIdx k).map (bg (R.getD k []) last)) (if k % 2=1 then -turn else turn) ((R.getD k []).getD 0 0))=_
    rw[hk]
   have ew:eU tD (ox a) (fuel+1) (bS sq R turn last e4 e5)=eU tD (ox a) fuel (bS sq ((R.eraseIdx k).map (bg (R.getD k []) last)) (if k % 2=1 then -turn else turn) ((R.getD k []).getD 0 0) (some (.int (k:Int))) (some (.lst .f ((R.getD k []).map D.int)))):=by
    show aft (tD _) _=_;rw[tt,aok,htt,if_pos rfl,ts]
   rw[ew,eb];exact ih
theorem CN(a:Ads)(n b:Nat)(R:List (List Int))(M:Mat n n R)(hn:n<90)(hB:Bd b R)(hb1:1<=b)(hbb:bb n b<=4000):pL a [.lst .f (ai .f R)]=.ok (.int (bare n R 1 1)):=by
 have wb:=nG a (some (.lst .f (ai .f R))) n R 1 1 b 100 none none M hn hB (Nat.one_lt_two_pow (by omega)) (by decide) (.inl rfl) hbb (by omega);have cl:ck [.lst .f (ai .f R)]=.ok (.lst .o (ai .f R)):=by
  show Res.ok (D.lst .o ((ai .f R).map D.asF))=_;rw[eY]
 refine dW (ρ:=[some (.lst .f (ai .f R)),none,none,none,none,none]) rfl ?_;unfold yQ;refine aB (ρ':=[some (.lst .f (ai .f R)),some (.lst .o (ai .f R)),none,none,none,none]) ?_ (aB (ρ':=[some (.lst .f (ai .f R)),some (.lst .o (ai .f R)),some (.int 1),none,none,none]) ?_ (aB (ρ':=bS (some (.lst .f (ai .f R))) R 1 1 none none) ?_ ?_))
 ·(repeat' first|(with_reducible first|apply cl)|sizeOf_list_dec)
 ·(repeat' sizeOf_list_dec)
 ·unfold bS;(repeat' sizeOf_list_dec)
 ·rcases wb with ⟨t',l',e4,e5,w1,w2,w3⟩ | ⟨w1,w2⟩
  ·refine aB (show mJ _ _ _=_ from w1) ?_
   have hm:bB (.int t') (.int l')=.ok (.int (t' * l')):=jz _ _ (by omega);rw[<- w2];unfold bS;(repeat' first|(with_reducible first|apply hm)|sizeOf_list_dec)
  ·rw[w2]
   exact dU (show mJ _ _ _=_ from w1)
def mnr(k:Nat)(R:List (List Int)):List (List Int):=(R.drop 1).map fun r=>r.take k++r.drop (k+1)
def sg(k:Nat):Int:=if k % 2=0 then 1 else -1
def lap:Nat->List (List Int)->Int
 | 0,_=>1
 |n+1,R=>((List.range (n+1)).map fun k=>sg k*(R.getD 0 []).getD k 0*lap n (mnr k R)).sum
def d2(a b c d:Int):Int:=a*d - b*c
def d3(a b c d e f g h i:Int):Int:=a*d2 e f h i - b*d2 d f g i+c*d2 d e g h
def d4(a b c d e f g h i j k l m n o p:Int):Int:=a*d3 f g h j k l n o p - b*d3 e g h i k l m o p+c*d3 e f h i j l m n p - d*d3 e f g i j k m n o
theorem dH{x d w:Int}(hd:d≠0)(h:x=d*w):x.fdiv d=w:=by subst h;exact Int.mul_fdiv_cancel_left w hd
theorem de{n:Nat}{R:List (List Int)}{turn last:Int}{k:Nat}(h:cz 0 R=some k):bare (n+1) R turn last=bare n ((R.eraseIdx k).map (bg (R.getD k []) last)) (if k % 2=1 then -turn else turn) ((R.getD k []).getD 0 0):=by
 show (match cz 0 R with
  |none=>0
  |some k=>bare n ((R.eraseIdx k).map (bg (R.getD k []) last)) (if k % 2=1 then -turn else turn) ((R.getD k []).getD 0 0))=_
 rw[h]
theorem jn{n:Nat}{R:List (List Int)}{turn last:Int}(h:cz 0 R=none):bare (n+1) R turn last=0:=by
 show (match cz 0 R with
  |none=>0
  |some k=>bare n ((R.eraseIdx k).map (bg (R.getD k []) last)) (if k % 2=1 then -turn else turn) ((R.getD k []).getD 0 0))=_
 rw[h]
theorem P1(x turn d:Int):bare 1 [[x]] turn d=turn*x:=by
 by_cases h:x=0
 ·rw[jn (by simp[cz,h]),h,Int.mul_zero]
 ·rw[de (k:=0) (by simp[cz,h])]
  rfl
theorem CO(t0 t1 r0 r1 d:Int):bg [t0,t1] d [r0,r1]=[(t0*r1 - r0*t1).fdiv d]:=rfl
theorem oy(t0 t1 t2 r0 r1 r2 d:Int):bg [t0,t1,t2] d [r0,r1,r2]=[(t0*r1 - r0*t1).fdiv d,(t0*r2 - r0*t2).fdiv d]:=rfl
theorem im(t0 t1 t2 t3 r0 r1 r2 r3 d:Int):bg [t0,t1,t2,t3] d [r0,r1,r2,r3]=[(t0*r1 - r0*t1).fdiv d,(t0*r2 - r0*t2).fdiv d,(t0*r3 - r0*t3).fdiv d]:=rfl
theorem P2(a b c e turn d X:Int)(hd:d≠0)(h:d2 a b c e=d*X):bare 2 [[a,b],[c,e]] turn d=turn*X:=by
 unfold d2 at h;by_cases ha:a=0
 ·by_cases hc:c=0
  ·have:X=0:=by
      have:d*X=0:=by rw[<- h,ha,hc];simp
      exact (Int.mul_eq_zero.mp this).resolve_left hd
   rw[jn (by simp[cz,ha,hc]),this,Int.mul_zero]
  ·rw[de (k:=1) (by simp[cz,ha,hc])]
   show bare 1 [bg [c,e] d [a,b]] (if 1 % 2=1 then -turn else turn) c=_;rw[CO,dH (w:=-X) hd (by grind),P1,if_pos rfl];grind
 ·rw[de (k:=0) (by simp[cz,ha])]
  show bare 1 [bg [a,b] d [c,e]] (if 0 % 2=1 then -turn else turn) a=_;rw[CO,dH (w:=X) hd (by grind),P1,if_neg (by decide)]
theorem oz{d x y:Int}(hd:d≠0)(h:d*d*x=d*d*y):x=y:=by
 have h2:d*d≠0:=fun z=>(Int.mul_eq_zero.mp z).elim hd hd;exact Int.eq_of_mul_eq_mul_left h2 h
theorem P3(a b c e f g h i j turn d X u1 u2 v1 v2 w1 w2:Int)(hd:d≠0)(hX:d3 a b c e f g h i j=d*d*X)
    (hu1:a*f - e*b=d*u1) (hu2:a*g - e*c=d*u2) (hv1:a*i - h*b=d*v1) (hv2:a*j - h*c=d*v2) (hw1:e*i - h*f=d*w1) (hw2:e*j - h*g=d*w2) :
    bare 3 [[a,b,c],[e,f,g],[h,i,j]] turn d=turn*X:=by
 by_cases ha:a=0
 ·by_cases he:e=0
  ·by_cases hh:h=0
   ·have:X=0:=by
       have:d*d*X=0:=by rw[<- hX,ha,he,hh];unfold d3 d2;grind
       rcases Int.mul_eq_zero.mp this with z | z
       ·exact ((Int.mul_eq_zero.mp z).elim hd hd).elim
       ·exact z
    rw[jn (by simp[cz,ha,he,hh]),this,Int.mul_zero]
   ·rw[de (k:=2) (by simp[cz,ha,he,hh])]
    show bare 2 [bg [h,i,j] d [a,b,c],bg [h,i,j] d [e,f,g]] (if 2 % 2=1 then -turn else turn) h=_;rw[oy,oy,dH (w:=-v1) hd (by grind),dH (w:=-v2) hd (by grind),dH (w:=-w1) hd (by grind),dH (w:=-w2) hd (by grind),if_neg (by decide)];refine P2 _ _ _ _ _ _ X hh (oz hd ?_);have k1:d*d*d2 (-v1) (-v2) (-w1) (-w2)=d2 (d*v1) (d*v2) (d*w1) (d*w2):=by unfold d2;grind
    rw[k1,<- hv1,<- hv2,<- hw1,<- hw2];have k2:d*d*(h*X)=h*d3 a b c e f g h i j:=by rw[hX];grind
    rw[k2];unfold d3 d2;grind
  ·rw[de (k:=1) (by simp[cz,ha,he])]
   show bare 2 [bg [e,f,g] d [a,b,c],bg [e,f,g] d [h,i,j]] (if 1 % 2=1 then -turn else turn) e=_;rw[oy,oy,dH (w:=-u1) hd (by grind),dH (w:=-u2) hd (by grind),dH (w:=w1) hd (by grind),dH (w:=w2) hd (by grind),if_pos rfl];rw[P2 _ _ _ _ _ _ (-X) he (oz hd ?_)]
   ·grind
   ·have k1:d*d*d2 (-u1) (-u2) w1 w2=- d2 (d*u1) (d*u2) (d*w1) (d*w2):=by unfold d2;grind
    rw[k1,<- hu1,<- hu2,<- hw1,<- hw2];have k2:d*d*(e * -X)=- (e*d3 a b c e f g h i j):=by rw[hX];grind
    rw[k2];unfold d3 d2;grind
 ·rw[de (k:=0) (by simp[cz,ha])]
  show bare 2 [bg [a,b,c] d [e,f,g],bg [a,b,c] d [h,i,j]] (if 0 % 2=1 then -turn else turn) a=_;rw[oy,oy,dH hd hu1,dH hd hu2,dH hd hv1,dH hd hv2,if_neg (by decide)];refine P2 _ _ _ _ _ _ X ha (oz hd ?_);have k1:d*d*d2 u1 u2 v1 v2=d2 (d*u1) (d*u2) (d*v1) (d*v2):=by unfold d2;grind
  rw[k1,<- hu1,<- hu2,<- hv1,<- hv2];have k2:d*d*(a*X)=a*d3 a b c e f g h i j:=by rw[hX];grind
  rw[k2];unfold d3 d2;grind
theorem bp(x:Int):x.fdiv 1=x:=by simp
theorem P4s(a b c d e f g h i j k l m n o p turn X:Int)(ha:a≠0)(hX:d4 a b c d e f g h i j k l m n o p=X) :
    bare 3 [[a*f - e*b,a*g - e*c,a*h - e*d],[a*j - i*b,a*k - i*c,a*l - i*d],[a*n - m*b,a*o - m*c,a*p - m*d]] turn a=turn*X:=by
 refine P3 _ _ _ _ _ _ _ _ _ turn a X (d3 a b c e f g i j k) (d3 a b d e f h i j l) (d3 a b c e f g m n o) (d3 a b d e f h m n p) (d3 a b c i j k m n o) (d3 a b d i j l m n p) ha ?_ ?_ ?_ ?_ ?_ ?_ ?_
 ·rw[<- hX];unfold d4 d3 d2;grind
 ·unfold d3 d2;grind
 ·unfold d3 d2;grind
 ·unfold d3 d2;grind
 ·unfold d3 d2;grind
 ·unfold d3 d2;grind
 ·unfold d3 d2;grind
theorem P4(a b c d e f g h i j k l m n o p:Int):bare 4 [[a,b,c,d],[e,f,g,h],[i,j,k,l],[m,n,o,p]] 1 1=d4 a b c d e f g h i j k l m n o p:=by
 by_cases ha:a=0
 ·by_cases he:e=0
  ·by_cases hi:i=0
   ·by_cases hm:m=0
    ·rw[jn (by simp[cz,ha,he,hi,hm]),ha,he,hi,hm];unfold d4 d3 d2;grind
    ·rw[de (k:=3) (by simp[cz,ha,he,hi,hm])]
     show bare 3 [bg [m,n,o,p] 1 [a,b,c,d],bg [m,n,o,p] 1 [e,f,g,h],bg [m,n,o,p] 1 [i,j,k,l]] (if 3 % 2=1 then -1 else 1) m=_;rw[im,im,im,bp,bp,bp,bp,bp,bp,bp,bp,bp,if_pos (by decide),P4s m n o p a b c d e f g h i j k l (-1) _ hm rfl];unfold d4 d3 d2;grind
   ·rw[de (k:=2) (by simp[cz,ha,he,hi])]
    show bare 3 [bg [i,j,k,l] 1 [a,b,c,d],bg [i,j,k,l] 1 [e,f,g,h],bg [i,j,k,l] 1 [m,n,o,p]] (if 2 % 2=1 then -1 else 1) i=_;rw[im,im,im,bp,bp,bp,bp,bp,bp,bp,bp,bp,if_neg (by decide),P4s i j k l a b c d e f g h m n o p 1 _ hi rfl];unfold d4 d3 d2;grind
  ·rw[de (k:=1) (by simp[cz,ha,he])]
   show bare 3 [bg [e,f,g,h] 1 [a,b,c,d],bg [e,f,g,h] 1 [i,j,k,l],bg [e,f,g,h] 1 [m,n,o,p]] (if 1 % 2=1 then -1 else 1) e=_;rw[im,im,im,bp,bp,bp,bp,bp,bp,bp,bp,bp,if_pos (by decide),P4s e f g h a b c d i j k l m n o p (-1) _ he rfl];unfold d4 d3 d2;grind
 ·rw[de (k:=0) (by simp[cz,ha])]
  show bare 3 [bg [a,b,c,d] 1 [e,f,g,h],bg [a,b,c,d] 1 [i,j,k,l],bg [a,b,c,d] 1 [m,n,o,p]] (if 0 % 2=1 then -1 else 1) a=_;rw[im,im,im,bp,bp,bp,bp,bp,bp,bp,bp,bp,if_neg (by decide),P4s a b c d e f g h i j k l m n o p 1 _ ha rfl,Int.one_mul]
theorem L1(a:Int):lap 1 [[a]]=a:=by show 1*a*1+0=a;grind
theorem L2'(a b c e:Int):lap 2 [[a,b],[c,e]]=d2 a b c e:=by
 show sg 0*a*lap 1 [[e]] + (sg 1*b*lap 1 [[c]] + 0)=_;rw[L1,L1,show sg 0=1 from rfl,show sg 1=-1 from rfl];unfold d2;grind
theorem L3(a b c e f g h i j:Int):lap 3 [[a,b,c],[e,f,g],[h,i,j]]=d3 a b c e f g h i j:=by
 show sg 0*a*lap 2 [[f,g],[i,j]] + (sg 1*b*lap 2 [[e,g],[h,j]] + (sg 2*c*lap 2 [[e,f],[h,i]] + 0))=_;rw[L2',L2',L2',show sg 0=1 from rfl,show sg 1=-1 from rfl,show sg 2=1 from rfl];unfold d3 d2;grind
theorem L4(a b c d e f g h i j k l m n o p:Int):lap 4 [[a,b,c,d],[e,f,g,h],[i,j,k,l],[m,n,o,p]]=d4 a b c d e f g h i j k l m n o p:=by
 show sg 0*a*lap 3 [[f,g,h],[j,k,l],[n,o,p]] + (sg 1*b*lap 3 [[e,g,h],[i,k,l],[m,o,p]] + (sg 2*c*lap 3 [[e,f,h],[i,j,l],[m,n,p]] + (sg 3*d*lap 3 [[e,f,g],[i,j,k],[m,n,o]] + 0)))=_;rw[L3,L3,L3,L3,show sg 0=1 from rfl,show sg 1=-1 from rfl,show sg 2=1 from rfl,show sg 3=-1 from rfl];unfold d4 d3 d2;grind
theorem of1{α:Type}{l:List α}(h:l.length=1):∃ a,l=[a]:=by
 match l,h with
 | [a],_=>exact ⟨a,rfl⟩
theorem of2{α:Type}{l:List α}(h:l.length=2):∃ a b,l=[a,b]:=by
 match l,h with
 | [a,b],_=>exact ⟨a,b,rfl⟩
theorem of3{α:Type}{l:List α}(h:l.length=3):∃ a b c,l=[a,b,c]:=by
 match l,h with
 | [a,b,c],_=>exact ⟨a,b,c,rfl⟩
theorem of4{α:Type}{l:List α}(h:l.length=4):∃ a b c d,l=[a,b,c,d]:=by
 match l,h with
 | [a,b,c,d],_=>exact ⟨a,b,c,d,rfl⟩
theorem yz(n:Nat)(R:List (List Int))(hn:n<=4)(M:Mat n n R):bare n R 1 1=lap n R:=by
 obtain ⟨h1,h2⟩:=M
 match n,hn with
 | 0,_=>rfl
 | 1,_=>
  obtain ⟨r,rfl⟩:=of1 h1;obtain ⟨a,rfl⟩:=of1 (h2 r (by simp));rw[P1,L1,Int.one_mul]
 | 2,_=>
  obtain ⟨r,s,rfl⟩:=of2 h1;obtain ⟨a,b,rfl⟩:=of2 (h2 r (by simp));obtain ⟨c,e,rfl⟩:=of2 (h2 s (by simp));rw[P2 a b c e 1 1 (d2 a b c e) (by decide) (by rw[Int.one_mul]),L2',Int.one_mul]
 | 3,_=>
  obtain ⟨r,s,t,rfl⟩:=of3 h1;obtain ⟨a,b,c,rfl⟩:=of3 (h2 r (by simp));obtain ⟨e,f,g,rfl⟩:=of3 (h2 s (by simp));obtain ⟨h,i,j,rfl⟩:=of3 (h2 t (by simp))
  rw[P3 a b c e f g h i j 1 1 (d3 a b c e f g h i j) _ _ _ _ _ _ (by decide) (by rw[Int.one_mul,Int.one_mul]) (Int.one_mul _).symm (Int.one_mul _).symm (Int.one_mul _).symm (Int.one_mul _).symm (Int.one_mul _).symm (Int.one_mul _).symm,L3,Int.one_mul]
 | 4,_=>
  obtain ⟨r,s,t,u,rfl⟩:=of4 h1;obtain ⟨a,b,c,d,rfl⟩:=of4 (h2 r (by simp));obtain ⟨e,f,g,h,rfl⟩:=of4 (h2 s (by simp));obtain ⟨i,j,k,l,rfl⟩:=of4 (h2 t (by simp));obtain ⟨m,n,o,p,rfl⟩:=of4 (h2 u (by simp));rw[P4,L4]
def kR(Ls:List (List Str))(r:Row):List Row:=(List.range Ls.length).flatMap fun k=>if k∈r.map (·.2) then [] else (Ls.getD k []).map fun x=>r++[(x,k)]
def a0(p:Parts)(ss:List Int):List Row:=ss.foldl (fun R s=>R.flatMap (kR (lkL p s))) [[]]
theorem rC(r:Row)(k:Nat):(k:Int)∈(r.map fun q=>(q.2:Int)) ↔ k∈r.map (·.2):=by
 rw[fU];unfold bD;rw[List.mem_map];constructor
 ·rintro ⟨j,hj,e⟩
  have:j=k:=by lia
  exact this ▸ hj
 ·intro h;exact ⟨k,h,rfl⟩
theorem tz(most:Nat)(r:Row)(Ls:List (List Str))(acc:List Row)(k:Nat):acc.length<=(e2 most r Ls acc k).length:=by
 unfold e2;split
 ·simp
 ·exact Nat.le_refl _
theorem rD(most:Nat)(r:Row)(Ls:List (List Str))(L:List Nat):∀ acc:List Row,acc.length<=(L.foldl (e2 most r Ls) acc).length:=by
 induction L with
 |nil=>intro acc;exact Nat.le_refl _
 |cons k L ih=>intro acc;exact Nat.le_trans (tz most r Ls acc k) (ih _)
theorem AC(most:Nat)(r:Row)(Ls:List (List Str))(L:List Nat):∀ acc:List Row,(L.foldl (e2 most r Ls) acc).length<=most->L.foldl (e2 most r Ls) acc=acc++L.flatMap fun k=>if k∈r.map (·.2) then [] else (Ls.getD k []).map fun x=>r++[(x,k)]:=by
 induction L with
 |nil=>intro acc _;simp
 |cons k L ih=>
  intro acc h;rw[List.foldl_cons] at h ⊢;have hm:=rD most r Ls L (e2 most r Ls acc k);have hm2:=tz most r Ls acc k;rw[ih _ h,List.flatMap_cons,<- List.append_assoc];congr 1;unfold e2;by_cases hk:k∈r.map (·.2)
  ·rw[if_neg (fun z=>z.1 ((rC r k).mpr hk)),if_pos hk,List.append_nil]
  ·rw[if_pos ⟨fun z=>hk ((rC r k).mp z),by lia⟩,if_neg hk]
theorem yA(most:Nat)(Ls:List (List Str))(R:List Row):∀ acc:List Row,acc.length<=(R.foldl (e3 most Ls) acc).length:=by
 induction R with
 |nil=>intro acc;exact Nat.le_refl _
 |cons r R ih=>intro acc;exact Nat.le_trans (rD most r Ls _ acc) (ih _)
theorem AD(most:Nat)(Ls:List (List Str))(R:List Row):∀ acc:List Row,(R.foldl (e3 most Ls) acc).length<=most->R.foldl (e3 most Ls) acc=acc++R.flatMap (kR Ls):=by
 induction R with
 |nil=>intro acc _;simp
 |cons r R ih=>
  intro acc h;rw[List.foldl_cons] at h ⊢;have hm:=yA most Ls R (e3 most Ls acc r);rw[ih _ h,List.flatMap_cons,<- List.append_assoc];congr 1;exact AC most r Ls _ acc (by show (e3 most Ls acc r).length<=most;lia)
theorem wY(p:Parts)(most:Nat)(ss:List Int):∀ R0 R:List Row,cJ (fun R s=>if most<(e4 most (lkL p s) R).length then .inr .non else .inl (e4 most (lkL p s) R)) ss R0=.inl R->R=ss.foldl (fun R s=>R.flatMap (kR (lkL p s))) R0:=by
 induction ss with
 |nil=>intro R0 R h;unfold cJ at h;cases h;rfl
 |cons s ss ih=>
  intro R0 R h;unfold cJ at h;by_cases hc:most<(e4 most (lkL p s) R0).length
  ·rw[if_pos hc] at h;cases h
  ·rw[if_neg hc] at h
   have:=ih _ _ h;rw[List.foldl_cons,this];congr 1;have:=AD most (lkL p s) R0 [] (by show (e4 most (lkL p s) R0).length<=most;lia);rw[List.nil_append] at this;exact this
theorem kS(p:Parts)(ss:List Int)(s:Int):a0 p (ss++[s])=(a0 p ss).flatMap (kR (lkL p s)):=by
 unfold a0;rw[List.foldl_append];rfl
theorem mem_extR{p:Parts}{s:Int}{r r':Row}:r'∈kR (lkL p s) r ↔ ∃ k x e,p.ends[k]?=some e/\k∉r.map (·.2)/\x∈lkW p s e/\r'=r++[(x,k)]:=by
 unfold kR;rw[List.mem_flatMap];have hl:(lkL p s).length=p.ends.length:=by unfold lkL;simp
 constructor
 ·rintro ⟨k,hk,h⟩
  have hk:=List.mem_range.mp hk;rw[hl] at hk;by_cases hm:k∈r.map (·.2)
  ·rw[if_pos hm] at h;cases h
  ·rw[if_neg hm] at h
   obtain ⟨x,hx,rfl⟩:=List.mem_map.mp h;refine ⟨k,x,p.ends[k],List.getElem?_eq_getElem hk,hm,?_,rfl⟩;unfold lkL at hx;rw[List.getD,List.getElem?_map,List.getElem?_eq_getElem hk] at hx;exact hx
 ·rintro ⟨k,x,e,he,hm,hx,rfl⟩
  obtain ⟨hk,_⟩:=List.getElem?_eq_some_iff.mp he;refine ⟨k,List.mem_range.mpr (by rw[hl];exact hk),?_⟩;rw[if_neg hm];refine List.mem_map.mpr ⟨x,?_,rfl⟩;unfold lkL;rw[List.getD,List.getElem?_map,he];exact hx
theorem yB{p:Parts}{ss:List Int}{r:Row}(ok:RowOk p ss r){s e:Int}{x:Str}{k:Nat}(hk:k∉r.map (·.2))(he:p.ends[k]?=some e)(hx:x∈lkW p s e):RowOk p (ss++[s]) (r++[(x,k)]):=by
 refine ⟨by simp[ok.l],?_,fun q hq=>?_⟩
 ·rw[List.map_append,List.nodup_append]
  refine ⟨ok.n,by simp,fun a ha b hb=>?_⟩;have:b=k:=by simpa using hb
  subst this;exact fun z=>hk (z ▸ ha)
 ·rw[List.zip_append ok.l.symm] at hq
  rcases List.mem_append.mp hq with h | h
  ·exact ok.a q h
  ·have:q=(s,(x,k)):=by simpa using h
   subst this;exact ⟨e,he,hx⟩
theorem CP:∀ l:List Nat,PySem.Spec.ltCps l l=false:=by
 intro l;induction l with
 |nil=>rfl
 |cons c l ih=>simp[PySem.Spec.ltCps,ih]
theorem wZ{m w:Nat}{p:Parts}(G:Good m w p)(s e:Int)(hs:0<=s/\s<p.rows):(lkW p s e).Nodup:=by
 have c1:=G.c1;have o:On p 0 s:=⟨⟨by lia,by lia⟩,hs⟩
 unfold lkW;split
 ·unfold dy
  have pw:=(iH G s ((p.cols - 1:Nat):Int) e o (p.cols - 1+(e.toNat - s.toNat))).1;unfold List.Nodup;rw[List.pairwise_map];refine (pw.filter _).imp fun h z=>?_;have h:=h;rw[z] at h;exact absurd h (by unfold ltS;rw[CP];decide)
 ·exact .nil
theorem iy{m w:Nat}{p:Parts}(G:Good m w p)(n:Nat):∀ ss:List Int,ss.length=n->(∀ s∈ss,0<=s/\s<p.rows)->(a0 p ss).Nodup/\∀ r,r∈a0 p ss ↔ RowOk p ss r:=by
 induction n with
 |zero=>
  intro ss hl _;have:ss=[]:=List.length_eq_zero_iff.mp hl;subst this;refine ⟨by unfold a0;simp,fun r=>?_⟩;show r∈[[]] ↔ _;rw[List.mem_singleton];constructor
  ·rintro rfl;exact ⟨rfl,.nil,fun q hq=>by simp at hq⟩
  ·intro ok;exact List.length_eq_zero_iff.mp ok.l
 |succ n ih=>
  intro ss hl hs;have hne:ss≠[]:=fun e=>by subst e;simp at hl
  have hss:=List.dropLast_concat_getLast hne;generalize hd:ss.dropLast=tt at hss;generalize ss.getLast hne=s at hss;subst hss;have hlt:tt.length=n:=by simpa using hl
  obtain ⟨nd,mem⟩:=ih tt hlt (fun x hx=>hs x (List.mem_append_left _ hx));have hs0:=hs s (by simp);rw[kS];constructor
  ·unfold List.Nodup
   rw[List.pairwise_flatMap];constructor
   ·intro r hr
    unfold kR;rw[List.pairwise_flatMap];constructor
    ·intro k hk
     by_cases hm:k∈r.map (·.2)
     ·rw[if_pos hm];exact .nil
     ·rw[if_neg hm,List.pairwise_map]
      have hk:=List.mem_range.mp hk;have hl2:(lkL p s).length=p.ends.length:=by unfold lkL;simp
      rw[hl2] at hk;have:(lkL p s).getD k []=lkW p s p.ends[k]:=by unfold lkL;rw[List.getD,List.getElem?_map,List.getElem?_eq_getElem hk];rfl
      rw[this];exact (wZ G s _ hs0).imp fun h z=>h (by simpa using z)
    ·refine List.Pairwise.imp ?_ (List.nodup_range (n:=(lkL p s).length))
     intro k k' hk x hx y hy e;by_cases hm:k∈r.map (·.2)
     ·rw[if_pos hm] at hx;cases hx
     ·by_cases hm':k'∈r.map (·.2)
      ·rw[if_pos hm'] at hy;cases hy
      ·rw[if_neg hm] at hx
       rw[if_neg hm'] at hy;obtain ⟨u,_,rfl⟩:=List.mem_map.mp hx;obtain ⟨v,_,rfl⟩:=List.mem_map.mp hy;have:=List.append_cancel_left e;simp at this;exact hk this.2
   ·refine List.Pairwise.imp ?_ nd
    intro r r' hr x hx y hy e;obtain ⟨k,u,_,_,_,_,rfl⟩:=mem_extR.mp hx;obtain ⟨k',u',_,_,_,_,rfl⟩:=mem_extR.mp hy;exact hr (List.append_inj_left' e rfl)
  ·intro r
   rw[List.mem_flatMap];constructor
   ·rintro ⟨r0,h0,h1⟩
    obtain ⟨k,x,e,he,hk,hx,rfl⟩:=mem_extR.mp h1;exact yB ((mem r0).mp h0) hk he hx
   ·intro ok
    have hrl:r.length=n+1:=by rw[ok.l];simp[hlt]
    have hne2:r≠[]:=fun e=>by subst e;simp at hrl
    have hrr:=List.dropLast_concat_getLast hne2;generalize r.dropLast=r0 at hrr;generalize r.getLast hne2=z at hrr;subst hrr;obtain ⟨x,k⟩:=z;have hl0:r0.length=tt.length:=by have:=ok.l;simp at this;exact this
    have nn:=ok.n;rw[List.map_append,List.nodup_append] at nn;have aa:=ok.a;rw[List.zip_append hl0.symm] at aa;have ok0:RowOk p tt r0:=⟨hl0,nn.1,fun q hq=>aa q (List.mem_append_left _ hq)⟩
    obtain ⟨e,he,hx⟩:=aa (s,(x,k)) (List.mem_append_right _ (by simp));exact ⟨r0,(mem r0).mpr ok0,mem_extR.mpr ⟨k,x,e,he,fun h=>nn.2.2 k h k (by simp) rfl,hx,rfl⟩⟩
theorem yC{α:Type}{f:α->Int}{A B:List α}(h:A.Perm B):(A.map f).sum=(B.map f).sum:=by
 induction h with
 |nil=>rfl
 |cons x _ ih=>rw[List.map_cons,List.map_cons,List.sum_cons,List.sum_cons,ih]
 |swap x y l=>simp only[List.map_cons,List.sum_cons];lia
 |trans _ _ a b=>rw[a,b]
theorem AE{α:Type}(f:α->Int)(L:List α):(L.map fun x=>- f x).sum=- (L.map f).sum:=by
 induction L with
 |nil=>rfl
 |cons x L ih=>rw[List.map_cons,List.map_cons,List.sum_cons,List.sum_cons,ih];lia
theorem AF{α:Type}[DecidableEq α]{f:α->Int}{σ:α->α}{L:List α}(nd:L.Nodup)(h1:∀ x∈L,σ x∈L)(h2:∀ x∈L,σ (σ x)=x)(h3:∀ x∈L,f (σ x)=- f x):(L.map f).sum=0:=by
 have nd2:(L.map σ).Nodup:=by
  unfold List.Nodup;rw[List.pairwise_map];exact List.Pairwise.imp_of_mem (fun ha hb hab e=>hab (by rw[<- h2 _ ha,e,h2 _ hb])) nd
 have pm:(L.map σ).Perm L:=by
  rw[List.perm_iff_count];intro a;by_cases ha:a∈L
  ·have ha2:a∈L.map σ:=List.mem_map.mpr ⟨σ a,h1 a ha,h2 a ha⟩
   rw[List.Nodup.count nd2,List.Nodup.count nd,if_pos ha,if_pos ha2]
  ·have ha2:a∉L.map σ:=fun m=>by
      obtain ⟨b,hb,e⟩:=List.mem_map.mp m;exact ha (e ▸ h1 b hb)
   rw[List.Nodup.count nd2,List.Nodup.count nd,if_neg ha,if_neg ha2]
 have e:=yC (f:=f) pm;rw[List.map_map] at e;have e2:L.map (f ∘ σ)=L.map fun x=>- f x:=List.map_congr_left fun x hx=>h3 x hx;rw[e2,AE] at e;lia
theorem yD{α β:Type}:∀ {A B:List (α × β)},A.map (·.1)=B.map (·.1)->A.map (·.2)=B.map (·.2)->A=B:=by
 intro A;induction A with
 |nil=>intro B h _;cases B with | nil=>rfl | cons b B=>simp at h
 |cons a A ih=>
  intro B h1 h2
  cases B with
  |nil=>simp at h1
  |cons b B=>
   simp only[List.map_cons,List.cons.injEq] at h1 h2;rw[ih h1.2 h2.2,Prod.ext h1.1 h2.1]
def sgm(p:Parts)(r:Row):Row:=match cw (bU p r) with
 |some z=>swR p r z
 |none=>r
def iZ(p:Parts)(r:Row):Int:=cj (r.map fun q=>(q.2:Int))*c9 p r
theorem AG{p:Parts}{r:Row}{i j:Nat}{q:Int × Int}(S:Sw p r i j q):swR p (swR p r (i,q,j)) (i,q,j)=r:=by
 have hij:=S.lt;refine yD (by rw[y6];exact S.back) ?_;rw[pO,pO];have k1:rk0 (swR p r (i,q,j)) i=rk0 r j:=(lD (q:=(swX p r (i,q,j),rk0 r j)) (by rw[ig p r i j q S.hi S.hj,if_neg (by lia),if_pos rfl])).2;have k2:rk0 (swR p r (i,q,j)) j=rk0 r i:=(lD (q:=(swY p r (i,q,j),rk0 r i)) (by rw[ig p r i j q S.hi S.hj,if_pos rfl])).2;dsimp only;rw[k1,k2];refine List.ext_getElem? fun t=>?_
 rw[List.getElem?_set,List.length_set,List.length_set,List.length_set,List.length_map];by_cases e:j=t
 ·subst e
  rw[if_pos rfl,if_pos S.hj,List.getElem?_map];unfold rk0;simp[List.getD,S.hj]
 ·rw[if_neg e,List.getElem?_set,List.length_set,List.length_set,List.length_map]
  by_cases e2:i=t
  ·subst e2
   rw[if_pos rfl,if_pos S.hi,List.getElem?_map];unfold rk0;simp[List.getD,S.hi]
  ·rw[if_neg e2,List.getElem?_set,if_neg e,List.getElem?_set,if_neg e2]
theorem uO{m w:Nat}{p:Parts}(G:Good m w p)(h8:m<=8)(hw:w<=4):(((a0 p p.starts).filter fun r=>(cw (bU p r)).isSome).map (iZ p)).sum=0:=by
 obtain ⟨el,sl,ei,si,s1⟩:=bL G;obtain ⟨nd,mem⟩:=iy G p.starts.length p.starts rfl si;have key:∀ r∈(a0 p p.starts).filter (fun r=>(cw (bU p r)).isSome),∃ i q j,cw (bU p r)=some (i,q,j)/\RowOk p p.starts r:=fun r hr=>by
  obtain ⟨h1,h2⟩:=List.mem_filter.mp hr;obtain ⟨⟨i,q,j⟩,hz⟩:=Option.isSome_iff_exists.mp h2;exact ⟨i,q,j,hz,(mem r).mp h1⟩
 refine AF (σ:=sgm p) (nd.filter _) (fun r hr=>?_) (fun r hr=>?_) (fun r hr=>?_)
 ·obtain ⟨i,q,j,hf,ok⟩:=key r hr
  have S:=qY G h8 hw ok hf;unfold sgm;rw[hf];exact List.mem_filter.mpr ⟨(mem _).mpr S.ok,by rw[S.first];rfl⟩
 ·obtain ⟨i,q,j,hf,ok⟩:=key r hr
  have S:=qY G h8 hw ok hf;have e:sgm p r=swR p r (i,q,j):=by unfold sgm;rw[hf]
  rw[e];unfold sgm;rw[S.first];exact AG S
 ·obtain ⟨i,q,j,hf,ok⟩:=key r hr
  have S:=qY G h8 hw ok hf;have e:sgm p r=swR p r (i,q,j):=by unfold sgm;rw[hf]
  rw[e];unfold iZ;rw[yu G hw ok S,wR G h8 hw ok S,Int.neg_mul]
def wtS(p:Parts)(s:Int)(k:Nat):Int:=((lkW p s (p.ends.getD k 0)).map (wt p s)).sum
def du(p:Parts)(ss:List Int)(r:Row):Int:=(ss.zip r).foldl (fun t q=>t*wt p q.1 q.2.1) 1
theorem uP(p:Parts){ss:List Int}{r:Row}(h:r.length=ss.length)(s:Int)(x:Str)(k:Nat):du p (ss++[s]) (r++[(x,k)])=du p ss r*wt p s x:=by
 unfold du;rw[List.zip_append h.symm,List.foldl_append];rfl
theorem rE{α β:Type}(f:β->Int)(g:α->List β)(L:List α):((L.flatMap g).map f).sum=(L.map fun x=>((g x).map f).sum).sum:=by
 induction L with
 |nil=>rfl
 |cons x L ih=>rw[List.flatMap_cons,List.map_append,List.sum_append,List.map_cons,List.sum_cons,ih]
theorem tE{α:Type}(c:Int)(f:α->Int)(L:List α):(L.map fun x=>c*f x).sum=c*(L.map f).sum:=by
 induction L with
 |nil=>simp
 |cons x L ih=>rw[List.map_cons,List.map_cons,List.sum_cons,List.sum_cons,ih,Int.mul_add]
def aN(p:Parts)(s:Int)(g:List Nat->Int)(ks:List Nat):Int:=((List.range p.ends.length).map fun k=>if k∈ks then 0 else g (ks++[k])*wtS p s k).sum
theorem dP{m w:Nat}{p:Parts}(G:Good m w p)(ss:List Int)(hs:∀ x∈ss,0<=x/\x<p.rows)(s:Int)(g:List Nat->Int) :
    ((a0 p (ss++[s])).map fun r=>g (r.map (·.2))*du p (ss++[s]) r).sum=((a0 p ss).map fun r=>aN p s g (r.map (·.2))*du p ss r).sum:=by
 obtain ⟨nd,mem⟩:=iy G ss.length ss rfl hs;rw[kS,rE];congr 1;refine List.map_congr_left fun r hr=>?_;have hl:=((mem r).mp hr).l;unfold kR;rw[rE];unfold aN;have hl2:(lkL p s).length=p.ends.length:=by unfold lkL;simp
 rw[hl2,Int.mul_comm,<- tE];congr 1;refine List.map_congr_left fun k hk=>?_;have hk:=List.mem_range.mp hk;by_cases hm:k∈r.map (·.2)
 ·rw[if_pos hm,if_pos hm];simp
 ·rw[if_neg hm,if_neg hm,List.map_map]
  have e1:(lkL p s).getD k []=lkW p s (p.ends.getD k 0):=by unfold lkL;rw[List.getD,List.getElem?_map,List.getD,List.getElem?_eq_getElem hk];rfl
  rw[e1];unfold wtS;rw[show du p ss r*(g (r.map (·.2)++[k])*((lkW p s (p.ends.getD k 0)).map (wt p s)).sum)=(g (r.map (·.2)++[k])*du p ss r)*((lkW p s (p.ends.getD k 0)).map (wt p s)).sum by ac_rfl,<- tE];congr 1;refine List.map_congr_left fun x _=>?_;show g ((r++[(x,k)]).map (·.2))*du p (ss++[s]) (r++[(x,k)])=_;rw[uP p hl,List.map_append];show g (r.map (·.2)++[k])*(du p ss r*wt p s x)=_;ac_rfl
theorem lF(p:Parts)(g:List Nat->Int):((a0 p []).map fun r=>g (r.map (·.2))*du p [] r).sum=g []:=by
 show g [] * 1+0=g [];lia
theorem uQ(p:Parts)(s x y:Int):∀ R:List Pt,(((R.filter fun q=>q.1=(x,y)).map fun q=>q.2).map (wt p s)).sum=Ws p s x y R:=by
 intro R;induction R with
 |nil=>rfl
 |cons q R ih=>
  rw[fV];by_cases h:q.1=(x,y)
  ·rw[List.filter_cons_of_pos (by simpa using h),List.map_cons,List.map_cons,List.sum_cons,ih,if_pos h]
  ·rw[List.filter_cons_of_neg (by simpa using h),ih,if_neg h,Int.zero_add]
theorem CQ{m w:Nat}{p:Parts}(G:Good m w p)(s e:Int)(hs:0<=s/\s<p.rows)(he:0<=e/\e<p.rows):((lkW p s e).map (wt p s)).sum=(b6 p s (p.cols - 1)).getD e.toNat 0:=by
 have c1:=G.c1;obtain ⟨S,rfl⟩:∃ S:Nat,s=(S:Int):=⟨s.toNat,by lia⟩
 obtain ⟨E,rfl⟩:∃ E:Nat,e=(E:Int):=⟨e.toNat,by lia⟩
 rw[Int.toNat_natCast];show _=cf p S (p.cols - 1) E;unfold lkW;by_cases h:(S:Int)<=(E:Int)
 ·rw[if_pos h]
  unfold dy;rw[uQ,Int.toNat_natCast,Int.toNat_natCast,CL G S (p.cols - 1) E (by lia) (by lia) (by lia) _ _ _ (Nat.le_refl _) (Nat.le_refl _),if_pos (by lia)]
 ·rw[if_neg h,dc p S (p.cols - 1) E (by lia) (by lia)];rfl
theorem oA{m w:Nat}{p:Parts}(G:Good m w p)(s:Int)(hs:0<=s/\s<p.rows):bR p s=(List.range p.ends.length).map (wtS p s):=by
 obtain ⟨el,sl,ei,si,s1⟩:=bL G;unfold bR;refine List.ext_getElem (by simp) fun k h1 h2=>?_;rw[List.getElem_map,List.getElem_map,List.getElem_range];have hk:k<p.ends.length:=by simpa using h1
 have he:=ei p.ends[k] (List.getElem_mem hk);unfold wtS;rw[fT hk,CQ G s _ hs he]
theorem EB:cj (bD [0])=1/\(cj (bD [0,1])=1/\cj (bD [1,0])=-1)/\cj (bD [0,1,2])=1/\cj (bD [0,2,1])=-1/\cj (bD [1,0,2])=-1/\cj (bD [1,2,0])=1/\cj (bD [2,0,1])=1/\cj (bD [2,1,0])=-1:=by decide +kernel
def sK(ks:List Nat):Int:=cj (bD ks)
theorem CT{m w:Nat}{p:Parts}(G:Good m w p)(h3:p.starts.length<=3):((a0 p p.starts).map (iZ p)).sum=lap p.starts.length (p.starts.map (bR p)):=by
 obtain ⟨el,sl,ei,si,s1⟩:=bL G;have e0:(a0 p p.starts).map (iZ p)=(a0 p p.starts).map fun r=>sK (r.map (·.2))*du p p.starts r:=by
  refine List.map_congr_left fun r _=>?_;unfold iZ c9 du sK;rw[fU]
 rw[e0];have hr:p.starts.map (bR p)=p.starts.map fun s=>(List.range p.starts.length).map (wtS p s):=List.map_congr_left fun s hs=>by rw[oA G s (si s hs),sl]
 rw[hr];obtain ⟨q1,⟨q2,q3⟩,q4,q5,q6,q7,q8,q9⟩:=EB;clear e0 hr
 match hS:p.starts,h3,s1 with
 | [],_,h=>simp at h
 | [a],_,_=>
  rw[hS] at sl si;have h:=(dP G [] (fun x hx=>by cases hx) a sK).trans (lF p _);have h:((a0 p [a]).map fun r=>sK (r.map (·.2))*du p [a] r).sum=aN p a sK []:=h;rw[h];unfold aN;rw[<- sl];show (((if 0∈([]:List Nat) then 0 else cj (bD [0])*wtS p a 0)+0:Int))=lap 1 [[wtS p a 0]];rw[L1,q1,if_neg (by simp)];lia
 | [a,b],_,_=>
  rw[hS] at sl si;have h:=(dP G [a] (fun x hx=>si x (by simp at hx ⊢;exact .inl hx)) b sK).trans ((dP G [] (fun x hx=>by cases hx) a (aN p b sK)).trans (lF p _));have h:((a0 p [a,b]).map fun r=>sK (r.map (·.2))*du p [a,b] r).sum=aN p a (aN p b sK) []:=h;rw[h];unfold aN;rw[<- sl]
  show ((if 0∈([]:List Nat) then 0 else ((if 0∈[0] then 0 else cj (bD [0,0])*wtS p b 0)+((if 1∈[0] then 0 else cj (bD [0,1])*wtS p b 1)+0))*wtS p a 0)+((if 1∈([]:List Nat) then 0 else ((if 0∈[1] then 0 else cj (bD [1,0])*wtS p b 0)+((if 1∈[1] then 0 else cj (bD [1,1])*wtS p b 1)+0))*wtS p a 1)+0):Int)=lap 2 [[wtS p a 0,wtS p a 1],[wtS p b 0,wtS p b 1]];rw[L2',q2,q3];unfold d2
  rw[if_neg (by simp),if_pos (by simp),if_neg (by simp),if_neg (by simp),if_neg (by simp),if_pos (by simp)];grind
 | [a,b,c],_,_=>
  rw[hS] at sl si;have h:=(dP G [a,b] (fun x hx=>si x (by simp at hx ⊢;lia)) c sK).trans ((dP G [a] (fun x hx=>si x (by simp at hx ⊢;exact .inl hx)) b (aN p c sK)).trans ((dP G [] (fun x hx=>by cases hx) a (aN p b (aN p c sK))).trans (lF p _)));have h:((a0 p [a,b,c]).map fun r=>sK (r.map (·.2))*du p [a,b,c] r).sum=aN p a (aN p b (aN p c sK)) []:=h;rw[h];have n3:p.ends.length=3:=sl.symm
  have st:∀ (s:Int) (g:List Nat->Int) (ks:List Nat),aN p s g ks=(if 0∈ks then 0 else g (ks++[0])*wtS p s 0)+((if 1∈ks then 0 else g (ks++[1])*wtS p s 1)+((if 2∈ks then 0 else g (ks++[2])*wtS p s 2)+0)):=fun s g ks=>by
   unfold aN;rw[n3];rfl
  have t2:∀ (u v k:Nat),[u,v].Nodup->k<3->k≠u->k≠v->u<3->v<3->aN p c sK [u,v]=sK [u,v,k] * wtS p c k:=by
   intro u v k hn hk h1 h2 h3 h4;rw[st];simp only[List.nodup_cons,List.mem_singleton,List.not_mem_nil,not_false_eq_true,List.nodup_nil,and_true] at hn;have hk':k=0\/k=1\/k=2:=by lia
   rcases hk' with rfl | rfl | rfl
   ·rw[if_neg (by simp;lia),if_pos (by simp;lia),if_pos (by simp;lia)];simp
   ·rw[if_pos (by simp;lia),if_neg (by simp;lia),if_pos (by simp;lia)];simp
   ·rw[if_pos (by simp;lia),if_pos (by simp;lia),if_neg (by simp;lia)];simp
  have f0:aN p b (aN p c sK) [0]=sK [0,1,2] * wtS p c 2*wtS p b 1+sK [0,2,1] * wtS p c 1*wtS p b 2:=by
   rw[st,if_pos (by simp),if_neg (by simp),if_neg (by simp)];show (0:Int)+(aN p c sK [0,1] * wtS p b 1+(aN p c sK [0,2] * wtS p b 2+0))=_;rw[t2 0 1 2 (by simp) (by lia) (by lia) (by lia) (by lia) (by lia),t2 0 2 1 (by simp) (by lia) (by lia) (by lia) (by lia) (by lia)];lia
  have f1:aN p b (aN p c sK) [1]=sK [1,0,2] * wtS p c 2*wtS p b 0+sK [1,2,0] * wtS p c 0*wtS p b 2:=by
   rw[st,if_neg (by simp),if_pos (by simp),if_neg (by simp)];show aN p c sK [1,0] * wtS p b 0+((0:Int)+(aN p c sK [1,2] * wtS p b 2+0))=_;rw[t2 1 0 2 (by simp) (by lia) (by lia) (by lia) (by lia) (by lia),t2 1 2 0 (by simp) (by lia) (by lia) (by lia) (by lia) (by lia)];lia
  have f2:aN p b (aN p c sK) [2]=sK [2,0,1] * wtS p c 1*wtS p b 0+sK [2,1,0] * wtS p c 0*wtS p b 1:=by
   rw[st,if_neg (by simp),if_neg (by simp),if_pos (by simp)];show aN p c sK [2,0] * wtS p b 0+(aN p c sK [2,1] * wtS p b 1+((0:Int)+0))=_;rw[t2 2 0 1 (by simp) (by lia) (by lia) (by lia) (by lia) (by lia),t2 2 1 0 (by simp) (by lia) (by lia) (by lia) (by lia) (by lia)];lia
  have f3:aN p a (aN p b (aN p c sK)) []=aN p b (aN p c sK) [0] * wtS p a 0+aN p b (aN p c sK) [1] * wtS p a 1+aN p b (aN p c sK) [2] * wtS p a 2:=by
   rw[st,if_neg (by simp),if_neg (by simp),if_neg (by simp)];show aN p b (aN p c sK) [0] * wtS p a 0+(aN p b (aN p c sK) [1] * wtS p a 1+(aN p b (aN p c sK) [2] * wtS p a 2+0))=_;lia
  rw[f3,f0,f1,f2];unfold sK;rw[q4,q5,q6,q7,q8,q9];show _=lap 3 [[wtS p a 0,wtS p a 1,wtS p a 2],[wtS p b 0,wtS p b 1,wtS p b 2],[wtS p c 0,wtS p c 1,wtS p c 2]];rw[L3];unfold d3 d2;grind
theorem nH(a:Ads)(v:Int):dl a [.int v]=.ok (.bl true):=by
 refine dW (ρ:=[some (.int v)]) rfl ?_;unfold kA;have e1:nP "int" (.int v)=.ok (.bl true):=rfl;have e2:nP "bool" (.int v)=.ok (.bl false):=rfl;refine gT (yW (b:=true) (c:=!false) ?_ (yX ?_)) (ntb rfl)
 ·(repeat' first|(with_reducible first|apply e1)|sizeOf_list_dec)
 ·(repeat' first|(with_reducible first|apply e2)|sizeOf_list_dec)
theorem DU{m w:Nat}{p:Parts}(G:Good m w p)(h8:m<=8)(s e:Int)(hs:0<=s/\s<p.rows)(he:0<=e/\e<p.rows)(x:Str)(hx:x∈lkW p s e):(wt p s x).natAbs<2 ^ 140:=by
 have c1:=G.c1;have r1:=G.r1;obtain ⟨_,_,ps,v,h3,h4⟩:=wH G h8 s e hs.1 hs.2 he.2 x hx;have d:=dE h3;have b:=y7 G _ d.1 d.2;have hlen:(a9 x).length<=14:=by
  have ga:=jU p _ _ _ _ _ d.2;have hl:((0,s)::ps)[ps.length]?=some (aY (0,s) ps):=by
   unfold aY
   cases ps with
   |nil=>rfl
   |cons a b=>rw[List.length_cons,List.getElem?_cons_succ,List.getLast?_eq_getElem?,List.length_cons];simp
  have:=ga.2 _ _ hl;rw[h4] at this;dsimp only at this;lia
 rw[lE d.2];have hN:1000 ^ (a9 x).length<=1000 ^ 14:=Nat.pow_le_pow_right (by decide) hlen;have hc:(((1000 ^ (a9 x).length:Nat)):Int)=1000 ^ (a9 x).length:=by simp
 have h14:1000 ^ 14<2 ^ 140:=by decide
 generalize 2 ^ 140=B at h14 ⊢;generalize 1000 ^ 14=C at hN h14;rw[<- hc] at b;generalize 1000 ^ (a9 x).length=E at hN b;lia
theorem AH{α:Type}(f:α->Int)(B:Nat)(L:List α)(h:∀ x∈L,(f x).natAbs<B):(L.map f).sum.natAbs<=L.length*B:=by
 induction L with
 |nil=>simp
 |cons x L ih=>
  rw[List.map_cons,List.sum_cons,List.length_cons];have h1:=h x (by simp);have h2:=ih fun y hy=>h y (by simp[hy]);have h3:=Int.natAbs_add_le (f x) ((L.map f).sum);rw[Nat.add_mul,Nat.one_mul];lia
theorem tF{m w:Nat}{p:Parts}(G:Good m w p):Mat p.starts.length p.starts.length (p.starts.map (bR p)):=by
 obtain ⟨el,sl,ei,si,s1⟩:=bL G;refine ⟨by simp,fun r hr=>?_⟩;obtain ⟨s,hs,rfl⟩:=List.mem_map.mp hr;unfold bR;rw[List.length_map,sl]
theorem DV:sK [0,1,2,3]=1/\sK [0,1,3,2]=-1/\sK [0,2,1,3]=-1/\sK [0,2,3,1]=1/\sK [0,3,1,2]=1/\sK [0,3,2,1]=-1/\sK [1,0,2,3]=-1/\sK [1,0,3,2]=1/\sK [1,2,0,3]=1/\sK [1,2,3,0]=-1/\sK [1,3,0,2]=-1/\sK [1,3,2,0]=1/\sK [2,0,1,3]=1/\sK [2,0,3,1]=-1/\sK [2,1,0,3]=-1/\sK [2,1,3,0]=1/\sK [2,3,0,1]=1/\sK [2,3,1,0]=-1/\sK [3,0,1,2]=-1/\sK [3,0,2,1]=1/\sK [3,1,0,2]=1/\sK [3,1,2,0]=-1/\sK [3,2,0,1]=-1/\sK [3,2,1,0]=1:=by unfold sK;decide +kernel
theorem AI{m w:Nat}{p:Parts}(G:Good m w p)(h4:p.starts.length=4):((a0 p p.starts).map (iZ p)).sum=lap p.starts.length (p.starts.map (bR p)):=by
 obtain ⟨el,sl,ei,si,s1⟩:=bL G;have e0:(a0 p p.starts).map (iZ p)=(a0 p p.starts).map fun r=>sK (r.map (·.2))*du p p.starts r:=by
  refine List.map_congr_left fun r _=>?_;unfold iZ c9 du sK;rw[fU]
 rw[e0];have hr:p.starts.map (bR p)=p.starts.map fun s=>(List.range p.starts.length).map (wtS p s):=List.map_congr_left fun s hs=>by rw[oA G s (si s hs),sl]
 rw[hr];obtain ⟨k0,k1,k2,k3,k4,k5,k6,k7,k8,k9,k10,k11,k12,k13,k14,k15,k16,k17,k18,k19,k20,k21,k22,k23⟩:=DV;clear e0 hr
 match hS:p.starts,h4 with
 | [a,b,c,d],_=>
  rw[hS] at sl si;have h:=(dP G [a,b,c] (fun x hx=>si x (by simp at hx ⊢;lia)) d sK).trans ((dP G [a,b] (fun x hx=>si x (by simp at hx ⊢;lia)) c (aN p d sK)).trans ((dP G [a] (fun x hx=>si x (by simp at hx ⊢;exact .inl hx)) b (aN p c (aN p d sK))).trans ((dP G [] (fun x hx=>by cases hx) a (aN p b (aN p c (aN p d sK)))).trans (lF p _))))
  have h:((a0 p [a,b,c,d]).map fun r=>sK (r.map (·.2))*du p [a,b,c,d] r).sum=aN p a (aN p b (aN p c (aN p d sK))) []:=h;rw[h];have n4:p.ends.length=4:=sl.symm
  have st:∀ (s:Int) (g:List Nat->Int) (ks:List Nat),aN p s g ks=(if 0∈ks then 0 else g (ks++[0])*wtS p s 0)+((if 1∈ks then 0 else g (ks++[1])*wtS p s 1)+((if 2∈ks then 0 else g (ks++[2])*wtS p s 2)+((if 3∈ks then 0 else g (ks++[3])*wtS p s 3)+0))):=fun s g ks=>by
   unfold aN;rw[n4];rfl
  show _=lap 4 [[wtS p a 0,wtS p a 1,wtS p a 2,wtS p a 3],[wtS p b 0,wtS p b 1,wtS p b 2,wtS p b 3],[wtS p c 0,wtS p c 1,wtS p c 2,wtS p c 3],[wtS p d 0,wtS p d 1,wtS p d 2,wtS p d 3]];rw[L4];simp only[st];simp[k0,k1,k2,k3,k4,k5,k6,k7,k8,k9,k10,k11,k12,k13,k14,k15,k16,k17,k18,k19,k20,k21,k22,k23];unfold d4 d3 d2;grind
theorem AJ{m w:Nat}{p:Parts}(G:Good m w p)(h4:p.starts.length<=4):((a0 p p.starts).map (iZ p)).sum=lap p.starts.length (p.starts.map (bR p)):=by
 by_cases h:p.starts.length<=3
 ·exact CT G h
 ·exact AI G (by lia)
theorem w5{α:Type}(f:α->Int)(P:α->Bool)(L:List α):(L.map f).sum=((L.filter P).map f).sum+((L.filter fun x=>!P x).map f).sum:=by
 induction L with
 |nil=>rfl
 |cons x L ih=>
  rw[List.map_cons,List.sum_cons,ih]
  cases h:P x with
  |true=>rw[List.filter_cons_of_pos h,List.filter_cons_of_neg (by simp[h]),List.map_cons,List.sum_cons];lia
  |false=>rw[List.filter_cons_of_neg (by simp[h]),List.filter_cons_of_pos (by simp[h]),List.map_cons,List.sum_cons];lia
def fP(p:Parts)(r:Row):Bool:=!(cw (bU p r)).isSome
theorem w6(n:Nat)(h:n<=4):cj (bD (List.range n))=1:=by
 have:n=0\/n=1\/n=2\/n=3\/n=4:=by lia
 rcases this with rfl | rfl | rfl | rfl | rfl<;>decide +kernel
theorem rF{m w:Nat}{p:Parts}(G:Good m w p)(h8:m<=8)(hw:w<=4):(((a0 p p.starts).filter (fP p)).map (c9 p)).sum=lap p.starts.length (p.starts.map (bR p)):=by
 obtain ⟨el,sl,ei,si,s1⟩:=bL G;obtain ⟨nd,mem⟩:=iy G p.starts.length p.starts rfl si;rw[<- AJ G (by lia),w5 (iZ p) (fun r=>(cw (bU p r)).isSome),uO G h8 hw,Int.zero_add];congr 1;refine List.map_congr_left fun r hr=>?_;obtain ⟨h1,h2⟩:=List.mem_filter.mp hr;have ok:=(mem r).mp h1;have hn:cw (bU p r)=none:=by
  unfold fP at h2
  cases e:cw (bU p r) with
  |none=>rfl
  |some z=>rw[e] at h2;cases h2
 have id:=Aw G h8 hw ok hn;unfold iZ;rw[fU,id,w6 _ (by have:=ok.l;lia),Int.one_mul]
theorem AK{m w:Nat}{p:Parts}(G:Good m w p)(h8:m<=8):Bd 155 (p.starts.map (bR p)):=by
 obtain ⟨el,sl,ei,si,s1⟩:=bL G;have c1:=G.c1;have r1:=G.r1;intro r hr v hv;obtain ⟨s,hs,rfl⟩:=List.mem_map.mp hr;rw[oA G s (si s hs)] at hv;obtain ⟨k,hk,rfl⟩:=List.mem_map.mp hv;have hk:=List.mem_range.mp hk;unfold wtS;rw[fT hk];have he:=ei p.ends[k] (List.getElem_mem hk);have hs0:=si s hs;have b1:=AH (wt p s) (2 ^ 140) (lkW p s p.ends[k]) (fun x hx=>DU G h8 s _ (si s hs) he x hx)
 have b2:(lkW p s p.ends[k]).length<=2 ^ 14:=by
  unfold lkW;split
  ·unfold dy
   rw[List.length_map];refine Nat.le_trans (List.length_filter_le _ _) (Nat.le_trans (mo _ _ _ _ _) (Nat.pow_le_pow_right (by decide) ?_));lia
  ·exact Nat.zero_le _
 have b3:(lkW p s p.ends[k]).length*2 ^ 140<=2 ^ 14*2 ^ 140:=Nat.mul_le_mul_right _ b2;have b4:2 ^ 14*2 ^ 140<2 ^ 155:=by decide
 exact Nat.lt_of_le_of_lt (Nat.le_trans b1 b3) b4
theorem lY(a:Ads){m w:Nat}{p:Parts}(G:Good m w p)(h8:m<=8)(hw:w<=4):cN a [bM a p]=.ok (.int (lap p.starts.length (p.starts.map (bR p)))):=by
 obtain ⟨el,sl,ei,si,s1⟩:=bL G;have tb:=DR a G h8 hw;have dt:=CN a p.starts.length 155 (p.starts.map (bR p)) (tF G) (by lia) (AK G h8) (by decide) (by
  have:p.starts.length=1\/p.starts.length=2\/p.starts.length=3\/p.starts.length=4:=by lia
  rcases this with e | e | e | e<;>rw[e] <;> decide)
 rw[yz _ _ (by lia) (tF G)] at dt;have zg:(D.lst .o (ai .o (p.starts.map (bR p)))).fz=.lst .f (ai .f (p.starts.map (bR p))):=by (with_reducible first | exact Lw.ay _ | exact Lw.dR _ | exact Lw.iu _ | exact Lw.gj | exact Lw.gn _ | exact Lw.gm _ _ _ | exact Lw.ji _ | exact Lw.dg _ _ | exact Lw.b5 _ _ _)
 refine dW (ρ:=[some (bM a p)]) rfl ?_;unfold jZ;(repeat' first|(with_reducible first|apply tb|apply zg|apply dt)|sizeOf_list_dec)
def on1(v:Int):Int:=if v > 1 then 1 else v
def aX(p:Parts):Parts:={ p with right:=p.right.map fun r=>r.map on1,up:=p.up.map fun r=>r.map on1 }
theorem w8{v:Int}(h:0<=v/\v<=1000):0<=on1 v/\on1 v<=1000:=by unfold on1;split<;>lia
theorem kT{m w:Nat}{p:Parts}(G:Good m w p):Good m w (aX p):=by
 refine ⟨G.c1,G.r1,by show (p.right.map _).length=_;rw[List.length_map];exact G.rl,fun r hr=>?_,by show (p.up.map _).length+1=_;rw[List.length_map];exact G.ul,fun r hr=>?_,G.many⟩
 ·obtain ⟨q,hq,rfl⟩:=List.mem_map.mp hr
  refine ⟨by rw[List.length_map];exact (G.rr q hq).1,fun v hv=>?_⟩;obtain ⟨u,hu,rfl⟩:=List.mem_map.mp hv;exact w8 ((G.rr q hq).2 u hu)
 ·obtain ⟨q,hq,rfl⟩:=List.mem_map.mp hr
  refine ⟨by rw[List.length_map];exact (G.ur q hq).1,fun v hv=>?_⟩;obtain ⟨u,hu,rfl⟩:=List.mem_map.mp hv;exact w8 ((G.ur q hq).2 u hu)
theorem rG(g:List (List Int))(y x:Nat):((g.map fun r=>r.map on1).getD y []).getD x 0=on1 ((g.getD y []).getD x 0):=by
 have e1:(g.map fun r=>r.map on1).getD y []=(g.getD y []).map on1:=by
  simp only[List.getD,List.getElem?_map]
  cases g[y]? <;> rfl
 rw[e1];simp only[List.getD,List.getElem?_map]
 cases (g[y]?.getD [])[x]? <;> rfl
theorem kU(p:Parts)(x y:Int)(l:Str):ax (aX p) x y l=on1 (ax p x y l):=by
 unfold ax;show (if l = "r" /\ x+1<p.cols then _ else if l = "u" /\ y+1<p.rows then _ else 0)=_;split
 ·exact rG p.right y.toNat x.toNat
 ·split
  ·exact rG p.up y.toNat x.toNat
  ·rfl
theorem AL{m w:Nat}{p:Parts}(G:Good m w p)(x y:Int)(l:Str):0<=ax p x y l:=by
 have key:∀ (g:List (List Int)),(∀ r∈g,∀ v∈r,0<=v/\v<=1000)->∀ i j:Nat,0<=(g.getD i []).getD j 0:=by
  intro g hg i j;by_cases hi:i<g.length
  ·have:g.getD i []∈g:=by simp[List.getD,List.getElem?_eq_getElem hi]
   exact (jB (hg _ this) j).1
  ·simp[List.getD,List.getElem?_eq_none (Nat.le_of_not_lt hi)]
 unfold ax;split
 ·exact key p.right (fun r hr=>(G.rr r hr).2) _ _
 ·split
  ·exact key p.up (fun r hr=>(G.ur r hr).2) _ _
  ·exact Int.le_refl _
theorem AM{v:Int}:0<on1 v ↔ 0<v:=by unfold on1;split<;>lia
theorem on1_z{v:Int}:on1 v=0 ↔ v=0:=by unfold on1;split<;>lia
theorem yE(p:Parts)(ex ey:Int)(q:Pt):ext (aX p) ex ey q=ext p ex ey q:=by
 unfold ext dN;simp only[kU,AM]
theorem pi(p:Parts)(s ex ey:Int):∀ t:Nat,aZ (aX p) s ex ey t=aZ p s ex ey t
 | 0=>rfl
 |t+1=>by
  show (aZ (aX p) s ex ey t).flatMap (ext (aX p) ex ey)=(aZ p s ex ey t).flatMap (ext p ex ey);rw[pi p s ex ey t,show ext (aX p) ex ey=ext p ex ey from funext (yE p ex ey)]
theorem yF(p:Parts)(s e:Int):lkW (aX p) s e=lkW p s e:=by
 unfold lkW dy;rw[pi];rfl
theorem yG(p:Parts)(s:Int):lkL (aX p) s=lkL p s:=by
 unfold lkL;exact List.map_congr_left fun e _=>yF p s e
theorem rH(p:Parts)(ss:List Int):a0 (aX p) ss=a0 p ss:=by
 unfold a0;congr 1;funext R s;rw[yG]
theorem tG{m w:Nat}{p:Parts}(G:Good m w p)(ls:List Str):∀ x y:Int,go (aX p) ls x y=(go p ls x y).map fun q=>(q.1,1):=by
 induction ls with
 |nil=>intro x y;rfl
 |cons l ls ih=>
  intro x y;rw[eL,eL,kU,ih];by_cases h:ax p x y l=0
  ·rw[if_pos h,if_pos (on1_z.mpr h)];rfl
  ·rw[if_neg h,if_neg fun z=>h (on1_z.mp z)]
   have:=AL G x y l;have e:on1 (ax p x y l)=1:=by unfold on1;split<;>lia
   rw[e]
   cases go p ls (nX x l) (nY y l) with
   |none=>rfl
   |some q=>rfl
theorem w9{m w:Nat}{p:Parts}(G:Good m w p)(r:Row):bU (aX p) r=bU p r:=by
 unfold bU;refine List.map_congr_left fun q _=>?_;unfold trk due;rw[tG G];show _::_=_::_;congr 1;show (match (if ins p 0 q.1=true then (go p (a9 q.2.1) 0 q.1).map (fun q=>(q.1,(1:Int))) else none) with | some (ps,_)=>ps | none=>[])=_;by_cases h:ins p 0 q.1=true
 ·rw[if_pos h,if_pos h]
  cases go p (a9 q.2.1) 0 q.1<;>rfl
 ·rw[if_neg h,if_neg h]
theorem xa{m w:Nat}{p:Parts}(G:Good m w p)(h8:m<=8){r:Row}(ok:RowOk p p.starts r):c9 (aX p) r=1:=by
 unfold c9;have key:∀ L:List (Int × (Str × Nat)),(∀ q∈L,wt (aX p) q.1 q.2.1=1)->L.foldl (fun t q=>t*wt (aX p) q.1 q.2.1) 1=1:=by
  intro L;induction L with
  |nil=>intro _;rfl
  |cons q L ih=>
   intro h;rw[List.foldl_cons,h q List.mem_cons_self,Int.mul_one];exact ih fun z hz=>h z (List.mem_cons_of_mem _ hz)
 refine key _ fun q hq=>?_;obtain ⟨h1,h2,ps,v,e,h3,_⟩:=dO G h8 ok hq;have d:=dE h3;unfold wt;rw[tG G,d.2];rfl
theorem xb{m w:Nat}{p:Parts}(G:Good m w p)(h8:m<=8)(hw:w<=4):lap p.starts.length (p.starts.map (bR (aX p)))=(((a0 p p.starts).filter (fP p)).length:Nat):=by
 obtain ⟨el,sl,ei,si,s1⟩:=bL G;obtain ⟨nd,mem⟩:=iy G p.starts.length p.starts rfl si;have h:=rF (kT G) h8 hw;have h:(((a0 (aX p) p.starts).filter (fP (aX p))).map (c9 (aX p))).sum=lap p.starts.length (p.starts.map (bR (aX p))):=h;rw[<- h,rH,show fP (aX p)=fP p from funext fun r=>by unfold fP;rw[w9 G]];have key:∀ L:List Row,(∀ r∈L,c9 (aX p) r=1)->(L.map (c9 (aX p))).sum=(L.length:Nat):=by
  intro L;induction L with
  |nil=>intro _;rfl
  |cons r L ih=>
   intro hL;rw[List.map_cons,List.sum_cons,hL r List.mem_cons_self,ih fun z hz=>hL z (List.mem_cons_of_mem _ hz),List.length_cons];lia
 exact key _ fun r hr=>xa G h8 ((mem r).mp (List.mem_filter.mp hr).1)
theorem AN(v:Int):gQ [.int v,.int 1]=.ok (.int (on1 v)):=by
 show Res.ok (D.int (if (1:Int)<v then 1 else v))=_;unfold on1;rfl
theorem pA(a:Ads)(r:List Int)(hl:r.length<=1000):cF a [.lst .f (r.map D.int)]=.ok (.lst .o ((r.map on1).map D.int)):=by
 refine dW (ρ:=[some (.lst .f (r.map D.int))]) rfl ?_;unfold jd
 have cp:=nr (own:=1) (cap:=[]) (gt:=au 0) (fe:=fCB gQ (ac (ad 0) (ac (fC (.int 1)) ah))) (ρ:=[some (.lst .f (r.map D.int))]) (L:=r) D.int (fun v=>[some (.int v)]) (fun v=>.int (on1 v)) (fun ρ=>∃ e,ρ=[e]) (mh (j:=0) rfl) ⟨none,rfl⟩ (fun v _=>⟨by rintro ρ ⟨e,rfl⟩;rfl,⟨_,rfl⟩,by have:=AN v;(repeat' first|(with_reducible first|apply this)|sizeOf_list_dec),ntb rfl⟩) hl
 have e:(r.map fun v=>D.int (on1 v))=(r.map on1).map D.int:=by rw[List.map_map];rfl
 rw[e] at cp;exact gT cp (ntb rfl)
theorem pj(a:Ads){f:ae->Res D}{ρ:ae}{g:List (List Int)}(h:f ρ=.ok (.lst .f (ai .f g)))(hg:g.length<=1000/\∀ r∈g,r.length<=1000):aK 1 [] (aH f) (au 0) aM (ce 1 (cF a) (ac (ad 0) ah)) ρ=.ok (.lst .o (ai .o (g.map fun r=>r.map on1))):=by
 have hi:aH f ρ=.ok (ai .f g):=iI h (eY g);have cp:=nr (own:=1) (cap:=[]) (gt:=au 0) (fe:=ce 1 (cF a) (ac (ad 0) ah)) (ρ:=ρ) (L:=g) (fun r=>D.lst .f (r.map D.int)) (fun r=>[some (.lst .f (r.map D.int))]) (fun r=>.lst .o ((r.map on1).map D.int)) (fun ρ=>∃ e,ρ=[e]) hi ⟨none,rfl⟩ (fun r hr=>⟨by rintro ρ ⟨e,rfl⟩;rfl,⟨_,rfl⟩,by
  refine sY (ds:=[.lst .f (r.map D.int)]) rfl rfl ?_ (pA a r (hg.2 r hr)) (.inl ⟨rfl,ntb rfl⟩)
  (repeat' first | (with_reducible exact Lw.aC) | (with_reducible apply Lw.jR) | (with_reducible first | exact Lw.ay _ | exact Lw.dR _ | exact Lw.iu _ | exact Lw.gj | exact Lw.gn _ | exact Lw.gm _ _ _ | exact Lw.ji _ | exact Lw.dg _ _ | exact Lw.b5 _ _ _)),ntb rfl⟩) hg.1
 have e:(g.map fun r=>D.lst .o ((r.map on1).map D.int))=ai .o (g.map fun r=>r.map on1):=by unfold ai;rw[List.map_map];rfl
 rw[e] at cp;exact cp
theorem yH(a:Ads){m w:Nat}{p:Parts}(G:Good m w p)(h8:m<=8)(hw:w<=4):ge a [bM a p]=.ok (.int (lap p.starts.length (p.starts.map (bR (aX p))))):=by
 have c1:=G.c1;have r1:=G.r1;have lw:cN a [bM a (aX p)]=.ok (.int (lap p.starts.length (p.starts.map (bR (aX p))))):=lY a (kT G) h8 hw;refine dW (ρ:=[some (bM a p),none,none]) rfl ?_;unfold mP;have e0:f1 (ci a.Net "right") (ad 0) [some (bM a p),none,none]=.ok (.lst .f (ai .f p.right)):=by (repeat' first|(with_reducible first|apply qM)|sizeOf_list_dec)
 have g0:=pj a e0 ⟨by have:=G.rl;lia,fun r hr=>by have:=(G.rr r hr).1;lia⟩;have z0:(D.lst .o (ai .o (p.right.map fun r=>r.map on1))).fz=.lst .f (ai .f (aX p).right):=by rw[b5];rfl
 have s0:=em (i:=1) g0 (ntb rfl) (by show 1<3;decide);rw[z0] at s0;have e1:f1 (ci a.Net "up") (ad 0) [some (bM a p),some (.lst .f (ai .f (aX p).right)),none]=.ok (.lst .f (ai .f p.up)):=by (repeat' first|(with_reducible first|apply yZ)|sizeOf_list_dec)
 have g1:=pj a e1 ⟨by have:=G.ul;lia,fun r hr=>by have:=(G.ur r hr).1;lia⟩;have z1:(D.lst .o (ai .o (p.up.map fun r=>r.map on1))).fz=.lst .f (ai .f (aX p).up):=by rw[b5];rfl
 have s1:=em (i:=2) g1 (ntb rfl) (by show 2<3;decide);rw[z1] at s1;refine aB s0 (aB s1 ?_)
 have ha:ac (ad 1) (ac (ad 2) (ac (f1 (ci a.Net "starts") (ad 0)) (ac (f1 (ci a.Net "ends") (ad 0)) ah))) [some (bM a p),some (.lst .f (ai .f (aX p).right)),some (.lst .f (ai .f (aX p).up))]=.ok [.lst .f (ai .f (aX p).right),.lst .f (ai .f (aX p).up),.lst .f ((aX p).starts.map D.int),.lst .f ((aX p).ends.map D.int)]:=by
  show _=Res.ok [D.lst .f (ai .f (aX p).right),D.lst .f (ai .f (aX p).up),D.lst .f (p.starts.map D.int),D.lst .f (p.ends.map D.int)];(repeat' first|(with_reducible first|apply o8|apply sP)|sizeOf_list_dec)
 have hz:D.fzs [.lst .f (ai .f (aX p).right),.lst .f (ai .f (aX p).up),.lst .f ((aX p).starts.map D.int),.lst .f ((aX p).ends.map D.int)]=[.lst .f (ai .f (aX p).right),.lst .f (ai .f (aX p).up),.lst .f ((aX p).starts.map D.int),.lst .f ((aX p).ends.map D.int)]:=by (repeat' first | (with_reducible exact Lw.aC) | (with_reducible apply Lw.jR) | (with_reducible first | exact Lw.ay _ | exact Lw.dR _ | exact Lw.iu _ | exact Lw.gj | exact Lw.gn _ | exact Lw.gm _ _ _ | exact Lw.ji _ | exact Lw.dg _ _ | exact Lw.b5 _ _ _))
 have mk:lm a.Net 4 (jc a) (ac (ad 1) (ac (ad 2) (ac (f1 (ci a.Net "starts") (ad 0)) (ac (f1 (ci a.Net "ends") (ad 0)) ah)))) [some (bM a p),some (.lst .f (ai .f (aX p).right)),some (.lst .f (ai .f (aX p).up))]=.ok (bM a (aX p)):=by
  unfold lm;rw[ha,bok,if_pos ⟨rfl,rfl⟩,hz,oP fun x=>wx a x (aX p) m w h8 hw (kT G)];rfl
 refine gT (wy (n:=1) (dq mk m6) rfl ?_ lw (.inr rfl)) (ntb rfl);(repeat' first | (with_reducible exact Lw.aC) | (with_reducible apply Lw.jR) | (with_reducible first | exact Lw.ay _ | exact Lw.dR _ | exact Lw.iu _ | exact Lw.gj | exact Lw.gn _ | exact Lw.gm _ _ _ | exact Lw.ji _ | exact Lw.dg _ _ | exact Lw.b5 _ _ _))
def kyD(x y:Int):List L2.Key:=[Sum.inl x,Sum.inl y]
theorem CU{x y x' y':Int}(h:kyD x y=kyD x' y'):x=x'/\y=y':=by
 unfold kyD at h;injection h with h1 h2;injection h2 with h2 _;injection h1 with h1;injection h2 with h2;exact ⟨h1,h2⟩
theorem xc(ks:List (List L2.Key × D))(k k':List L2.Key)(d:D):b8 (ks++[(k,d)]) k'=(b8 ks k').or (if k=k' then some d else none):=by
 induction ks with
 |nil=>show (if k=k' then some d else none)=_;simp[b8]
 |cons q ks ih=>
  obtain ⟨k0,d0⟩:=q;show (if k0=k' then some d0 else b8 (ks++[(k,d)]) k')=Option.or (if k0=k' then some d0 else b8 ks k') _;by_cases h:k0=k'
  ·rw[if_pos h,if_pos h];rfl
  ·rw[if_neg h,if_neg h];exact ih
theorem xf(ks:List (List L2.Key × D))(k k':List L2.Key)(d:D):b8 (ks.map fun q=>if q.1=k then (q.1,d) else q) k'=if k=k' then (if ek ks k=true then some d else none) else b8 ks k':=by
 induction ks with
 |nil=>simp[b8,ek]
 |cons q ks ih=>
  obtain ⟨k0,d0⟩:=q;rw[List.map_cons];have hh:ek ((k0,d0)::ks) k=(decide (k0=k)||ek ks k):=rfl;rw[hh];by_cases e:k0=k
  ·rw[if_pos (show (k0,d0).1=k from e)]
   show (if k0=k' then some d else b8 _ k')=_;rw[ih];by_cases e2:k=k'
   ·rw[if_pos (e.trans e2),if_pos e2];simp[e]
   ·rw[if_neg (fun z=>e2 (e ▸ z)),if_neg e2,if_neg e2]
    show _=(if k0=k' then some d0 else b8 ks k');rw[if_neg (fun z=>e2 (e ▸ z))]
  ·rw[if_neg (show ¬ (k0,d0).1=k from e)]
   show (if k0=k' then some d0 else b8 _ k')=_;rw[ih];by_cases e2:k=k'
   ·rw[if_neg (fun z=>e (z.trans e2.symm)),if_pos e2,if_pos e2];simp[e]
   ·rw[if_neg e2,if_neg e2];rfl
theorem xg(ks:List (List L2.Key × D))(k:List L2.Key)(h:ek ks k=false):b8 ks k=none:=by
 induction ks with
 |nil=>rfl
 |cons q ks ih=>
  obtain ⟨k0,d0⟩:=q;have hh:(decide (k0=k)||ek ks k)=false:=h;simp at hh;show (if k0=k then some d0 else b8 ks k)=none;rw[if_neg hh.1,ih (by simpa using hh.2)]
theorem pk(ks:List (List L2.Key × D))(k k':List L2.Key)(d:D):b8 (cP ks k d) k'=if k=k' then some d else b8 ks k':=by
 unfold cP;by_cases h:ek ks k=true
 ·rw[if_pos h,xf,if_pos h]
 ·rw[if_neg h,xc]
  have hn:=xg ks k (by simpa using h);by_cases e:k=k'
  ·subst e;rw[if_pos rfl,if_pos rfl,hn];rfl
  ·rw[if_neg e,if_neg e]
   cases b8 ks k' <;> rfl
theorem tH(ks:List (List L2.Key × D))(k:List L2.Key)(d:D):(cP ks k d).length<=ks.length+1:=by
 unfold cP;split<;>simp
def gv(ks:List (List L2.Key × D))(x y:Int):Int:=match b8 ks (kyD x y) with
 |some (.int v)=>v
 |_=>0
structure IK (ks:List (List L2.Key × D)):Prop where
 all:∀ k d,b8 ks k=some d->∃ v,d=.int v
theorem IK.put{ks:List (List L2.Key × D)}(h:IK ks)(k:List L2.Key)(v:Int):IK (cP ks k (.int v)):=⟨fun k' d e=>by
 rw[pk] at e
 split at e
 ·cases e;exact ⟨v,rfl⟩
 ·exact h.all k' d e⟩
theorem xh(ks:List (List L2.Key × D))(x y v x' y':Int):gv (cP ks (kyD x y) (.int v)) x' y'=if x'=x/\y'=y then v else gv ks x' y':=by
 unfold gv;rw[pk];by_cases h:x'=x/\y'=y
 ·obtain ⟨rfl,rfl⟩:=h
  rw[if_pos rfl,if_pos ⟨rfl,rfl⟩]
 ·rw[if_neg h,if_neg fun z=>h (by obtain ⟨e1,e2⟩:=CU z;exact ⟨e1.symm,e2.symm⟩)]
theorem rJ{fd fk fx:ae->Res D}{ρ:ae}{t:Tg}{ks:List (List L2.Key × D)}{x y:Int}(h1:fd ρ=.ok (.dic t ks))(h2:fk ρ=.ok (.tup [.int x,.int y]))(h3:fx ρ=.ok (.int 0))(h:IK ks):i9 fd fk fx ρ=.ok (.int (gv ks x y)):=by
 unfold i9;rw[h1,bok];show (fk ρ >>= _)=_;rw[h2,bok];show (fx ρ >>= _)=_;rw[h3,bok];show (match b8 ks (kyD x y) with
  |some y=>if y.atom=true then Res.ok y else .bad
  |none=>if (D.int 0).atom=true then Res.ok (D.int 0) else .bad)=_
 unfold gv
 cases e:b8 ks (kyD x y) with
 |none=>rfl
 |some d=>obtain ⟨v,rfl⟩:=h.all _ _ e;rfl
theorem tJ{i:Nat}{fk f:ae->Res D}{ρ ρ':ae}{ks:List (List L2.Key × D)}{v x y:Int}(h0:ρ[i]?=some (some (.dic .o ks)))(h:f ρ=.ok (.int v))(hk:fk ρ=.ok (.tup [.int x,.int y]))(hl:ks.length<1000)(he:ρ.set i (some (.dic .o (cP ks (kyD x y) (.int v))))=ρ'):iP i fk f ρ=.nx ρ':=by
 have hz:¬ sizeLine<=ks.length:=by
  have:(1000:Nat)<sizeLine:=by decide
  lia
 unfold iP;rw[h0];show aft (f ρ) _=_;rw[h,aok,hk,aok];show (if (D.int v).atom=false\/sizeLine<=ks.length then FOut.bad else _)=_;rw[if_neg (fun z=>z.elim (fun z=>nomatch z) hz),<- he];rfl
def cI(q:Parts)(s:Nat)(x y:Int):Int:=if 0<=x/\x<q.cols/\0<=y/\y<q.rows then cf q s x.toNat y.toNat else 0
def pr(q:Parts)(s:Nat)(X Y x y:Int):Bool:=decide (0<=x/\x<q.cols/\(s:Int)<=y/\(y<Y\/(y=Y/\x<X)))
def EV(q:Parts)(s:Nat)(P:Int->Int->Bool)(x y:Int):Int:=(if x=0/\y=(s:Int) then 1 else 0)+(if P (x - 1) y=true then cI q s (x - 1) y*ax q (x - 1) y "r" else 0)+(if P x (y - 1)=true then cI q s x (y - 1)*ax q x (y - 1) "u" else 0)
theorem nI(q:Parts)(s x y:Nat)(hx:x<q.cols)(hy:y<q.rows):cI q s (x:Int) (y:Int)=cf q s x y:=by
 unfold cI;rw[if_pos ⟨by lia,by lia,by lia,by lia⟩];rfl
theorem tK(q:Parts)(s X Y:Nat)(hX:X<q.cols)(hY:Y<q.rows)(hs:s<=Y):EV q s (pr q s X Y) X Y=cf q s X Y:=by
 unfold EV;have pU:∀ y:Nat,Y=y+1->pr q s X Y (X:Int) ((Y:Int) - 1)=decide (s<=y):=by
  intro y e;unfold pr;subst e;congr 1;exact propext ⟨fun z=>by lia,fun z=>by lia⟩
 have p0:Y=0->pr q s X Y (X:Int) ((Y:Int) - 1)=false:=by
  intro e;subst e;unfold pr;exact decide_eq_false (by lia)
 cases X with
 |zero=>
  have pN:pr q s ((0:Nat):Int) Y (((0:Nat):Int) - 1) Y=false:=by unfold pr;exact decide_eq_false (by lia)
  rw[pN,if_neg (show ¬ (false=true) by decide),Int.add_zero]
  cases Y with
  |zero=>
   rw[p0 rfl,if_neg (show ¬ (false=true) by decide),Int.add_zero,rk q _ hY];have:s=0:=by lia
   subst this;rfl
  |succ y=>
   rw[pU y rfl,nB q _ y hY];have e:(((y+1:Nat):Int) - 1)=(y:Int):=by lia
   rw[e];by_cases h:s<=y
   ·rw[if_neg (show ¬ (((0:Nat):Int)=0/\((y+1:Nat):Int)=(s:Int)) by lia),if_pos (show decide (s<=y)=true by simpa using h),if_neg (show ¬ ((y+1:Nat):Int)=(s:Int) by lia),nI q s 0 y hX (by lia),nC q 0 y (by lia)]
   ·have:s=y+1:=by lia
    subst this;rw[if_pos (show ((0:Nat):Int)=0/\((y+1:Nat):Int)=((y+1:Nat):Int) from ⟨rfl,rfl⟩),if_neg (show ¬ decide (y+1<=y)=true by simp),if_pos rfl,dc q _ 0 y (by lia) (by lia)];simp
 |succ x=>
  have pR:pr q s ((x+1:Nat):Int) Y (((x+1:Nat):Int) - 1) Y=true:=by unfold pr;exact decide_eq_true (by lia)
  rw[pR,if_pos (rfl:true=true),if_neg (show ¬ (((x+1:Nat):Int)=0/\(Y:Int)=(s:Int)) by lia),Int.zero_add];have e1:(((x+1:Nat):Int) - 1)=(x:Int):=by lia
  rw[e1,nI q s x Y (by lia) hY,wU q x Y (by lia)]
  cases Y with
  |zero=>rw[p0 rfl,if_neg (show ¬ (false=true) by decide),Int.add_zero,rm q _ x hY]
  |succ y=>
   have e:(((y+1:Nat):Int) - 1)=(y:Int):=by lia
   rw[pU y rfl,rn q _ x y hY,e];by_cases h:s<=y
   ·rw[if_pos (show decide (s<=y)=true by simpa using h),nI q s (x+1) y hX (by lia),nC q (x+1) y (by lia)]
   ·rw[if_neg (show ¬ decide (s<=y)=true by simpa using h),dc q _ (x+1) y (by lia) (by lia)]
    simp
theorem AO(q:Parts)(s:Nat)(X Y:Int)(hX:0<=X/\X<q.cols)(hY:(s:Int)<=Y)(x y:Int) :
    EV q s (pr q s (X+1) Y) x y=EV q s (pr q s X Y) x y+(if x=X+1/\y=Y then cI q s X Y*ax q X Y "r" else 0)+(if x=X/\y=Y+1 then cI q s X Y*ax q X Y "u" else 0):=by
 unfold EV;have a1:pr q s (X+1) Y (x - 1) y=(pr q s X Y (x - 1) y||decide (x=X+1/\y=Y)):=by
  unfold pr;rw[<- Bool.decide_or];congr 1;exact propext ⟨fun z=>by lia,fun z=>by lia⟩
 have a2:pr q s (X+1) Y x (y - 1)=(pr q s X Y x (y - 1)||decide (x=X/\y=Y+1)):=by
  unfold pr;rw[<- Bool.decide_or];congr 1;exact propext ⟨fun z=>by lia,fun z=>by lia⟩
 rw[a1,a2];have b1:(if (pr q s X Y (x - 1) y||decide (x=X+1/\y=Y))=true then cI q s (x - 1) y*ax q (x - 1) y "r" else 0)=(if pr q s X Y (x - 1) y=true then cI q s (x - 1) y*ax q (x - 1) y "r" else 0)+(if x=X+1/\y=Y then cI q s X Y*ax q X Y "r" else 0):=by
  by_cases h:x=X+1/\y=Y
  ·obtain ⟨rfl,rfl⟩:=h
   rw[show X+1 - 1=X by lia,show pr q s X y X y=false by unfold pr;exact decide_eq_false (by lia)];simp
  ·rw[if_neg h,decide_eq_false h,Bool.or_false,Int.add_zero]
 have b2:(if (pr q s X Y x (y - 1)||decide (x=X/\y=Y+1))=true then cI q s x (y - 1)*ax q x (y - 1) "u" else 0)=(if pr q s X Y x (y - 1)=true then cI q s x (y - 1)*ax q x (y - 1) "u" else 0)+(if x=X/\y=Y+1 then cI q s X Y*ax q X Y "u" else 0):=by
  by_cases h:x=X/\y=Y+1
  ·obtain ⟨rfl,rfl⟩:=h
   rw[show Y+1 - 1=Y by lia,show pr q s x Y x Y=false by unfold pr;exact decide_eq_false (by lia)];simp
  ·rw[if_neg h,decide_eq_false h,Bool.or_false,Int.add_zero]
 rw[b1,b2];lia
theorem CV(q:Parts)(s:Nat)(Y:Int):pr q s q.cols Y=pr q s 0 (Y+1):=by
 funext x y;unfold pr;congr 1;exact propext ⟨fun z=>by lia,fun z=>by lia⟩
def qq(p:Parts)(plain:Bool):Parts:=if plain=true then aX p else p
theorem uR(p:Parts)(b:Bool):(qq p b).cols=p.cols/\(qq p b).rows=p.rows:=by cases b<;>exact ⟨rfl,rfl⟩
theorem tL(p:Parts)(b:Bool)(x y:Int)(l:Str):ax (qq p b) x y l=if b=true then on1 (ax p x y l) else ax p x y l:=by
 cases b
 ·rfl
 ·exact kU p x y l
def bV(p:Parts)(b:Bool)(ks:List (List L2.Key × D))(e3 e4 e5 e6 e7 e8:Option D):ae:=[some p.d,some (.bl b),some (.dic .o ks),e3,e4,e5,e6,e7,e8]
abbrev CW(a:Ads):ae->FOut:=(ar (aw 7 (fFz (aq 4 (bI a) (ac (ad 0) (ac (ad 4) (ac (ad 3) (ac (ad 6) ah)))))))
 (ar (aw 8 (fFz (bY (ac (f2 aL (ad 4) (fCB dw (ac (f2 dEq (ad 6) (fC (.str "r"))) ah))) (ac (f2 aL (ad 3) (fCB dw (ac (f2 dEq (ad 6) (fC (.str "u"))) ah))) ah)))))
 (gIf (ft2 dGt (ad 7) (fC (.int 0))) (iP 2 (ad 8) (f2 aL (i9 (ad 2) (ad 8) (fC (.int 0))) (f2 bB (ad 5) (f2 dIx (bv (ac (ad 7) (ac (fC (.int 1)) ah))) (fCB dw (ac (ad 1) ah)))))) aP)))
abbrev yI(a:Ads):ae->FOut:=(ar (aw 5 (fFz (i9 (ad 2) (bY (ac (ad 4) (ac (ad 3) ah))) (fC (.int 0)))))
 (bA (aH (fC (.str "ru"))) (au 6) (CW a)))
abbrev EC(a:Ads):ae->FOut:=bA (b7 (ac (f2 aL (fCB a8 (ac (f2 dIx (f2 dIx (ad 0) (fC (.int 0))) (fC (.int 0))) ah)) (fC (.int 1))) ah)) (au 4) (yI a)
theorem tM(a:Ads){m w:Nat}{p:Parts}(G:Good m w p)(b:Bool)(ks:List (List L2.Key × D))(ik:IK ks)(hl:ks.length<900)(x y:Int)(o:On p x y)(here:Int)(l:Str)(hlr:l = "r" \/ l = "u")(e7 e8:Option D) :
    ∃ ks' e7' e8',CW a (bV p b ks (some (.int y)) (some (.int x)) (some (.int here)) (some (.str l)) e7 e8)=.nx (bV p b ks' (some (.int y)) (some (.int x)) (some (.int here)) (some (.str l)) e7' e8')/\IK ks'/\ks'.length<=ks.length+1 ∧
     ∀ x' y',gv ks' x' y'=gv ks x' y' + (if x'=nX x l/\y'=nY y l then here*ax (qq p b) x y l else 0):=by
 have ls:=mi a G o l;have sb:=iW G o l;obtain ⟨tx,ty⟩:=nk x y hlr;have fzt:(D.tup [.int (thX x l),.int (thY y l)]).fz=.tup [.int (thX x l),.int (thY y l)]:=by rw[dD,ao,ao,aC,ay,ay]
 have s7:aw 7 (fFz (aq 4 (bI a) (ac (ad 0) (ac (ad 4) (ac (ad 3) (ac (ad 6) ah)))))) (bV p b ks (some (.int y)) (some (.int x)) (some (.int here)) (some (.str l)) e7 e8)=.nx (bV p b ks (some (.int y)) (some (.int x)) (some (.int here)) (some (.str l)) (some (.int (ax p x y l))) e8):=by unfold bV;(repeat' first|(with_reducible first|apply ls)|sizeOf_list_dec)
 have tt:bY (ac (f2 aL (ad 4) (fCB dw (ac (f2 dEq (ad 6) (fC (.str "r"))) ah))) (ac (f2 aL (ad 3) (fCB dw (ac (f2 dEq (ad 6) (fC (.str "u"))) ah))) ah)) (bV p b ks (some (.int y)) (some (.int x)) (some (.int here)) (some (.str l)) (some (.int (ax p x y l))) e8)=.ok (.tup [.int (thX x l),.int (thY y l)]):=by
  have i1:=oo (decide (l = "r"));have i2:=oo (decide (l = "u"));unfold bV thX thY;(repeat' first|(with_reducible first|apply i1|apply i2)|sizeOf_list_dec)
 have s8:=em (i:=8) tt (ntb rfl) (by show 8<9;decide);rw[fzt,tx,ty] at s8
 have s8:aw 8 (fFz (bY (ac (f2 aL (ad 4) (fCB dw (ac (f2 dEq (ad 6) (fC (.str "r"))) ah))) (ac (f2 aL (ad 3) (fCB dw (ac (f2 dEq (ad 6) (fC (.str "u"))) ah))) ah)))) (bV p b ks (some (.int y)) (some (.int x)) (some (.int here)) (some (.str l)) (some (.int (ax p x y l))) e8)=.nx (bV p b ks (some (.int y)) (some (.int x)) (some (.int here)) (some (.str l)) (some (.int (ax p x y l))) (some (.tup [.int (nX x l),.int (nY y l)]))):=s8
 have tg:ft2 dGt (ad 7) (fC (.int 0)) (bV p b ks (some (.int y)) (some (.int x)) (some (.int here)) (some (.str l)) (some (.int (ax p x y l))) (some (.tup [.int (nX x l),.int (nY y l)])))=.ok (decide (0<ax p x y l)):=by unfold bV;(repeat' sizeOf_list_dec)
 by_cases h:0<ax p x y l
 ·have hq:ax (qq p b) x y l=if b=true then 1 else ax p x y l:=by
     rw[tL]
     cases b with
     |false=>rfl
     |true=>rw[if_pos rfl,if_pos rfl];unfold on1;split<;>lia
  have fx:f2 dIx (bv (ac (ad 7) (ac (fC (.int 1)) ah))) (fCB dw (ac (ad 1) ah)) (bV p b ks (some (.int y)) (some (.int x)) (some (.int here)) (some (.str l)) (some (.int (ax p x y l))) (some (.tup [.int (nX x l),.int (nY y l)])))=.ok (.int (ax (qq p b) x y l)):=by
   rw[hq]
   cases b with
   |false=>exact oh (x:=.lst .o [.int (ax p x y l),.int 1]) (y:=.int 0) (by unfold bV;(repeat' sizeOf_list_dec)) rfl (wz (k:=0) rfl)
   |true=>exact oh (x:=.lst .o [.int (ax p x y l),.int 1]) (y:=.int 1) (by unfold bV;(repeat' sizeOf_list_dec)) rfl (wz (k:=1) rfl)
  have mu:bB (.int here) (.int (ax (qq p b) x y l))=.ok (.int (here*ax (qq p b) x y l)):=jQ _ _ (by rw[hq];split<;>lia);have ga:=rJ (fd:=ad 2) (fk:=ad 8) (fx:=fC (.int 0)) (ρ:=bV p b ks (some (.int y)) (some (.int x)) (some (.int here)) (some (.str l)) (some (.int (ax p x y l))) (some (.tup [.int (nX x l),.int (nY y l)]))) (t:=.b) (ks:=ks) (x:=nX x l) (y:=nY y l) rfl rfl rfl ik
  refine ⟨cP ks (kyD (nX x l) (nY y l)) (.int (gv ks (nX x l) (nY y l)+here*ax (qq p b) x y l)),_,_,aB s7 (aB s8 (dQ tg (by simpa using h) (tJ (ks:=ks) rfl (oh ga (oh rfl fx mu) (lx _ _)) rfl (by lia) rfl))),ik.put _ _,tH _ _ _,fun x' y'=>?_⟩;rw[xh];by_cases e:x'=nX x l/\y'=nY y l
  ·obtain ⟨rfl,rfl⟩:=e
   rw[if_pos ⟨rfl,rfl⟩,if_pos ⟨rfl,rfl⟩]
  ·rw[if_neg e,if_neg e,Int.add_zero]
 ·have hz:ax (qq p b) x y l=0:=by
     rw[tL];have:ax p x y l=0:=by lia
     rw[this]
     cases b<;>rfl
  refine ⟨ks,_,_,aB s7 (aB s8 (dr tg (by simpa using h) rfl)),ik,by lia,fun x' y'=>?_⟩;rw[hz,Int.mul_zero];split<;>lia
theorem nxr(x y:Int):nX x "r" = x+1/\nY y "r" = y:=⟨if_pos rfl,if_pos rfl⟩
theorem nxu(x y:Int):nX x "u" = x/\nY y "u" = y+1:=⟨if_neg (by decide +kernel),if_neg (by decide +kernel)⟩
theorem AQ(a:Ads){m w:Nat}{p:Parts}(G:Good m w p)(b:Bool)(s:Nat)(ks:List (List L2.Key × D))(ik:IK ks)(hl:ks.length<800)(X Y:Nat)(hX:X<p.cols)(hY:Y<p.rows)(hs:s<=Y)(hE:∀ x y,gv ks x y=EV (qq p b) s (pr (qq p b) s X Y) x y)(e5 e6 e7 e8:Option D) :
    ∃ ks' e5' e6' e7' e8',yI a (bV p b ks (some (.int (Y:Int))) (some (.int (X:Int))) e5 e6 e7 e8)=.nx (bV p b ks' (some (.int (Y:Int))) (some (.int (X:Int))) e5' e6' e7' e8')/\IK ks'/\ks'.length<=ks.length+2 ∧
     ∀ x y,gv ks' x y=EV (qq p b) s (pr (qq p b) s ((X:Int)+1) Y) x y:=by
 obtain ⟨qc,qr⟩:=uR p b;have o:On p (X:Int) (Y:Int):=⟨⟨by lia,by lia⟩,by lia,by lia⟩
 have ga:=rJ (fd:=ad 2) (fk:=bY (ac (ad 4) (ac (ad 3) ah))) (fx:=fC (.int 0)) (ρ:=bV p b ks (some (.int (Y:Int))) (some (.int (X:Int))) e5 e6 e7 e8) (t:=.b) (ks:=ks) (x:=X) (y:=Y) rfl (by unfold bV;(repeat' sizeOf_list_dec)) rfl ik;have hh:gv ks X Y=cI (qq p b) s X Y:=by rw[hE,tK _ s X Y (by lia) (by lia) hs,nI _ s X Y (by lia) (by lia)]
 have s5:=em (i:=5) ga (ntb rfl) (by show 5<9;decide);rw[ay] at s5;have fi:=qN (f:=fC (.str "ru")) (ρ:=bV p b ks (some (.int (Y:Int))) (some (.int (X:Int))) (some (.int (gv ks X Y))) e6 e7 e8) (x := "ru") rfl (by decide +kernel);rw[sR] at fi;obtain ⟨k1,f7,f8,b1,i1,l1,v1⟩:=tM a G b ks ik (by lia) X Y o (gv ks X Y) "r" (.inl rfl) e7 e8
 obtain ⟨k2,g7,g8,b2,i2,l2,v2⟩:=tM a G b k1 i1 (by lia) X Y o (gv ks X Y) "u" (.inr rfl) f7 f8
 refine ⟨k2,some (.int (gv ks X Y)),some (.str "u"),g7,g8,aB s5 (bE fi (bf (ρ1:=bV p b ks (some (.int (Y:Int))) (some (.int (X:Int))) (some (.int (gv ks X Y))) (some (.str "r")) e7 e8) (dX (by show 6<9;decide) rfl) b1 (bf (ρ1:=bV p b k1 (some (.int (Y:Int))) (some (.int (X:Int))) (some (.int (gv ks X Y))) (some (.str "u")) f7 f8) (dX (by show 6<9;decide) rfl) b2 sO))),i2,by lia,fun x y=>?_⟩
 rw[v2,v1,hE,hh,AO _ s X Y (by lia) (by lia),(nxr (X:Int) (Y:Int)).1,(nxr (X:Int) (Y:Int)).2,(nxu (X:Int) (Y:Int)).1,(nxu (X:Int) (Y:Int)).2]
theorem tN(a:Ads){m w:Nat}{p:Parts}(G:Good m w p)(b:Bool)(s Y:Nat)(hY:Y<p.rows)(hs:s<=Y):∀ (n X:Nat) (ks:List (List L2.Key × D)) (e4 e5 e6 e7 e8:Option D),X+n=p.cols->IK ks->ks.length+2*n<800->(∀ x y,gv ks x y=EV (qq p b) s (pr (qq p b) s X Y) x y) →
    ∃ ks' e4' e5' e6' e7' e8',bo (au 4) (yI a) ((List.range' X n).map fun (j:Nat)=>D.int (0+(j:Int))) (bV p b ks (some (.int (Y:Int))) e4 e5 e6 e7 e8)=.nx (bV p b ks' (some (.int (Y:Int))) e4' e5' e6' e7' e8')/\IK ks'/\ks'.length<=ks.length+2*n/\∀ x y,gv ks' x y=EV (qq p b) s (pr (qq p b) s p.cols Y) x y
 | 0,X,ks,e4,e5,e6,e7,e8,h,ik,hl,hE=>⟨ks,e4,e5,e6,e7,e8,rfl,ik,by lia,by rw[<- h];exact hE⟩
 |n+1,X,ks,e4,e5,e6,e7,e8,h,ik,hl,hE=>by
  obtain ⟨k1,f5,f6,f7,f8,b1,i1,l1,v1⟩:=AQ a G b s ks ik (by lia) X Y (by lia) hY hs hE e5 e6 e7 e8;obtain ⟨k2,g4,g5,g6,g7,g8,b2,i2,l2,v2⟩:=tN a G b s Y hY hs n (X+1) k1 (some (.int (X:Int))) f5 f6 f7 f8 (by lia) i1 (by lia) v1;refine ⟨k2,g4,g5,g6,g7,g8,?_,i2,by lia,v2⟩;rw[List.range'_succ,List.map_cons,Int.zero_add];exact bf (dX (by show 4<9;decide) rfl) b1 b2
theorem tP(a:Ads){m w:Nat}{p:Parts}(G:Good m w p)(h8:m<=8)(b:Bool)(s:Nat):∀ (n Y:Nat) (ks:List (List L2.Key × D)) (e3 e4 e5 e6 e7 e8:Option D),Y+n=p.rows->s<=Y->IK ks->ks.length+16*n<800->(∀ x y,gv ks x y=EV (qq p b) s (pr (qq p b) s 0 Y) x y) →
    ∃ ks' e3' e4' e5' e6' e7' e8',bo (au 3) (EC a) ((List.range' Y n).map fun (j:Nat)=>D.int (j:Int)) (bV p b ks e3 e4 e5 e6 e7 e8)=.nx (bV p b ks' e3' e4' e5' e6' e7' e8')/\IK ks'/\∀ x y,gv ks' x y=EV (qq p b) s (pr (qq p b) s 0 p.rows) x y
 | 0,Y,ks,e3,e4,e5,e6,e7,e8,h,hs,ik,hl,hE=>⟨ks,e3,e4,e5,e6,e7,e8,rfl,ik,by rw[<- h];exact hE⟩
 |n+1,Y,ks,e3,e4,e5,e6,e7,e8,h,hs,ik,hl,hE=>by
  have c1:=G.c1;obtain ⟨f0,fl⟩:=ie G;obtain ⟨k1,f4,f5,f6,f7,f8,b1,i1,l1,v1⟩:=tN a G b s Y (by lia) hs p.cols 0 ks e4 e5 e6 e7 e8 (by lia) ik (by lia) hE;have v1:∀ x y,gv k1 x y=EV (qq p b) s (pr (qq p b) s 0 ((Y+1:Nat):Int)) x y:=fun x y=>by
   rw[v1,<- (uR p b).1,CV];rfl
  obtain ⟨k2,g3,g4,g5,g6,g7,g8,b2,i2,v2⟩:=tP a G h8 b s n (Y+1) k1 (some (.int (Y:Int))) f4 f5 f6 f7 f8 (by lia) (by lia) i1 (by lia) v1;refine ⟨k2,g3,g4,g5,g6,g7,g8,?_,i2,v2⟩;rw[List.range'_succ,List.map_cons];refine bf (ρ1:=bV p b ks (some (.int (Y:Int))) e4 e5 e6 e7 e8) (dX (by show 3<9;decide) rfl) (bE (items:=aD 0 p.cols) (dA ?_ (by lia)) (by rw[aD,List.range_eq_range'];exact b1)) b2
  rw[show (p.cols:Int)=(((p.right.getD 0 []).map D.int).length:Nat)+1 by rw[fl];lia];unfold bV;(repeat' first|(with_reducible first|apply f0)|sizeOf_list_dec)
theorem rK(a:Ads){m w:Nat}{p:Parts}(G:Good m w p)(h8:m<=8)(b:Bool)(s e:Nat)(hs:p.starts.getD 0 0=(s:Int))(he:p.ends.getD 0 0=(e:Int))(hs2:s<p.rows)(he2:e<p.rows) :
    fJ a [p.d,.bl b]=.ok (.int (cf (qq p b) s (p.cols - 1) e)):=by
 have c1:=G.c1;have r1:=G.r1;obtain ⟨f0,fl⟩:=ie G;obtain ⟨el,sl,ei,si,s1⟩:=bL G;obtain ⟨qc,qr⟩:=uR p b;have x1:dIx (.lst .f (p.starts.map D.int)) (.int 0)=.ok (.int (s:Int)):=by
  have:=dS (t:=.f) p.starts 0 (by lia) (by lia);rw[<- hs];exact this
 have x2:dIx (.lst .f (p.ends.map D.int)) (.int 0)=.ok (.int (e:Int)):=by
  have:=dS (t:=.f) p.ends 0 (by lia) (by lia);rw[<- he];exact this
 refine dW (ρ:=[some p.d,some (.bl b),none,none,none,none,none,none,none]) rfl ?_;unfold lU;refine aB (ρ':=bV p b [] none none none none none none) (mZ (d:=.dic .o []) rfl (ntb rfl) (by show 2<9;decide)) ?_
 refine aB (ρ':=bV p b (cP [] (kyD 0 s) (.int 1)) none none none none none none) (tJ (ks:=[]) (x:=0) (y:=s) rfl rfl (by unfold bV;(repeat' first|(with_reducible first|apply x1)|sizeOf_list_dec)) (by decide) rfl) ?_;have ik0:IK []:=⟨fun k d h=>by cases h⟩
 obtain ⟨ks,e3,e4,e5,e6,e7,e8,lp,ik,hE⟩:=tP a G h8 b s (p.rows - s) s (cP [] (kyD 0 s) (.int 1)) none none none none none none (by lia) (Nat.le_refl _) (ik0.put _ _) (by have:=tH [] (kyD 0 s) (.int 1);simp at this;lia) (fun x y=>by
  rw[xh]
  unfold EV
  rw[show pr (qq p b) s 0 s (x - 1) y=false by unfold pr;exact decide_eq_false (by lia),show pr (qq p b) s 0 s x (y - 1)=false by unfold pr;exact decide_eq_false (by lia)]
  show (if x=0/\y=(s:Int) then (1:Int) else 0)=_
  simp)
 have fi:iK (ac (f2 dIx (f2 dIx (ad 0) (fC (.int 2))) (fC (.int 0))) (ac (fCB a8 (ac (f2 dIx (ad 0) (fC (.int 0))) ah)) ah)) (bV p b (cP [] (kyD 0 s) (.int 1)) none none none none none none)=.ok ((List.range' s (p.rows - s)).map fun (j:Nat)=>D.int (j:Int)):=by
  have gl:(ai .f p.right).length=p.rows:=by simp[ai,G.rl]
  have:=ow (fa:=ac (f2 dIx (f2 dIx (ad 0) (fC (.int 2))) (fC (.int 0))) (ac (fCB a8 (ac (f2 dIx (ad 0) (fC (.int 0))) ah)) ah)) (ρ:=bV p b (cP [] (kyD 0 s) (.int 1)) none none none none none none) (i:=s) (n:=p.rows - s) (by
   rw[show s+(p.rows - s)=(ai .f p.right).length by lia]
   unfold bV
   (repeat' first|(with_reducible first|apply x1)|sizeOf_list_dec)) (by lia)
  rw[this,aD];congr 1;rw[List.range'_eq_map_range,List.map_map];refine List.map_congr_left fun i _=>?_;show D.int _=D.int _;congr 1
 refine aB (bE fi lp) ?_;have ga:=rJ (fd:=ad 2) (fk:=bY (ac (fCB a8 (ac (f2 dIx (f2 dIx (ad 0) (fC (.int 0))) (fC (.int 0))) ah)) (ac (f2 dIx (f2 dIx (ad 0) (fC (.int 3))) (fC (.int 0))) ah))) (fx:=fC (.int 0)) (ρ:=bV p b ks e3 e4 e5 e6 e7 e8) (t:=.b) (ks:=ks) (x:=((p.cols - 1:Nat):Int)) (y:=e) rfl (by
  rw[show ((p.cols - 1:Nat):Int)=(((p.right.getD 0 []).map D.int).length:Nat) by rw[fl];lia]
  unfold bV
  (repeat' first|(with_reducible first|apply f0|apply x2)|sizeOf_list_dec)) rfl ik
 rw[gT ga (ntb rfl),hE];congr 2;by_cases h:s<=e
 ·rw[<- tK (qq p b) s (p.cols - 1) e (by lia) (by lia) h]
  unfold EV;rw[show pr (qq p b) s 0 p.rows (((p.cols - 1:Nat):Int) - 1) e=pr (qq p b) s ((p.cols - 1:Nat):Int) e (((p.cols - 1:Nat):Int) - 1) e by
   unfold pr;congr 1;exact propext ⟨fun z=>by lia,fun z=>by lia⟩,
   show pr (qq p b) s 0 p.rows ((p.cols - 1:Nat):Int) ((e:Int) - 1)=pr (qq p b) s ((p.cols - 1:Nat):Int) e ((p.cols - 1:Nat):Int) ((e:Int) - 1) by
   unfold pr;congr 1;exact propext ⟨fun z=>by lia,fun z=>by lia⟩]
 ·rw[dc (qq p b) s (p.cols - 1) e (by lia) (by lia)]
  unfold EV;rw[show pr (qq p b) s 0 p.rows (((p.cols - 1:Nat):Int) - 1) e=false by unfold pr;exact decide_eq_false (by lia),show pr (qq p b) s 0 p.rows ((p.cols - 1:Nat):Int) ((e:Int) - 1)=false by unfold pr;exact decide_eq_false (by lia),if_neg (by lia)];rfl
theorem CY{m w:Nat}{p:Parts}(G:Good m w p)(h4:m<=4){s:Int}{x:Str}{ps:List (Int × Int)}{v e:Int}(hs:0<=s/\s<p.rows)(he:0<=e/\e<p.rows)(h3:due p 0 s x=some (ps,v))(h4':aY (0,s) ps=(((p.cols - 1:Nat):Int),e)):-(2 ^ 64)<v/\v<2 ^ 64:=by
 have c1:=G.c1;have r1:=G.r1;have d:=dE h3;have b:=y7 G _ d.1 d.2;have hlen:(a9 x).length<=6:=by
  have ga:=jU p _ _ _ _ _ d.2;have hl:((0,s)::ps)[ps.length]?=some (aY (0,s) ps):=by
   unfold aY
   cases ps with
   |nil=>rfl
   |cons a b=>rw[List.length_cons,List.getElem?_cons_succ,List.getLast?_eq_getElem?,List.length_cons];simp
  have:=ga.2 _ _ hl;rw[h4'] at this;dsimp only at this;lia
 have hN:1000 ^ (a9 x).length<=1000 ^ 6:=Nat.pow_le_pow_right (by decide) hlen;have hc:(((1000 ^ (a9 x).length:Nat)):Int)=1000 ^ (a9 x).length:=by simp
 have h14:1000 ^ 6<2 ^ 63:=by decide
 rw[<- hc] at b;generalize 1000 ^ (a9 x).length=E at hN b;lia
def stL(ns:List Int)(p:Parts)(R:List Row)(b:Int × Int)(e4 e5 e6 e7 e8:Option D):ae:=[some (.scr ns),some p.d,some (.lst .f [.int b.1,.int b.2]),some (.lst .f (R.map bQ)),e4,e5,e6,e7,e8,none,none,none]
abbrev gbM(a:Ads):ae->FOut:=aw 6 (fFz (f2 bB (ad 6) (f2 dIx (aq 4 (cD a) (ac (ad 1) (ac (fC (.int 0)) (ac (ad 7) (ac (ad 8) ah))))) (fC (.int 1)))))
abbrev zb(a:Ads):ae->FOut:=(gIf (ftB (aq 1 (fI a) (ac (aq 2 (eD a) (ac (ad 1) (ac (ad 4) ah))) ah))) (ar (aw 6 (fFz (fC (.int 1))))
 (ar (bA (hV (ac (f2 dIx (ad 1) (fC (.int 2))) (ac (ad 4) ah))) (bG [7,8]) (gbM a))
 (aw 2 (fFz (bv (ac (f2 aL (f2 dIx (ad 2) (fC (.int 0))) (ad 6)) (ac (f2 aL (f2 dIx (ad 2) (fC (.int 1))) (fC (.int 1))) ah))))))) aP)
def jX(p:Parts)(b:Int × Int)(r:Row):Int × Int:=if fP p r=true then (b.1+c9 p r,b.2+1) else b
theorem xi(u v:Int):dIx (.lst .f [.int u,.int v]) (.int 0)=.ok (.int u)/\dIx (.lst .f [.int u,.int v]) (.int 1)=.ok (.int v):=⟨qK (k:=0) rfl rfl,qK (k:=1) rfl rfl⟩
theorem yJ(a:Ads){m w:Nat}{p:Parts}(G:Good m w p)(h4:m<=4)(hw:w<=4)(ns:List Int)(R:List Row)(r:Row)(ok:RowOk p p.starts r)(b:Int × Int)(e6 e7 e8:Option D) :
    ∃ e6' e7' e8',zb a (stL ns p R b (some (.lst .f (bF r))) (some (.lst .f (cu r))) e6 e7 e8)=.nx (stL ns p R (jX p b r) (some (.lst .f (bF r))) (some (.lst .f (cu r))) e6' e7' e8'):=by
 obtain ⟨el,sl,ei,si,s1⟩:=bL G;have z2:=ou .f r;have lp:=uD a G (by lia) hw ok;have ll:=ym a (bU p r) (wK G (by lia) hw ok);have zt:(D.lst .o ((bU p r).map cy)).fz=.lst .f ((bU p r).map cy):=by rw[aW,qV]
 have li:=yt (uH G (by lia) ok);by_cases hn:(bU p r).flatten.Nodup
 ·rw[decide_eq_true hn] at ll
  have hl:fP p r=true:=by unfold fP;rw[li.mp hn];rfl
  have e:jX p b r=(b.1+c9 p r,b.2+1):=by unfold jX;rw[if_pos hl]
  rw[e];have fi:hV (ac (f2 dIx (ad 1) (fC (.int 2))) (ac (ad 4) ah)) (stL ns p R b (some (.lst .f (bF r))) (some (.lst .f (cu r))) (some (.int 1)) e7 e8)=.ok ((p.starts.zip r).map fun q=>D.tup [.int q.1,.str q.2.1]):=by
   have hf:ac (f2 dIx (ad 1) (fC (.int 2))) (ac (ad 4) ah) (stL ns p R b (some (.lst .f (bF r))) (some (.lst .f (cu r))) (some (.int 1)) e7 e8)=.ok [.lst .f (p.starts.map D.int),.lst .f (bF r)]:=by unfold stL;(repeat' sizeOf_list_dec)
   unfold hV;rw[hf,bok];show (if Tg.f=Tg.b\/true=false\/Tg.f=Tg.b\/true=false then Res.bad else match some ((p.starts.map D.int).map D.asF),some ((bF r).map D.asF) with
    |some ys,some zs=>Res.ok (fG ys zs)
    |_,_=>.bad)=_
   rw[if_neg (by rintro (z | z | z | z)<;>cases z),cH,mq];show Res.ok (fG _ _)=_;rw[pd]
  obtain ⟨ρ',lq,f7,f8,hS⟩:=uC (gt:=bG [7,8]) (gb:=gbM a) (fun (q:Int × (Str × Nat))=>D.tup [.int q.1,.str q.2.1]) (fun t ρ=>∃ e7 e8,ρ=stL ns p R b (some (.lst .f (bF r))) (some (.lst .f (cu r))) (some (.int t)) e7 e8) (fun t q=>t*wt p q.1 q.2.1) (p.starts.zip r) 1 _ ⟨e7,e8,rfl⟩ (fun q hq t ρ ⟨e7,e8,hρ⟩=>by
   subst hρ
   obtain ⟨h1,h2,ps,v,e,h3,_,h5,h6⟩:=dO G (by lia) ok hq
   have we:=qP a G 0 q.1 q.2.1 h1 h2
   rw[h3] at we
   have we:cD a [p.d,.int 0,.int q.1,.str q.2.1]=.ok (.tup [.lst .f (((0,q.1)::ps).map plD),.int v]):=we
   have hv:wt p q.1 q.2.1=v:=lE (dE h3).2
   have mu:bB (.int t) (.int v)=.ok (.int (t*v)):=jQ _ _ (CY G h4 (si q.1 (List.of_mem_zip hq).1) h6 h3 h5)
   refine ⟨stL ns p R b (some (.lst .f (bF r))) (some (.lst .f (cu r))) (some (.int t)) (some (.int q.1)) (some (.str q.2.1)),rfl,_,?_,some (.int q.1),some (.str q.2.1),rfl⟩
   rw[hv]
   unfold stL
   (repeat' first|(with_reducible first|apply we|apply mu)|sizeOf_list_dec))
  subst hS;obtain ⟨i0,i1⟩:=xi b.1 b.2;have fz3:(D.lst .o [.int (b.1+c9 p r),.int (b.2+1)]).fz=.lst .f [.int (b.1+c9 p r),.int (b.2+1)]:=by rw[aW,ao,ao,aC,ay,ay]
  refine ⟨some (.int (c9 p r)),f7,f8,dQ (b:=true) (by unfold stL;(repeat' first|(with_reducible first|apply ll|apply lp|apply zt|apply z2)|sizeOf_list_dec)) rfl (aB (ρ':=stL ns p R b (some (.lst .f (bF r))) (some (.lst .f (cu r))) (some (.int 1)) e7 e8) (by unfold stL;(repeat' sizeOf_list_dec)) (aB (bE fi lq) ?_))⟩
  show aw 2 _ (stL ns p R b (some (.lst .f (bF r))) (some (.lst .f (cu r))) (some (.int (c9 p r))) f7 f8)=_;unfold stL;(repeat' first|(with_reducible first|apply i0|apply i1|apply fz3)|sizeOf_list_dec)
 ·rw[decide_eq_false hn] at ll
  have hl:fP p r=false:=by
   unfold fP
   cases hf:cw (bU p r) with
   |none=>exact absurd (li.mpr hf) hn
   |some z=>rfl
  have e:jX p b r=b:=by unfold jX;rw[hl];rfl
  rw[e];exact ⟨e6,e7,e8,dr (b:=false) (by unfold stL;(repeat' first|(with_reducible first|apply ll|apply lp|apply zt|apply z2)|sizeOf_list_dec)) rfl rfl⟩
theorem xj(p:Parts)(R:List Row):∀ b:Int × Int,R.foldl (jX p) b=(b.1+((R.filter (fP p)).map (c9 p)).sum,b.2+((R.filter (fP p)).length:Nat)):=by
 induction R with
 |nil=>intro b;simp
 |cons r R ih=>
  intro b;rw[List.foldl_cons,ih];unfold jX
  cases h:fP p r with
  |true=>
   rw[if_pos rfl,List.filter_cons_of_pos h,List.map_cons,List.sum_cons,List.length_cons];dsimp only;congr 1<;>lia
  |false=>rw[if_neg (by decide),List.filter_cons_of_neg (by simp[h])]
theorem AR(t t':Tg)(u v:Int):dNe (.lst t [.int u,.int v]) (.lst t' [.int u,.int v])=.ok (.bl false):=by
 have e:aU 4 (.lst t [.int u,.int v]) (.lst t' [.int u,.int v])=some true:=by simp[aU,eN]
 unfold dNe;rw[if_pos ⟨rfl,rfl⟩,e];rfl
abbrev zd(a:Ads):ae->FOut:=(ar (aw 11 (fFz (bv (ac (aq 1 (cN a) (ac (ad 9) ah)) (ac (aq 1 (ge a) (ac (ad 9) ah)) ah)))))
 (gIf (jJ (cY (ftB (aq 1 (dl a) (ac (f2 dIx (ad 11) (fC (.int 0))) ah)))) (jJ (cY (ftB (aq 1 (dl a) (ac (f2 dIx (ad 11) (fC (.int 1))) ah)))) (ft2 dNe (ad 11) (ad 2)))) (bc (fC (.bl false))) aP))
abbrev DW(a:Ads):ae->FOut:=(ar (aw 9 (fFz (aq 1 (gh a) (ac (ad 1) ah))))
 (ar (bA (b7 (ac (fC (.int 2)) ah)) (au 10) (zd a))
 (bc (fC (.bl true)))))
theorem tQ(a:Ads){m w:Nat}{p:Parts}(G:Good m w p)(h8:m<=8)(hw:w<=4)(ns:List Int)(e3 e4 e5 e6 e7 e8:Option D) :
    DW a [some (.scr ns),some p.d,some (.lst .f [.int (lap p.starts.length (p.starts.map (bR p))),.int (lap p.starts.length (p.starts.map (bR (aX p))))]),e3,e4,e5,e6,e7,e8,none,none,none]=.rt (.bl true):=by
 have lw:=lY a G h8 hw;have hm:=yH a G h8 hw;have nt:=Ae a h8 hw G;generalize lap p.starts.length (p.starts.map (bR p))=A at lw ⊢;generalize lap p.starts.length (p.starts.map (bR (aX p)))=B at hm ⊢;have wA:=nH a A;have wB:=nH a B;obtain ⟨i0,i1⟩:=xi A B;have dn:=AR .f .f A B;have fz3:(D.lst .o [.int A,.int B]).fz=.lst .f [.int A,.int B]:=by rw[aW,ao,ao,aC,ay,ay]
 have turn:∀ e10 e11:Option D,zd a [some (.scr ns),some p.d,some (.lst .f [.int A,.int B]),e3,e4,e5,e6,e7,e8,some (bM a p),e10,e11]=.nx [some (.scr ns),some p.d,some (.lst .f [.int A,.int B]),e3,e4,e5,e6,e7,e8,some (bM a p),e10,some (.lst .f [.int A,.int B])]:=fun e10 e11=>by
  refine aB (ρ':=[some (.scr ns),some p.d,some (.lst .f [.int A,.int B]),e3,e4,e5,e6,e7,e8,some (bM a p),e10,some (.lst .f [.int A,.int B])]) (by (repeat' first|(with_reducible first|apply lw|apply hm|apply fz3)|sizeOf_list_dec)) (dr (b:=!true||(!true||false)) ?_ rfl rfl);refine yd (uz (t_B ?_)) (yd (uz (t_B ?_)) ?_)
  ·(repeat' first|(with_reducible first|apply i0|apply wA)|sizeOf_list_dec)
  ·(repeat' first|(with_reducible first|apply i1|apply wB)|sizeOf_list_dec)
  ·(repeat' first|(with_reducible first|apply dn)|sizeOf_list_dec)
 refine aB (ρ':=[some (.scr ns),some p.d,some (.lst .f [.int A,.int B]),e3,e4,e5,e6,e7,e8,some (bM a p),none,none]) (by (repeat' first|(with_reducible first|apply nt)|sizeOf_list_dec)) (aB (bE (items:=aD 0 2) (dA rfl (by decide)) (bf (ρ1:=[some (.scr ns),some p.d,some (.lst .f [.int A,.int B]),e3,e4,e5,e6,e7,e8,some (bM a p),some (.int 0),none]) rfl (turn _ _) (bf (ρ1:=[some (.scr ns),some p.d,some (.lst .f [.int A,.int B]),e3,e4,e5,e6,e7,e8,some (bM a p),some (.int 1),some (.lst .f [.int A,.int B])]) rfl (turn _ _) sO))) ?_)
 exact gT rfl (ntb rfl)
theorem tR(q:Parts)(s e:Nat)(he:q.ends=[(e:Int)]):lap [(s:Int)].length ([(s:Int)].map (bR q))=cf q s (q.cols - 1) e:=by
 show lap 1 [bR q s]=_;unfold bR;rw[he];show lap 1 [[(b6 q s (q.cols - 1)).getD (e:Int).toNat 0]]=_;rw[L1,Int.toNat_natCast];rfl
theorem main(a:Ads)(ns:List Int)(h:ns.length<=63):pM a [.scr ns]=.ok (.bl true):=by
 have c8:aA a [.scr ns,.int 8]=.ok (.int (cell ns 8)):=sL a ns 8;have m3:=gS (cell ns 8) 3 (by decide);refine dW (ρ:=[some (.scr ns),none,none,none,none,none,none,none,none,none,none,none]) rfl ?_;unfold g_law
 have tt:ft2 dEq (f2 cS (aq 2 (aA a) (ac (ad 0) (ac (fC (.int 8)) ah))) (fC (.int 3))) (fC (.int 1)) [some (.scr ns),none,none,none,none,none,none,none,none,none,none,none]=.ok (decide (cell ns 8 % 3=1)):=by (repeat' first|(with_reducible first|apply c8|apply m3)|sizeOf_list_dec)
 by_cases hc:cell ns 8 % 3=1
 ·obtain ⟨p,G,d,hp,rfl⟩:=qI a ns 8 1 8 (by decide) (by decide) (by decide) (by decide)
  have hp:cq a [.scr ns,.int 8,.int 1,.int 8]=.ok p.d:=hp;obtain ⟨el,sl,ei,si,s1⟩:=bL G;have hS:∃ s:Nat,p.starts=[(s:Int)]/\s<p.rows:=by
   match hs:p.starts,sl with
   | [s],_=>
    have:=si s (by rw[hs];simp);exact ⟨s.toNat,by rw[show ((s.toNat:Nat):Int)=s by lia],by lia⟩
   | [],_=>rw[hs] at s1;simp at s1
   |_::_::_,q=>rw[hs] at sl;simp at sl;lia
  have hEn:∃ e:Nat,p.ends=[(e:Int)]/\e<p.rows:=by
   match hs:p.ends with
   | [s]=>
    have:=ei s (by rw[hs];simp);exact ⟨s.toNat,by rw[show ((s.toNat:Nat):Int)=s by lia],by lia⟩
   | []=>rw[hs] at sl;simp at sl;lia
   |_::_::_=>rw[hs] at el;simp at el
  obtain ⟨s,hs,hs2⟩:=hS;obtain ⟨e,he,he2⟩:=hEn;have q1:=rK a G (by decide) false s e (by rw[hs];rfl) (by rw[he];rfl) hs2 he2;have q2:=rK a G (by decide) true s e (by rw[hs];rfl) (by rw[he];rfl) hs2 he2;have t1:cf (qq p false) s (p.cols - 1) e=lap p.starts.length (p.starts.map (bR p)):=by
   rw[hs];exact (tR p s e he).symm
  have t2:cf (qq p true) s (p.cols - 1) e=lap p.starts.length (p.starts.map (bR (aX p))):=by
   rw[hs];exact (tR (aX p) s e he).symm
  rw[t1] at q1;rw[t2] at q2;have tl:=tQ a G (by decide) (by decide) ns none none none none none none;generalize lap p.starts.length (p.starts.map (bR p))=A at q1 tl;generalize lap p.starts.length (p.starts.map (bR (aX p)))=B at q2 tl;have fz3:(D.lst .o [.int A,.int B]).fz=.lst .f [.int A,.int B]:=by rw[aW,ao,ao,aC,ay,ay]
  refine aB (dQ tt (by simpa using hc) (aB (ρ':=[some (.scr ns),some p.d,none,none,none,none,none,none,none,none,none,none]) (by (repeat' first|(with_reducible first|apply hp)|sizeOf_list_dec)) (o:=.nx [some (.scr ns),some p.d,some (.lst .f [.int A,.int B]),none,none,none,none,none,none,none,none,none]) (by (repeat' first|(with_reducible first|apply q1|apply q2|apply fz3)|sizeOf_list_dec)))) tl
 ·obtain ⟨p,G,d,hp,rfl⟩:=qI a ns 4 4 8 (by decide) (by decide) (by decide) (by decide)
  have hp:cq a [.scr ns,.int 4,.int 4,.int 8]=.ok p.d:=hp;obtain ⟨el,sl,ei,si,s1⟩:=bL G;rcases pz a G (by decide) (by decide) 300 (by decide) with ⟨_,lc⟩ | ⟨R,hR,lc,okR,hRl⟩
  ·have lc:cx a [p.d,.int 300]=.ok .non:=lc
   exact dU (dr tt (by simpa using hc) (aB (ρ':=[some (.scr ns),some p.d,none,none,none,none,none,none,none,none,none,none]) (by (repeat' first|(with_reducible first|apply hp)|sizeOf_list_dec)) (aB (ρ':=[some (.scr ns),some p.d,none,some .non,none,none,none,none,none,none,none,none]) (by (repeat' first|(with_reducible first|apply lc)|sizeOf_list_dec)) (dU (dQ (b:=true) rfl rfl rfl)))))
  ·have lc:cx a [p.d,.int 300]=.ok (.lst .f (R.map bQ)):=lc
   have zr:(D.lst .f (R.map bQ)).fz=.lst .f (R.map bQ):=by rw[aW,jT]
   have hRa:R=a0 p p.starts:=wY p 300 p.starts [[]] R hR;have fz0:(D.lst .o [.int 0,.int 0]).fz=.lst .f [.int 0,.int 0]:=by rw[aW,ao,ao,aC,ay]
   have fi:aH (ad 3) (stL ns p R (0,0) none none none none none)=.ok (R.map bQ):=iI (xs:=R.map bQ) rfl (by rw[List.map_map];rfl);obtain ⟨ρ',lp,e4,e5,e6,e7,e8,hS⟩:=uC (gt:=bG [4,5]) (gb:=zb a) bQ (fun b ρ=>∃ e4 e5 e6 e7 e8,ρ=stL ns p R b e4 e5 e6 e7 e8) (jX p) R (0,0) _ ⟨none,none,none,none,none,rfl⟩ (fun r hr b ρ ⟨e4,e5,e6,e7,e8,hρ⟩=>by
    subst hρ
    obtain ⟨e6',e7',e8',ht⟩:=yJ a G (by decide) (by decide) ns R r (okR r hr) b e6 e7 e8
    exact ⟨stL ns p R b (some (.lst .f (bF r))) (some (.lst .f (cu r))) e6 e7 e8,rfl,_,ht,_,_,_,_,_,rfl⟩)
   subst hS;have fo:=xj p R (0,0);rw[hRa,rF G (by decide) (by decide),<- xb G (by decide) (by decide)] at fo;have fo:(a0 p p.starts).foldl (jX p) (0,0)=(lap p.starts.length (p.starts.map (bR p)),lap p.starts.length (p.starts.map (bR (aX p)))):=by rw[fo];simp
   rw[<- hRa] at fo;rw[fo] at lp;have tl:=tQ a G (by decide) (by decide) ns (some (.lst .f (R.map bQ))) e4 e5 e6 e7 e8
   refine aB (dr tt (by simpa using hc) (aB (ρ':=[some (.scr ns),some p.d,none,none,none,none,none,none,none,none,none,none]) (by (repeat' first|(with_reducible first|apply hp)|sizeOf_list_dec)) (aB (ρ':=[some (.scr ns),some p.d,none,some (.lst .f (R.map bQ)),none,none,none,none,none,none,none,none]) (by (repeat' first|(with_reducible first|apply lc|apply zr)|sizeOf_list_dec)) (aB (dr (b:=false) rfl rfl rfl) (aB (ρ':=stL ns p R (0,0) none none none none none) (by unfold stL;(repeat' first|(with_reducible first|apply fz0)|sizeOf_list_dec)) (bE fi lp)))))) tl
end Lw
open PySem PySem.W PyProof.Rows
set_option maxRecDepth 100000 in
set_option maxHeartbeats 0 in
theorem PySem.Challenge.cw_lonewalks_k12_whole_lone_weights_holds : PySem.Challenge.rw_lonewalks_k12_whole_lone_weights.Holds := by
 w_on;o_law
 refine holds_open (q:=Lw.vw) (loose:=[]) (Xt:=Lw.khX) (XP:=XL Lw.vw []) (Yf:=Hook.obs (kHook Lw.khK Lw.uq (fun _=>by kernel_rfl))) (Ya:=Hook.val (kHook Lw.khK Lw.uq (fun _=>by kernel_rfl))) (YP:=Hook.says (kHook Lw.khK Lw.uq (fun _=>by kernel_rfl))) (N:=Lw.khN) Lw.left (Hook.of _) (Hook.keeps _) (fun s e=>xl_of s (Bool.and_eq_true_iff.mp e).1) XL.keeps (by rfl) (by rfl) (by rfl) (fun s e=>recFacts_of (Bool.and_eq_true_iff.mp e).2) (by rfl) (by assumption) (by decide +kernel) ⟨rfl,rfl,rfl,rfl,rfl,by decide +kernel⟩ ?hw ?hc
 case hw=>w_witness2
 k_fill;refine Mi.Du (l:=PySem.Challenge.rw_lonewalks_k12_whole_lone_weights) (n:=63) (k:=6) (x := "script") rfl (by decide) rfl ⟨rfl,by decide,by decide⟩ (fun w h Y=>PySem.W.kIn_of Y) ?F
 case F=>
  intro w mg fa h KX G hmg
  refine' Lw.B7 Lw.main KX G hmg ?g_0 ?e_0 ?g_1 ?i_1 ?n_1 ?l_1 ?c_1 ?k_1 ?pg_1 ?hd_1 ?po_1 ?sa_1 ?mk_1 ?kc_1 ?na_Net_columns ?na_Net_ends ?na_Net_right ?na_Net_rows ?na_Net_starts ?na_Net_up ?U_17 ?U_18 ?U_16 ?U_19 ?U_27 ?U_28 ?U_21 ?U_26 ?U_20 ?U_24 ?U_25 ?U_22 ?U_3 ?U_6 ?U_15 ?U_10 ?U_12 ?U_8 ?U_7 ?U_11 ?U_14 ?U_2 ?U_4 ?U_9 ?U_5 ?U_13 ?g_law ?l_law ?c_law ?k_law ?b_all ?b_bool ?b_enumerate ?b_int ?b_isinstance ?b_len ?b_list ?b_max ?b_min ?b_range ?b_sorted ?b_zip ?v_MOST_SIDE ?v_MOST_WALKERS ?v_MOST_WEIGHT ?kt_bool_NoneType ?kt_bool_bool ?kt_bool_int ?kt_bool_str ?kt_bool_list ?kt_bool_tuple ?kt_bool_dict ?kt_int_NoneType ?kt_int_bool ?kt_int_int ?kt_int_str ?kt_int_list ?kt_int_tuple ?kt_int_dict ?nl
  (case g_0=>k_is);(case e_0=>k_exc);(case g_1=>k_is);(case i_1=>k_is);(case n_1=>k_is);(case l_1=>k_is);(case c_1=>k_is);(case k_1=>k_is);(case pg_1=>k_is);(case hd_1=>k_is);(case po_1=>k_is);(case sa_1=>k_is);(case mk_1=>k_is);(case kc_1=>k_is);(case na_Net_columns=>k_is);(case na_Net_ends=>k_is);(case na_Net_right=>k_is);(case na_Net_rows=>k_is);(case na_Net_starts=>k_is);(case na_Net_up=>k_is)
  (case U_17=>refine' Mi.cm KX G ?_ ?_ ?_ ?_ (fun _ _ _ _ _ _=>Lw.ar1 fun _=>rfl)<;>try k_is);(case U_18=>refine' Mi.cm KX G ?_ ?_ ?_ ?_ (fun _ _ _ _ _ _=>Lw.ar3 fun _ _ _=>rfl)<;>try k_is);(case U_16=>refine' Mi.cm KX G ?_ ?_ ?_ ?_ (fun _ _ _ _ _ _=>Lw.ar2 fun _ _=>rfl)<;>try k_is);(case U_19=>refine' Mi.cm KX G ?_ ?_ ?_ ?_ (fun _ _ _ _ _ _=>Lw.ar3 fun _ _ _=>rfl)<;>try k_is)
  (case U_27=>refine' Mi.cm KX G ?_ ?_ ?_ ?_ (fun _ _ _ _ _ _=>Lw.ar2 fun _ _=>rfl)<;>try k_is);(case U_28=>refine' Mi.cm KX G ?_ ?_ ?_ ?_ (fun _ _ _ _ _ _=>Lw.ar1 fun _=>rfl)<;>try k_is);(case U_21=>refine' Mi.cm KX G ?_ ?_ ?_ ?_ (fun _ _ _ _ _ _=>Lw.ar1 fun _=>rfl)<;>try k_is);(case U_26=>refine' Mi.cm KX G ?_ ?_ ?_ ?_ (fun _ _ _ _ _ _=>Lw.ar3 fun _ _ _=>rfl)<;>try k_is)
  (case U_20=>refine' Mi.cm KX G ?_ ?_ ?_ ?_ (fun _ _ _ _ _ _=>Lw.ar1 fun _=>rfl)<;>try k_is);(case U_24=>refine' Mi.cm KX G ?_ ?_ ?_ ?_ (fun _ _ _ _ _ _=>Lw.ar1 fun _=>rfl)<;>try k_is);(case U_25=>refine' Mi.cm KX G ?_ ?_ ?_ ?_ (fun _ _ _ _ _ _=>Lw.ar1 fun _=>rfl)<;>try k_is);(case U_22=>refine' Mi.cm KX G ?_ ?_ ?_ ?_ (fun _ _ _ _ _ _=>Lw.ar1 fun _=>rfl)<;>try k_is)
  (case U_3=>refine' Mi.cm KX G ?_ ?_ ?_ ?_ (fun _ _ _ _ _ _=>Lw.ar2 fun _ _=>rfl)<;>try k_is);(case U_6=>refine' Mi.cm KX G ?_ ?_ ?_ ?_ (fun _ _ _ _ _ _=>Lw.ar3 fun _ _ _=>rfl)<;>try k_is);(case U_15=>refine' Mi.cm KX G ?_ ?_ ?_ ?_ (fun _ _ _ _ _ _=>Lw.ar1 fun _=>rfl)<;>try k_is);(case U_10=>refine' Mi.cm KX G ?_ ?_ ?_ ?_ (fun _ _ _ _ _ _=>Lw.ar3 fun _ _ _=>rfl)<;>try k_is)
  (case U_12=>refine' Mi.cm KX G ?_ ?_ ?_ ?_ (fun _ _ _ _ _ _=>Lw.ar3 fun _ _ _=>rfl)<;>try k_is);(case U_8=>refine' Mi.cm KX G ?_ ?_ ?_ ?_ (fun _ _ _ _ _ _=>Lw.ar4 fun _ _ _ _=>rfl)<;>try k_is);(case U_7=>refine' Mi.cm KX G ?_ ?_ ?_ ?_ (fun _ _ _ _ _ _=>Lw.ar1 fun _=>rfl)<;>try k_is);(case U_11=>refine' Mi.cm KX G ?_ ?_ ?_ ?_ (fun _ _ _ _ _ _=>Lw.ar4 fun _ _ _ _=>rfl)<;>try k_is)
  (case U_14=>refine' Mi.cm KX G ?_ ?_ ?_ ?_ (fun _ _ _ _ _ _=>Lw.ar4 fun _ _ _ _=>rfl)<;>try k_is);(case U_2=>refine' Mi.cm KX G ?_ ?_ ?_ ?_ (fun _ _ _ _ _ _=>Lw.ar3 fun _ _ _=>rfl)<;>try k_is);(case U_4=>refine' Mi.cm KX G ?_ ?_ ?_ ?_ (fun _ _ _ _ _ _=>Lw.ar2 fun _ _=>rfl)<;>try k_is);(case U_9=>refine' Mi.cm KX G ?_ ?_ ?_ ?_ (fun _ _ _ _ _ _=>Lw.ar2 fun _ _=>rfl)<;>try k_is)
  (case U_5=>refine' Mi.cm KX G ?_ ?_ ?_ ?_ (fun _ _ _ _ _ _=>Lw.ar1 fun _=>rfl)<;>try k_is);(case U_13=>refine' Mi.cm KX G ?_ ?_ ?_ ?_ (fun _ _ _ _ _ _=>Lw.ar2 fun _ _=>rfl)<;>try k_is);(case g_law=>k_is);(case l_law=>k_is);(case c_law=>k_is);(case k_law=>k_is);(case b_all=>k_is);(case b_bool=>k_is);(case b_enumerate=>k_is);(case b_int=>k_is);(case b_isinstance=>k_is);(case b_len=>k_is)
  (case b_list=>k_is);(case b_max=>k_is);(case b_min=>k_is);(case b_range=>k_is);(case b_sorted=>k_is);(case b_zip=>k_is);(case v_MOST_SIDE=>k_is);(case v_MOST_WALKERS=>k_is);(case v_MOST_WEIGHT=>k_is);(case kt_bool_NoneType=>kit_is);(case kt_bool_bool=>kit_is);(case kt_bool_int=>kit_is);(case kt_bool_str=>kit_is);(case kt_bool_list=>kit_is);(case kt_bool_tuple=>kit_is);(case kt_bool_dict=>kit_is)
  (case kt_int_NoneType=>kit_is);(case kt_int_bool=>kit_is);(case kt_int_int=>kit_is);(case kt_int_str=>kit_is);(case kt_int_list=>kit_is);(case kt_int_tuple=>kit_is);(case kt_int_dict=>kit_is);(case nl=>(first | rfl | decide | (with_unfolding_all rfl)))
