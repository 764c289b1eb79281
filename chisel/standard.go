package chisel

// standard has the rules of consts first: where nothing is picked, a mul of
// consts then never becomes a shl, for whose 3 there must be a free v number.
const standard = `(add #a #b) => !(add #a #b)
(sub #a #b) => !(sub #a #b)
(mul #a #b) => !(mul #a #b)
(and #a #b) => !(and #a #b)
(or #a #b) => !(or #a #b)
(xor #a #b) => !(xor #a #b)
(shl #a #b) => !(shl #a #b)
(shr #a #b) => !(shr #a #b)
(eq #a #b) => !(eq #a #b)
(lt #a #b) => !(lt #a #b)
(neg #a) => !(neg #a)
(not #a) => !(not #a)
(sub x x) => 0
(and x x) => x
(or x x) => x
(xor x x) => 0
(eq x x) => 1
(lt x x) => 0
(neg (neg x)) => x
(not (not x)) => x
(add x 0) => x
(add 0 x) => x
(sub x 0) => x
(sub 0 x) => (neg x)
(mul x 0) => 0
(mul 0 x) => 0
(mul x 1) => x
(mul 1 x) => x
(mul x 8) => (shl x 3)
(and x 0) => 0
(or x 0) => x
(xor x 0) => x
(shl x 0) => x
(shr x 0) => x
`
