package shape

import (
	"ctrie/api"
	"ctrie/bitmap"
	"ctrie/look"
	"ctrie/view"
)

// place is an I-node of a trie, and where it is.
type place struct {
	gen int
	// above is the generation of the I-node above. The root, which has none, has
	// its own generation here.
	above int
	level int
	// prefix has an index for each level above. A number of 64 bits could not
	// keep it: at level 10 there are indices that no hash value has as a slice.
	prefix   [api.MaxLevel]int
	main     api.Node
	branches []branch
}

// branch is a branch of the main node of an I-node.
type branch struct {
	index int
	ref   api.Ref
	node  api.Node
}

// placesOf returns the places of the I-nodes of a trie.
func placesOf(s api.State, t api.Trie) ([]place, api.Errno) {
	inner, e := view.Inner(s, t)
	if e != api.OK {
		return nil, e
	}
	root := inner[0]
	at := map[api.Ref]place{root: {above: look.Node(s, root).Gen}}
	var l []place
	// An I-node is listed after the one above it, which knows its place.
	for _, in := range inner {
		p := filled(s, in, at[in])
		for _, b := range p.branches {
			if b.node.Kind == api.KindI {
				at[b.ref] = below(p, b.index)
			}
		}
		l = append(l, p)
	}
	return l, api.OK
}

// filled returns the place p of an I-node together with what is there.
func filled(s api.State, in api.Ref, p place) place {
	m, _ := look.Main(s, in)
	p.gen, p.main = look.Node(s, in).Gen, look.Node(s, m)
	for i, index := range bitmap.Indices(p.main.Bitmap) {
		r := p.main.Branches[i]
		p.branches = append(p.branches, branch{index, r, look.Node(s, r)})
	}
	return p
}

// below returns the place of the I-node that is a branch of the one at p.
func below(p place, index int) place {
	down := place{above: p.gen, level: p.level + 1, prefix: p.prefix}
	down.prefix[p.level] = index
	return down
}
