package tree

import (
	"strings"

	"chandler/api"
	"chandler/node"
	"chandler/pack"
)

// load reads the whole tree. All that an Apply relies on must be so, for on a disk may stand anything.
func (t *Tree) load() api.Errno {
	data, e := t.journal.Read(anchorAt)
	if e != api.OK {
		return e
	}
	a, ok := readAnchor(data, t.journal.Len())
	if !ok {
		return api.ErrTree
	}
	t.anchor = a
	if t.root == noRoot {
		return api.OK
	}
	if _, e := t.loadBelow(t.root); e != api.OK {
		return e
	}
	if !isRoot(t.nodes[t.root]) || !t.rises() {
		return api.ErrTree
	}
	return api.OK
}

// readAnchor answers what the bytes of the journal's sector 0 tell, and whether a tree on so many sectors may have written them.
func readAnchor(data string, sectors int) (anchor, bool) {
	root, behind, e := pack.ReadUint(data, 0)
	// Held against the sectors as it came, for a great number would pass for a small one as an int.
	if e != api.OK || root >= uint64(sectors) || strings.Trim(data[behind:], "\x00") != "" {
		return anchor{}, false
	}
	return anchor{root: int(root)}, true
}

// loadBelow reads the node of a sector and all nodes below it, and answers how many levels they have.
func (t *Tree) loadBelow(at int) (int, api.Errno) {
	n, e := t.loadNode(at)
	if e != api.OK {
		return 0, e
	}
	levels := 0
	for i, kid := range n.Kids {
		below, e := t.loadBelow(kid)
		if e != api.OK {
			return 0, e
		}
		if i > 0 && below != levels || !isKid(t.nodes[kid], n.Keys[i]) {
			return 0, api.ErrTree
		}
		levels = below
	}
	return levels + 1, api.OK
}

// loadNode reads the node of a sector that was not read before, for none stands in a tree twice.
func (t *Tree) loadNode(at int) (node.Node, api.Errno) {
	if _, met := t.nodes[at]; met || at >= t.journal.Len() {
		return node.Node{}, api.ErrTree
	}
	data, e := t.journal.Read(at)
	if e != api.OK {
		return node.Node{}, e
	}
	n, e := node.Decode(data)
	if e != api.OK {
		return node.Node{}, api.ErrTree
	}
	t.nodes[at] = n
	return n, api.OK
}

// isRoot tells whether a node may be the root: it has a pair, or two kids at least.
func isRoot(n node.Node) bool {
	return len(n.Keys) > 1 || n.Leaf && len(n.Keys) == 1
}

// isKid tells whether a node may stand below another one that has it with this key.
func isKid(n node.Node, key string) bool {
	return !isLean(n) && n.Keys[0] == key
}

// rises tells whether the keys of all leaves are in their order.
func (t *Tree) rises() bool {
	last := ""
	for key := range t.pairs("") {
		if key <= last {
			return false
		}
		last = key
	}
	return true
}
