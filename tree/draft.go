package tree

import (
	"cmp"
	"slices"
	"strings"

	"chandler/api"
	"chandler/journal"
	"chandler/node"
)

// A node other than the root has at least so much, or few pairs would stand in many nodes. Both nodes that Split makes of one have it, whatever stands there: no entry of a leaf weighs more than a quarter of a sector, and eight of another node weigh less than half of one. So a node that has less is mended by joining it with a neighbour, and splitting them again where they don't fit one sector.
const (
	// leastWeight is that of a leaf.
	leastWeight = api.Size / 4
	// leastKids are those of any other node. They are counted, for what they weigh hangs on which sectors they are given in the end.
	leastKids = 8
)

// firstNew is the number of the first new node; no sector has it, nor those that follow.
const firstNew = api.MaxSectors

// draft is a change of a tree that is under way: what the tree will be, if the disk takes it. In all nodes but leaves each kid's key is the lowest one below it.
type draft struct {
	anchor
	// before is the tree as it is. Its nodes are left as they are, for the disk may refuse the change.
	before *Tree
	// nodes are those that are new or changed, by their numbers; one without entries says that nothing stands there any more.
	nodes map[int]node.Node
	// fresh is how many numbers new nodes were given.
	fresh int
}

func newDraft(t *Tree) *draft {
	return &draft{anchor: t.anchor, before: t, nodes: make(map[int]node.Node)}
}

// alterAll lets the changes come about.
func (d *draft) alterAll(changes []Change) {
	// What takes room away goes first, so that in between there is never more than ahead of all changes or behind them: what fits one leaf then stays in one.
	var growing []Change
	for _, c := range changes {
		if d.grows(c) {
			growing = append(growing, c)
		} else {
			d.alter(c)
		}
	}
	for _, c := range growing {
		d.alter(c)
	}
}

// grows tells whether a change asks for more room than its key had ahead of all changes.
func (d *draft) grows(c Change) bool {
	value, there := d.before.Get(c.Key)
	return !c.Gone && (!there || len(c.Value) > len(value))
}

// alter lets a change come about.
func (d *draft) alter(c Change) {
	if d.root == noRoot {
		if !c.Gone {
			d.root = d.put(altered(node.Node{Leaf: true}, c))
		}
		return
	}
	tops := d.alterBelow(d.root, c)
	switch len(tops) {
	case 0:
		d.root = noRoot
	case 1:
		d.root = d.lowered(tops[0])
	default:
		d.root = d.put(d.withKids(node.Node{}, 0, 0, tops))
	}
}

// lowered answers the root, or its kid, if that is the only one.
func (d *draft) lowered(root int) int {
	n := d.node(root)
	if len(n.Kids) != 1 {
		return root
	}
	d.drop(root)
	return n.Kids[0]
}

// alterBelow lets a change come about in a node or below it, and answers the numbers of the nodes that take its place.
func (d *draft) alterBelow(at int, c Change) []int {
	n := d.node(at)
	if n.Leaf {
		return d.settle(at, altered(n, c))
	}
	i, _ := node.Place(n, c.Key)
	n = d.withKids(n, i, i+1, d.alterBelow(n.Kids[i], c))
	return d.settle(at, d.mended(n, i))
}

// altered answers the leaf as the change leaves it.
func altered(n node.Node, c Change) node.Node {
	at, there := node.Place(n, c.Key)
	behind := at
	if there {
		behind = at + 1
	} else if len(n.Keys) > 0 && n.Keys[at] < c.Key {
		at, behind = at+1, at+1
	}
	var keys, values []string
	if !c.Gone {
		keys, values = []string{strings.Clone(c.Key)}, []string{strings.Clone(c.Value)}
	}
	return node.Node{Leaf: true, Keys: replaced(n.Keys, at, behind, keys), Values: replaced(n.Values, at, behind, values)}
}

// withKids answers the node with these kids in the place of those from one number on, up to another.
func (d *draft) withKids(n node.Node, from, to int, kids []int) node.Node {
	var keys []string
	for _, kid := range kids {
		keys = append(keys, d.node(kid).Keys[0])
	}
	return node.Node{Keys: replaced(n.Keys, from, to, keys), Kids: replaced(n.Kids, from, to, kids)}
}

// replaced answers a new list, with these items in the place of those from one number on, up to another.
func replaced[E any](list []E, from, to int, items []E) []E {
	return slices.Concat(list[:from], items, list[to:])
}

// mended answers the node with its kid of that number joined with a neighbour, if the kid is lean. (There is a neighbour, for a node above others has two kids or more; and a kid is never gone whole by one change, for it had more than one entry.)
func (d *draft) mended(n node.Node, i int) node.Node {
	if !isLean(d.node(n.Kids[i])) {
		return n
	}
	first := max(i-1, 0)
	left, right := n.Kids[first], n.Kids[first+1]
	joined := node.Join(d.node(left), d.node(right))
	d.drop(right)
	return d.withKids(n, first, first+2, d.settle(left, joined))
}

// isLean tells whether a node has too little to stand beside others.
func isLean(n node.Node) bool {
	if n.Leaf {
		return node.Weight(n) < leastWeight
	}
	return len(n.Kids) < leastKids
}

// settle keeps a node under its number, or what fits there, and answers all numbers that it takes.
func (d *draft) settle(at int, n node.Node) []int {
	if isNone(n) {
		d.drop(at)
		return nil
	}
	parts := node.Split(n)
	d.nodes[at] = parts[0]
	numbers := []int{at}
	for _, part := range parts[1:] {
		numbers = append(numbers, d.put(part))
	}
	return numbers
}

// put keeps a new node, and answers its number.
func (d *draft) put(n node.Node) int {
	at := firstNew + d.fresh
	d.fresh++
	d.nodes[at] = n
	return at
}

// drop lets nothing stand under a number any more.
func (d *draft) drop(at int) {
	d.nodes[at] = node.Node{}
}

// node answers the node of a number, or none.
func (d *draft) node(at int) node.Node {
	if n, ok := d.nodes[at]; ok {
		return n
	}
	return d.before.nodes[at]
}

// isNone tells that there is no node, for each that there is has entries.
func isNone(n node.Node) bool {
	return len(n.Keys) == 0
}

// findSectors gives the new nodes sectors, of as many as there are, and tells whether they are enough. The lowest that are free are given, so that all that were ever in use stand ahead of those that never were.
func (d *draft) findSectors(sectors int) bool {
	given := make(map[int]int)
	free := anchorAt + 1
	for at := firstNew; at < firstNew+d.fresh; at++ {
		n := d.nodes[at]
		delete(d.nodes, at)
		if isNone(n) {
			continue
		}
		for !isNone(d.node(free)) {
			free++
		}
		if free >= sectors {
			return false
		}
		d.nodes[free] = n
		given[at] = free
	}
	d.renumber(given)
	return true
}

// renumber lets new nodes be named by the sectors that they were given.
func (d *draft) renumber(given map[int]int) {
	if at, ok := given[d.root]; ok {
		d.root = at
	}
	for _, n := range d.nodes {
		for i, kid := range n.Kids {
			if at, ok := given[kid]; ok {
				n.Kids[i] = at
			}
		}
	}
}

// written answers the journal's sectors that the draft changes.
func (d *draft) written() ([]journal.Change, api.Errno) {
	var changes []journal.Change
	if d.anchor != d.before.anchor {
		changes = append(changes, journal.Change{At: anchorAt, Data: d.anchor.bytes()})
	}
	for at, n := range d.nodes {
		if isNone(n) || areAlike(n, d.before.nodes[at]) {
			continue
		}
		data, e := node.Encode(n)
		if e != api.OK {
			return nil, e
		}
		changes = append(changes, journal.Change{At: at, Data: data})
	}
	slices.SortFunc(changes, func(a, b journal.Change) int { return cmp.Compare(a.At, b.At) })
	return changes, api.OK
}

// areAlike tells whether two nodes are the same, so that a sector needn't be written again.
func areAlike(a, b node.Node) bool {
	return a.Leaf == b.Leaf && slices.Equal(a.Keys, b.Keys) && slices.Equal(a.Values, b.Values) && slices.Equal(a.Kids, b.Kids)
}
