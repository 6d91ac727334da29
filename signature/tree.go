package signature

import (
	"keystone/api"
	"keystone/digest"
)

// leafNode is the node of a leaf whose chains have these ends.
func leafNode(leaf byte, e ends) string {
	m := digest.Begin(kindLeaf, leaf)
	for _, end := range e {
		m = m.Text(end)
	}
	return m.End()
}

// nodeAbove is the node above two.
func nodeAbove(left, right string) string {
	return digest.Begin(kindAbove).Text(left).Text(right).End()
}

// nodeAboveAt is the node above the one at a place of its level and the one
// beside that: at even places stand left ones.
func nodeAboveAt(place int, node, beside string) string {
	if place%2 == 0 {
		return nodeAbove(node, beside)
	}
	return nodeAbove(beside, node)
}

// leafNodes has the nodes of all leaves of a seed: the lowest level.
func leafNodes(seed string) []string {
	nodes := make([]string, api.Leaves)
	for leaf := range nodes {
		nodes[leaf] = seedLeafNode(seed, byte(leaf))
	}
	return nodes
}

func seedLeafNode(seed string, leaf byte) string {
	var e ends
	for chain := range e {
		e[chain] = seedLink(seed, leaf, byte(chain), lastLink)
	}
	return leafNode(leaf, e)
}

// levelAbove has the nodes above those of a level.
func levelAbove(below []string) []string {
	nodes := make([]string, len(below)/2)
	for i := range nodes {
		nodes[i] = nodeAbove(below[2*i], below[2*i+1])
	}
	return nodes
}
