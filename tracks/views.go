package tracks

import "aneroid/api"

// A seat is a node of a stage.
type seat struct{ stage, node int }

// A view is a track as it is seen from its first stage, or from its last one.
type view interface {
	// size returns how many stages there are.
	size() int
	// next returns, for each node of a stage, its edges to the stage behind it.
	next(stage int) [][]api.Edge
	// allowed returns what is allowed in a node.
	allowed(s seat) []api.Span
}

// ahead is a track that is seen from its first stage.
type ahead api.Track

func (v ahead) size() int { return len(v.Stages) }

func (v ahead) next(stage int) [][]api.Edge {
	edges := make([][]api.Edge, len(v.Stages[stage]))
	for i, n := range v.Stages[stage] {
		edges[i] = n.Next
	}
	return edges
}

func (v ahead) allowed(s seat) []api.Span { return v.Stages[s.stage][s.node].Allowed }

// turned is a track that is seen from its last stage: its edges lead back.
type turned api.Track

func (v turned) size() int { return len(v.Stages) }

func (v turned) next(stage int) [][]api.Edge {
	at := v.mirror(stage)
	var nodes []api.Node
	if at > 0 {
		nodes = v.Stages[at-1]
	}
	edges := rooms(nodes, len(v.Stages[at]))
	for i, n := range nodes {
		for _, e := range n.Next {
			back := api.Edge{To: i, Change: negative(e.Change)}
			edges[e.To] = append(edges[e.To], back)
		}
	}
	return edges
}

// rooms returns an empty list for each node of the next stage, with room for one edge for each edge that leads to it from nodes; count is how many nodes it has.
func rooms(nodes []api.Node, count int) [][]api.Edge {
	counts := make([]int, count)
	total := 0
	for _, n := range nodes {
		total += len(n.Next)
		for _, e := range n.Next {
			counts[e.To]++
		}
	}
	// One array for all lists, as there are many: each has a part of its own, and no room beyond it.
	array := make([]api.Edge, total)
	lists := make([][]api.Edge, count)
	for i, n := range counts {
		lists[i] = array[:0:n]
		array = array[n:]
	}
	return lists
}

func (v turned) allowed(s seat) []api.Span {
	return v.Stages[v.mirror(s.stage)][s.node].Allowed
}

// mirror returns which stage of the track is a stage of the view.
func (v turned) mirror(stage int) int { return len(v.Stages) - 1 - stage }

func negative(s api.Span) api.Span { return api.Span{Lo: -s.Hi, Hi: -s.Lo} }

// limited is a view in which only some of the allowed values are left at some seats.
type limited struct {
	view
	left map[seat][]api.Span
}

func (v limited) allowed(s seat) []api.Span {
	if values, ok := v.left[s]; ok {
		return values
	}
	return v.view.allowed(s)
}
