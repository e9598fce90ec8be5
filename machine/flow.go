package machine

// flow is pipes between nodes, by which as much as possible is to go from node 0 to node 1.
type flow struct {
	pipes []pipe  // the one at i^1 leads back by the one at i
	from  [][]int // of each node: the pipes that begin there
	depth []int   // of each node: how many pipes it is away from node 0 (0: it can't be reached)
	next  []int   // of each node: how many of its pipes were tried in vain
}

type pipe struct {
	to, room int
}

func newFlow() *flow { return &flow{from: make([][]int, 2)} }

func (f *flow) node() int {
	f.from = append(f.from, nil)
	return len(f.from) - 1
}

func (f *flow) join(a, b, room int) {
	f.from[a] = append(f.from[a], len(f.pipes))
	f.from[b] = append(f.from[b], len(f.pipes)+1)
	f.pipes = append(f.pipes, pipe{b, room}, pipe{a, 0})
}

// most lets as much go as can, and tells how much.
func (f *flow) most() int {
	sum := 0
	for f.measure() {
		f.next = make([]int, len(f.from))
		for n := f.push(0, never); n > 0; n = f.push(0, never) {
			sum += n
		}
	}
	return sum
}

// measure finds the depths of all nodes, and tells whether node 1 can be reached.
func (f *flow) measure() bool {
	f.depth = make([]int, len(f.from))
	f.depth[0] = 1
	for queue := []int{0}; len(queue) > 0; queue = queue[1:] {
		for _, i := range f.from[queue[0]] {
			if p := f.pipes[i]; p.room > 0 && f.depth[p.to] == 0 {
				f.depth[p.to] = f.depth[queue[0]] + 1
				queue = append(queue, p.to)
			}
		}
	}
	return f.depth[1] > 0
}

// push lets up to n go from a node on, by one way that goes deeper at each step.
func (f *flow) push(node, n int) int {
	if node == 1 {
		return n
	}
	for ; f.next[node] < len(f.from[node]); f.next[node]++ {
		i := f.from[node][f.next[node]]
		p := f.pipes[i]
		if p.room == 0 || f.depth[p.to] != f.depth[node]+1 {
			continue
		}
		if got := f.push(p.to, min(n, p.room)); got > 0 {
			f.pipes[i].room -= got
			f.pipes[i^1].room += got
			return got
		}
	}
	return 0
}
