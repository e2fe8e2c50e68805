package lang

// thing is what a name stands for: an integer, or, if there is one, a region, which may be stored into or not.
type thing struct {
	reg    int // the register that it is in
	region *region
	stores bool
}

// names is what is known of names at some place in a compartment.
type names interface {
	find(name string) (thing, bool)
	visible() int // how many params and lets there are
}

// headNames are the regions of a compartment's head.
type headNames map[string]thing

func (h headNames) find(name string) (thing, bool) {
	t, is := h[name]
	return t, is
}

func (h headNames) visible() int { return 0 }

// blockNames are the params of a function, or the lets of a block, and all that is known around.
type blockNames struct {
	names
	own map[string]thing
}

func (b *blockNames) find(name string) (thing, bool) {
	if t, is := b.own[name]; is {
		return t, true
	}
	return b.names.find(name)
}

func (b *blockNames) visible() int {
	return len(b.own) + b.names.visible()
}

// add makes a name visible up to the end of the block.
func (b *blockNames) add(name string, t thing) {
	b.own[name] = t
}

// wide is what is known in all of a text.
type wide struct {
	regions   map[string]*region
	functions map[string]*function
	taken     map[string]int // the names of regions, compartments and functions so far, by the token at which they are
}

// everywhere gathers the regions and functions of a text, as functions may be called ahead of where they stand. Of several of one name the first one is meant.
func everywhere(p *program) wide {
	w := wide{map[string]*region{}, map[string]*function{}, map[string]int{}}
	for _, r := range p.regions {
		if w.regions[r.name.text] == nil {
			w.regions[r.name.text] = r
		}
	}
	for _, c := range p.comps {
		w.mean(c.head...)
		for _, f := range c.functions {
			w.function(f)
		}
	}
	return w
}

func (w wide) function(f *function) {
	if w.functions[f.name.text] == nil {
		w.functions[f.name.text] = f
	}
	for _, p := range f.params {
		if p.lent != nil {
			w.mean(p.lent)
		}
	}
}

// mean finds the regions that are lent.
func (w wide) mean(l ...*use) {
	for _, u := range l {
		u.is = w.regions[u.region.text]
	}
}

// scope is all that is known where one stands: everywhere, and in the block at hand alone.
type scope struct {
	wide
	*blockNames
}

// enter begins a block, and answers the one that was at hand, so that the names of the new one can be taken back.
func (s *scope) enter(around names) *blockNames {
	was := s.blockNames
	s.blockNames = &blockNames{names: around, own: map[string]thing{}}
	return was
}

// leave takes back the names that have come since.
func (s *scope) leave(was *blockNames) {
	s.blockNames = was
}
