package cache

// counters count how often what was asked for was kept, and how often not.
type counters struct {
	hits, misses int
}

// Hits answers how often a string was kept when its program was asked for.
func (c *counters) Hits() int { return c.hits }

// Misses answers how often it was not.
func (c *counters) Misses() int { return c.misses }

func (c *counters) hit() { c.hits++ }

func (c *counters) miss() { c.misses++ }
