package resync_test

import (
	"fmt"
	"testing"

	"keelson/api"
)

// absence is how a chip was gone, so that it must come back.
type absence struct {
	name string
	set  func(x *scene, chip, nodes int)
}

// absences are many of them; there are so many nodes then.
func absences() []absence {
	// Each of the nodes is another one behind that.
	fence := func(x *scene, chip, nodes int) {
		x.commits(filled(0, nodes, "old")...)
		x.fences(chip, filled(0, nodes, "new")...)
	}
	return []absence{
		{"all are other ones", fence},
		{"none is another one", func(x *scene, chip, nodes int) { x.commits(filled(0, nodes, "old")...); x.fences(chip) }},
		{"all have other keys", func(x *scene, chip, nodes int) {
			x.commits(filled(0, nodes, "old")...)
			changes := filled(100, nodes, "new")
			for key := range nodes {
				changes = append(changes, gone(key))
			}
			x.fences(chip, changes...)
		}},
		{"a blank chip", func(x *scene, chip, nodes int) { fence(x, chip, nodes); x.puts(chip, x.blank(16)) }},
		{"a blank chip with bad blocks", func(x *scene, chip, nodes int) { fence(x, chip, nodes); x.puts(chip, x.blank(16, 3, 15)) }},
		{"a greater chip in a member's place", func(x *scene, chip, nodes int) {
			x.commits(filled(0, nodes, "old")...)
			x.puts(chip, x.blank(40))
		}},
		{"it isn't up", func(x *scene, chip, nodes int) { fence(x, chip, nodes); x.puts(chip, x.chips[chip]) }},
		{"a member that was left behind, and isn't up", func(x *scene, chip, nodes int) {
			x.commits(filled(0, nodes, "old")...)
			x.commitsAlone(1-chip, filled(0, nodes, "new")...)
			x.puts(chip, x.chips[chip])
		}},
		{"a member that is ahead, and isn't up", func(x *scene, chip, nodes int) {
			x.commits(filled(0, nodes, "old")...)
			x.commitsAlone(chip, filled(0, nodes, "new")...)
			x.puts(chip, x.chips[chip])
		}},
		{"it has gone on by itself", func(x *scene, chip, nodes int) {
			fence(x, chip, nodes)
			for i := range 9 {
				x.commitsAlone(chip, change(i, "by itself"))
			}
		}},
		{"it isn't Sound", func(x *scene, chip, nodes int) {
			x.commits(filled(0, nodes, "old")...)
			x.fences(chip)
			x.spoil(chip, nodes-1)
			x.anew()
		}},
		{"another Resync has staged all", func(x *scene, chip, nodes int) {
			fence(x, chip, nodes)
			for range 1 + nodes {
				x.steps("another one", false, api.OK)
			}
			x.over(x.Mirror)
		}},
		{"what is staged isn't there any more", func(x *scene, chip, nodes int) {
			fence(x, chip, nodes)
			for range 1 + nodes {
				x.steps("ahead", false, api.OK)
			}
			x.commits(gone(0))
		}},
	}
}

// P15.4: however it was gone, behind at most Most Steps both are members, and up, and each one alone has the same nodes.
func TestBack(t *testing.T) {
	for _, a := range absences() {
		for chip := range 2 {
			for _, nodes := range []int{1, 5, 19} {
				x := made(t, fmt.Sprintf("%s, the chip %d, %d nodes", a.name, chip, nodes), 16)
				a.set(x, chip, nodes)
				all := read(x.Mirror)
				x.back()
				x.is("back", all)
				x.quiet("back", true, api.OK)
				x.alone(all)
			}
		}
	}
}

// P15.4: so it is of chips with many blocks, with as many nodes as there may be.
func TestBackMany(t *testing.T) {
	x := made(t, "40 blocks", 40)
	x.commits(filled(0, x.Limit(), "old")...)
	x.fences(0, filled(0, x.Limit(), "new")...)
	if n := x.back(); n != x.Limit()+3 {
		t.Errorf("%d Steps", n)
	}
	x.puts(1, x.blank(40))
	if n := x.back(); n != x.Limit()+4 {
		t.Errorf("%d Steps", n)
	}
	x.alone(read(x.Mirror))
}

// P15.4: and if acts of either chip fail meanwhile, as long as there are spares.
func TestBackFailing(t *testing.T) {
	for _, a := range absences()[:9] {
		for chip := range 2 {
			for which := range 30 {
				x := made(t, fmt.Sprintf("%s, the chip %d, the acts %d fail", a.name, chip, which), 16)
				a.set(x, chip, 5)
				all := read(x.Mirror)
				x.chips[chip].Fail(true, which)
				x.chips[chip].Fail(false, which)
				x.chips[1-chip].Fail(true, which/15)
				x.back()
				for _, c := range x.chips {
					c.Fail(true)
					c.Fail(false)
				}
				x.alone(all)
			}
		}
	}
}
