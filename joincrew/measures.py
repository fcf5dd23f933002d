"""The measures of tracks."""


# (work, depth, forks), as of the whole program.
def measured(track):
    work = track.length
    depth = track.length
    forks = 0
    for mark in track.marks:
        if len(mark.forked) > 0:
            one = measured(mark.forked[0])
            other = measured(mark.forked[1])
            work += one[0] + other[0]
            depth += max(one[1], other[1])
            forks = max(forks, 1 + one[2], 1 + other[2])
    return (work, depth, forks)
