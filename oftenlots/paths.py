"""Baskets as paths of a tree, the cuts of trees, and the often lots that grow by cuts of cuts.

A tree is a list of nodes (parent, thing, count), the root (-1, -1, count) first; a way is a tuple (lot, times).
"""

from oftenlots.lots import has_thing, things_in, with_thing


def order(book, least):
    return order_of(basket_ways(book), least)


def basket_ways(book):
    return [(basket, 1) for basket in book[1]]


def order_of(ways, least):
    times = times_of_things(ways)
    rising = [thing for thing in sorted(times) if times[thing] >= least]
    # Of as many the lesser thing stays first: sorted keeps the order of what is alike.
    return sorted(rising, key=lambda thing: -times[thing])


def times_of_things(ways):
    times = {}
    for way in ways:
        for thing in things_in(way[0]):
            times[thing] = times.get(thing, 0) + way[1]
    return times


def tree_of(book, least):
    return tree_of_ways(basket_ways(book), least)


def tree_of_ways(ways, least):
    things = order_of(ways, least)
    nodes = [[-1, -1, 0]]
    children = {}
    for way in ways:
        put_way(nodes, children, [thing for thing in things if has_thing(way[0], thing)], way[1])
    return [tuple(node) for node in nodes]


def put_way(nodes, children, things, times):
    node = nodes[0]
    node[2] = node[2] + times
    place = 0
    for thing in things:
        if (place, thing) not in children:
            children[(place, thing)] = len(nodes)
            nodes.append([place, thing, 0])
        place = children[(place, thing)]
        node = nodes[place]
        node[2] = node[2] + times


def ends(tree):
    ending = [node[2] for node in tree]
    for node in tree[1:]:
        ending[node[0]] = ending[node[0]] - node[2]
    return sorted([row for row in zip(lots_of_nodes(tree), ending) if row[1] > 0])


# Each parent is ahead of its children, so its own lot is there by then.
def lots_of_nodes(tree):
    lots = [0]
    for node in tree[1:]:
        lots.append(with_thing(lots[node[0]], node[1]))
    return lots


def cut_tree(tree, thing, least):
    lots = lots_of_nodes(tree)
    ways = [(lots[node[0]], node[2]) for node in tree[1:] if node[1] == thing]
    return tree_of_ways(ways, least)


def grown(book, least):
    tree = tree_of(book, least)
    if tree[0][2] < least:
        return []
    return sorted(grown_from(tree, least, 0))


# A thing's cut holds only what is ahead of it, so each lot grows once: by its last thing, then the one ahead of that.
def grown_from(tree, least, lot):
    told = [(lot, tree[0][2])]
    for thing in sorted(set([node[1] for node in tree[1:]])):
        told.extend(grown_from(cut_tree(tree, thing, least), least, with_thing(lot, thing)))
    return told
